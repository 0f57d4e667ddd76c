/-
  The mathematics of the reference's ReadUint.
-/
import Derived.Test.YtdnbkiaolimfjaaM2
namespace Go.Proofs.Ytdnbkiaolimfjaa
/-- the value of groups of 7 bits, the least first -/
def gval : List UInt8 → Nat
  | [] => 0
  | b :: r => b.toNat % 128 + 128 * gval r
/-- the first n bytes are groups that are not the last one -/
def Leads (l : List UInt8) (n : Nat) : Prop := n ≤ l.length ∧ ∀ x ∈ l.take n, 128 ≤ x.toNat
theorem Leads.zero (l : List UInt8) : Leads l 0 := ⟨Nat.zero_le _, fun x h => by simp at h⟩
theorem Leads.succ {l : List UInt8} {n : Nat} (h : Leads l n) (hn : n < l.length) (hx : 128 ≤ l[n].toNat) : Leads l (n + 1) := by
  refine ⟨hn, fun x hm => ?_⟩
  rw [List.take_succ_eq_append_getElem hn] at hm
  rcases List.mem_append.1 hm with hm | hm
  · exact h.2 x hm
  · rw [List.mem_singleton.1 hm]; exact hx
theorem fnum_skip : ∀ (n : Nat) (l : List UInt8) (i acc : Nat), Leads l n → i + n ≤ 9 → fnum l i acc = fnum (l.drop n) (i + n) (acc + gval (l.take n) * 128 ^ i) := by
  intro n
  induction n with
  | zero => intro l i acc _ _; simp [gval]
  | succ n ih =>
    intro l i acc h hi
    cases l with
    | nil => have := h.1; simp at this
    | cons b r =>
      have hb : 128 ≤ b.toNat := h.2 b (by simp)
      have hr : Leads r n := ⟨by have := h.1; simp at this; omega, fun x hx => h.2 x (by simp [hx])⟩
      rw [fnum, if_neg (by omega), if_pos hb, ih r (i + 1) _ hr (by omega), List.drop_succ_cons, List.take_succ_cons, gval]
      congr 1
      · omega
      · rw [Nat.pow_succ, Nat.add_mul, Nat.add_assoc, Nat.mul_comm (128 ^ i), ← Nat.mul_assoc, Nat.mul_comm 128 (gval _)]
theorem rd_long (l : List UInt8) (h : Leads l 10) : fnum l 0 0 = (0, 0, 7) := by
  have h9 : Leads l 9 := ⟨by have := h.1; omega, fun x hx => h.2 x (List.take_subset_take_left l (by omega) hx)⟩
  have hl : 9 < l.length := by have := h.1; omega
  rw [fnum_skip 9 l 0 0 h9 (by omega), List.drop_eq_getElem_cons hl, fnum, if_pos]
  refine ⟨rfl, ?_⟩
  have := h.2 l[9] (List.mem_take_iff_getElem.2 ⟨9, by omega, rfl⟩)
  omega
theorem rd_short (l : List UInt8) (h : Leads l l.length) (h9 : l.length ≤ 9) : fnum l 0 0 = (0, 0, 6) := by
  rw [fnum_skip l.length l 0 0 h (by omega), List.drop_length, fnum]
theorem rd_bad (l : List UInt8) (n : Nat) (h : Leads l n) (hn : n < l.length) (h9 : n ≤ 9) (hx : l[n].toNat < 128) (hb : (n = 9 ∧ 1 < l[n].toNat) ∨ (l[n].toNat = 0 ∧ 0 < n)) : fnum l 0 0 = (0, 0, 7) := by
  rw [fnum_skip n l 0 0 h (by omega), List.drop_eq_getElem_cons hn, fnum]
  rcases hb with hb | hb
  · rw [if_pos ⟨by omega, hb.2⟩]
  · by_cases h1 : 0 + n = 9 ∧ 1 < l[n].toNat
    · rw [if_pos h1]
    · rw [if_neg h1, if_neg (by omega), if_pos ⟨hb.1, by omega⟩]
theorem gval_snoc (l : List UInt8) (x : UInt8) : gval (l ++ [x]) = gval l + x.toNat % 128 * 128 ^ l.length := by
  induction l with
  | nil => simp [gval]
  | cons b r ih => rw [List.cons_append, gval, ih, gval, List.length_cons, Nat.pow_succ, Nat.mul_add, Nat.add_assoc, Nat.mul_comm (128 ^ r.length), Nat.mul_left_comm]
theorem rd_ok (l : List UInt8) (n : Nat) (h : Leads l n) (hn : n < l.length) (h9 : n ≤ 9) (hx : l[n].toNat < 128) (hb : ¬ (n = 9 ∧ 1 < l[n].toNat)) (hb2 : ¬ (l[n].toNat = 0 ∧ 0 < n)) : fnum l 0 0 = (gval (l.take (n + 1)), n + 1, 0) := by
  rw [fnum_skip n l 0 0 h (by omega), List.drop_eq_getElem_cons hn, fnum, if_neg (by omega), if_neg (by omega), if_neg (by omega), List.take_succ_eq_append_getElem hn, gval_snoc]
  have : (l.take n).length = n := by rw [List.length_take]; omega
  rw [this]
  simp
theorem gval_drop (t : List UInt8) (i : Nat) (h : i < t.length) : gval (t.drop i) = 128 * gval (t.drop (i + 1)) + t[i].toNat % 128 := by
  rw [List.drop_eq_getElem_cons h, gval, Nat.add_comm]
theorem gval_drop_le (t : List UInt8) (i : Nat) : gval (t.drop i) ≤ gval t := by
  induction i generalizing t with
  | zero => simp
  | succ i ih =>
    cases t with
    | nil => simp
    | cons b r => rw [List.drop_succ_cons, gval]; have := ih r; omega
theorem rd_lt (l : List UInt8) (n : Nat) (h : fnum l 0 0 = (gval (l.take (n + 1)), n + 1, 0)) : gval (l.take (n + 1)) < 18446744073709551616 := by
  have := fnum_val l
  rw [h] at this
  exact this
theorem rUint_of (l : List UInt8) (v k e : Nat) (h : fnum l 0 0 = (v, k, e)) : rUint ⟨l, 0⟩ = (v, ⟨l.drop k, e⟩) := by
  rw [rUint_ok _ rfl, h]
end Go.Proofs.Ytdnbkiaolimfjaa

/-
  Reading a proper prefix of what was written.
-/
import Derived.Test.YtdnbkiaolimfjaaD2
namespace Go.Proofs.Ytdnbkiaolimfjaa
/-- a proper prefix -/
def Cut (p x : List UInt8) : Prop := ∃ q, q ≠ [] ∧ x = p ++ q
theorem Cut.split {p x r : List UInt8} (h : Cut p (x ++ r)) : (Cut p x) ∨ ∃ p', p = x ++ p' ∧ Cut p' r := by
  obtain ⟨q, hq, e⟩ := h
  rcases List.append_eq_append_iff.1 e with ⟨t, h1, h2⟩ | ⟨t, h1, h2⟩
  · exact .inr ⟨t, h1, q, hq, h2⟩
  · cases t with
    | nil => exact .inr ⟨[], by simpa using h1.symm, q, hq, by simpa using h2.symm⟩
    | cons y t => exact .inl ⟨y :: t, by simp, h1⟩
theorem cut_len {p x : List UInt8} (h : Cut p x) : p.length < x.length := by
  obtain ⟨q, hq, rfl⟩ := h
  have : 0 < q.length := List.length_pos_iff.2 hq
  rw [List.length_append]; omega
theorem rUint_cut (n : Nat) (p : List UInt8) (h : n < 18446744073709551616) (hc : Cut p (encU n)) : rUint ⟨p, 0⟩ = (0, ⟨p, 6⟩) := by
  rw [rUint_ok _ rfl]
  have := fnum_cut n p 0 0 (by simpa using h) (by omega) hc
  simp only [this, List.drop_zero]
theorem rInt_cut (n : Int) (p : List UInt8) (h1 : -9223372036854775808 ≤ n) (h2 : n ≤ 9223372036854775807) (hc : Cut p (encI n)) : rInt ⟨p, 0⟩ = (0, ⟨p, 6⟩) := by
  have z0 : zag 0 = 0 := by decide
  unfold rInt
  rw [rUint_cut (zig n) p (zig_lt n h1 h2) hc]
  simp only [z0]
theorem rBool_cut (b : Bool) (p : List UInt8) (hc : Cut p (encB b)) : (rBool ⟨p, 0⟩).2.e = 6 := by
  have h := cut_len hc
  have h1 : (encB b).length = 1 := by cases b <;> rfl
  have : p = [] := List.eq_nil_of_length_eq_zero (by omega)
  subst this
  rfl
theorem rLen_cut (n : Nat) (p : List UInt8) (most : Int) (h : n < 18446744073709551616) (h0 : 0 ≤ most) (hc : Cut p (encU n)) : rLen ⟨p, 0⟩ most = (0, ⟨p, 6⟩) := by
  unfold rLen
  rw [rUint_cut n p h hc, if_neg (by simp only; omega)]
theorem rText_cut (s p : List UInt8) (most : Int) (h : s.length < 18446744073709551616) (hm : (s.length : Int) ≤ most) (hc : Cut p (encT s)) : (rText ⟨p, 0⟩ most).2.e = 6 := by
  unfold rText
  rcases Cut.split hc with h1 | ⟨p', rfl, h2⟩
  · rw [rLen_cut _ _ most h (by omega) h1, if_neg (by simp)]
  · rw [rLen_enc _ _ most h hm]
    have := cut_len h2
    rw [if_pos (by simpa using this)]
    rfl
theorem rIntsGo_cut (l : List Int) : ∀ (acc : List Int) (p : List UInt8), Ok64 l → Cut p (l.flatMap encI) → (rIntsGo l.length acc ⟨p, 0⟩).2.e = 6 := by
  induction l with
  | nil => intro acc p _ hc; have := cut_len hc; simp at this
  | cons x t ih =>
    intro acc p h hc
    have hx := h x (by simp)
    rw [List.flatMap_cons] at hc
    rw [List.length_cons, rIntsGo]
    rcases Cut.split hc with h1 | ⟨p', rfl, h2⟩
    · rw [rInt_cut x p hx.1 hx.2 h1, if_neg (by simp)]
    · rw [rInt_enc x p' hx.1 hx.2, if_pos rfl]
      exact ih _ p' (fun y hy => h y (by simp [hy])) h2
theorem rInts_cut (l : List Int) (p : List UInt8) (most : Int) (h : Ok64 l) (hl : l.length < 18446744073709551616) (hm : (l.length : Int) ≤ most) (hc : Cut p (encL l)) : (rInts ⟨p, 0⟩ most).2.e = 6 := by
  unfold rInts
  rcases Cut.split hc with h1 | ⟨p', rfl, h2⟩
  · rw [rLen_cut _ _ most hl (by omega) h1]
    rfl
  · rw [rLen_enc _ _ most hl hm]
    exact rIntsGo_cut l [] p' h h2
theorem rVal_cut (k : Nat) (p : PV) (x : List UInt8) (h : PFits p 20) (hc : Cut x (encP k p)) : (rVal k ⟨x, 0⟩ 20).2.e = 6 := by
  have hs := h.s
  have hl := h.l
  unfold rVal
  unfold encP at hc
  by_cases h0 : k % 5 = 0
  · rw [if_pos h0] at hc ⊢; rw [rUint_cut p.u x h.u hc]
  · rw [if_neg h0] at hc ⊢
    by_cases h1 : k % 5 = 1
    · rw [if_pos h1] at hc ⊢; rw [rInt_cut p.n x h.n1 h.n2 hc]
    · rw [if_neg h1] at hc ⊢
      by_cases h2 : k % 5 = 2
      · rw [if_pos h2] at hc ⊢; exact rBool_cut p.b x hc
      · rw [if_neg h2] at hc ⊢
        by_cases h3 : k % 5 = 3
        · rw [if_pos h3] at hc ⊢; exact rText_cut p.s x 20 (by omega) (by omega) hc
        · rw [if_neg h3] at hc ⊢; exact rInts_cut p.l x 20 h.l64 (by omega) (by omega) hc
theorem rIntsGo_len (n : Nat) : ∀ (acc : List Int) (s : RS), (rIntsGo n acc s).2.l.length ≤ s.l.length := by
  induction n with
  | zero => intro acc s; exact Nat.le_refl _
  | succ n ih =>
    intro acc s
    have h1 : (rInt s).2.l.length ≤ s.l.length := rUint_len s
    rw [rIntsGo]
    split
    · exact Nat.le_trans (ih _ _) h1
    · exact h1
theorem rVal_len (k : Nat) (s : RS) (most : Int) : (rVal k s most).2.l.length ≤ s.l.length := by
  unfold rVal
  split
  · exact rUint_len s
  · split
    · exact rUint_len s
    · split
      · unfold rBool
        split
        · obtain ⟨l, e⟩ := s
          cases l <;> simp
        · exact Nat.le_refl _
      · split
        · unfold rText
          have h := rLen_len s most
          split
          · exact h
          · simp only [List.length_drop]; omega
        · exact Nat.le_trans (rIntsGo_len _ _ _) (rLen_len s most)
/-- where WireCut's loop stands: the rest of the bytes is a proper prefix of the rest of the encodings, or the error is recorded -/
def CutAt (rest : List UInt8) (l : List UInt8) (e : Nat) : Prop := (e = 0 ∧ Cut l rest) ∨ e = 6
theorem CutAt.step {m : VM} {r l : List UInt8} {e : Nat} (h : CutAt (encV m ++ r) l e) (hf : PFits m.pv 20) : CutAt r (rVal m.k ⟨l, e⟩ 20).2.l (rVal m.k ⟨l, e⟩ 20).2.e := by
  rcases h with ⟨rfl, hc⟩ | rfl
  · rcases Cut.split hc with h1 | ⟨p', rfl, h2⟩
    · exact .inr (rVal_cut m.k m.pv l hf h1)
    · rw [rVal_at m p' hf]
      exact .inl ⟨rfl, h2⟩
  · rw [rVal_err m.k l 6 (by omega) 20]
    exact .inr rfl
theorem CutAt.last {l : List UInt8} {e : Nat} (h : CutAt [] l e) : e = 6 := by
  rcases h with ⟨_, hc⟩ | h
  · have := cut_len hc; simp at this
  · exact h
theorem encU_pos (n : Nat) : encU n ≠ [] := fun h => by have := encU_len_pos n; rw [h] at this; simp at this
theorem encV_pos (m : VM) : encV m ≠ [] := by
  unfold encV
  split
  · exact encU_pos _
  · split
    · exact encU_pos _
    · split
      · unfold encB; split <;> simp
      · split
        · unfold encT; intro h; exact encU_pos _ (List.append_eq_nil_iff.1 h).1
        · unfold encL; intro h; exact encU_pos _ (List.append_eq_nil_iff.1 h).1
end Go.Proofs.Ytdnbkiaolimfjaa

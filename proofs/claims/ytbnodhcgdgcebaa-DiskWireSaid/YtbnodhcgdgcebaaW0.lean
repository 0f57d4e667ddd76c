/-
  What a reader reads: a machine over the bytes that are left and the error.
-/
import Derived.Test.YtbnodhcgdgcebaaU5
namespace Go.Proofs.Ytbnodhcgdgcebaa
/-- the bytes that are left, the error -/
structure RS where
  l : List UInt8
  e : Nat
def RS.fail (s : RS) (f : Nat) : RS := ⟨s.l, if s.e = 0 then f else s.e⟩
def rUint (s : RS) : Nat × RS := if s.e = 0 then ((fnum s.l 0 0).1, ⟨s.l.drop (fnum s.l 0 0).2.1, (fnum s.l 0 0).2.2⟩) else (0, s)
def rInt (s : RS) : Int × RS := (zag (rUint s).1, (rUint s).2)
def rBool (s : RS) : Bool × RS := if s.e = 0 then (match s.l with | [] => (false, ⟨[], 6⟩) | b :: r => (b.toNat == 1, ⟨r, if 1 < b.toNat then 7 else 0⟩)) else (false, s)
def rLen (s : RS) (most : Int) : Nat × RS := if most < 0 ∨ most < ((rUint s).1 : Int) then (0, (rUint s).2.fail 2) else rUint s
def rText (s : RS) (most : Int) : List UInt8 × RS := if (rLen s most).2.l.length < (rLen s most).1 then ([], (rLen s most).2.fail 6) else ((rLen s most).2.l.take (rLen s most).1, ⟨(rLen s most).2.l.drop (rLen s most).1, (rLen s most).2.e⟩)
def rIntsGo : Nat → List Int → RS → List Int × RS
  | 0, acc, s => (acc, s)
  | n + 1, acc, s => if (rInt s).2.e = 0 then rIntsGo n (acc ++ [(rInt s).1]) (rInt s).2 else ([], (rInt s).2)
def rInts (s : RS) (most : Int) : List Int × RS := rIntsGo (rLen s most).1 [] (rLen s most).2
theorem fnum_size : ∀ (l : List UInt8) (i acc : Nat), (fnum l i acc).2.1 ≤ i + l.length := by
  intro l
  induction l with
  | nil => intro i acc; simp [fnum]
  | cons b r ih =>
    intro i acc
    rw [fnum]
    split
    · simp
    · split
      · have := ih (i + 1) (acc + b.toNat % 128 * 128 ^ i); simp only [List.length_cons]; omega
      · split
        · simp
        · simp only [List.length_cons]; omega
theorem fnum_size_pos : ∀ (l : List UInt8) (i acc : Nat), (fnum l i acc).2.2 = 0 → i < (fnum l i acc).2.1 := by
  intro l
  induction l with
  | nil => intro i acc h; simp [fnum] at h
  | cons b r ih =>
    intro i acc h
    rw [fnum] at h ⊢
    split at h
    · simp at h
    · rename_i h1
      rw [if_neg h1]
      split at h
      · rename_i h2; rw [if_pos h2]; have := ih _ _ h; omega
      · rename_i h2
        rw [if_neg h2]
        split at h
        · simp at h
        · rename_i h3; rw [if_neg h3]; simp
theorem fnum_val (l : List UInt8) : (fnum l 0 0).1 < 18446744073709551616 := by
  rcases fnum_err l 0 0 with h | h | h
  · have hv : fnum l 0 0 = ((fnum l 0 0).1, (fnum l 0 0).2.1, 0) := by rw [Prod.ext_iff, Prod.ext_iff]; exact ⟨rfl, rfl, h⟩
    obtain ⟨n, r, _, hv, _, hn, _⟩ := fnum_ok l 0 0 _ _ hv (by omega)
    rw [hv]; simpa using hn
  · rw [h]; decide
  · rw [h]; decide
theorem rUint_val (s : RS) : (rUint s).1 < 18446744073709551616 := by
  unfold rUint
  split
  · exact fnum_val _
  · show 0 < 18446744073709551616
    omega
theorem rUint_err (s : RS) (h : s.e ≠ 0) : rUint s = (0, s) := by unfold rUint; rw [if_neg h]
theorem rUint_ok (s : RS) (h : s.e = 0) : rUint s = ((fnum s.l 0 0).1, ⟨s.l.drop (fnum s.l 0 0).2.1, (fnum s.l 0 0).2.2⟩) := by unfold rUint; rw [if_pos h]
theorem rUint_len (s : RS) : (rUint s).2.l.length ≤ s.l.length := by
  unfold rUint
  split
  · simp
  · exact Nat.le_refl _
theorem rUint_shorter (s : RS) (h : s.e = 0) (h2 : (rUint s).2.e = 0) : (rUint s).2.l.length < s.l.length := by
  rw [rUint_ok s h] at h2 ⊢
  simp only [List.length_drop] at h2 ⊢
  have h3 := fnum_size_pos _ _ _ h2
  have h4 := fnum_size s.l 0 0
  omega
theorem rInt_bd (s : RS) : -9223372036854775808 ≤ (rInt s).1 ∧ (rInt s).1 ≤ 9223372036854775807 := zag_bd _ (rUint_val s)
theorem rLen_len (s : RS) (most : Int) : (rLen s most).2.l.length ≤ s.l.length := by
  unfold rLen
  split
  · exact rUint_len s
  · exact rUint_len s
theorem rInt_ok (s : RS) (h : (rInt s).2.e = 0) : s.e = 0 := by
  unfold rInt at h
  by_cases he : s.e = 0
  · exact he
  · rw [rUint_err s he] at h; exact h
theorem rIntsGo_ok (n : Nat) : ∀ (acc : List Int) (s : RS), (∀ x ∈ acc, -9223372036854775808 ≤ x ∧ x ≤ 9223372036854775807) → ∀ x ∈ (rIntsGo n acc s).1, -9223372036854775808 ≤ x ∧ x ≤ 9223372036854775807 := by
  induction n with
  | zero => intro acc s h; exact h
  | succ n ih =>
    intro acc s h
    rw [rIntsGo]
    split
    · exact ih _ _ (fun x hx => by
        rcases List.mem_append.1 hx with hx | hx
        · exact h x hx
        · rw [List.mem_singleton.1 hx]; exact rInt_bd s)
    · intro x hx; cases hx
theorem rText_len (s : RS) (most : Int) : (rText s most).1.length ≤ s.l.length := by
  unfold rText
  split
  · simp
  · have := rLen_len s most
    simp only [List.length_take]
    omega
end Go.Proofs.Ytbnodhcgdgcebaa

/-
  What is read without an error is the encoding of what was read.
-/
import Derived.Test.YtgmidhngchjoaaaM4
namespace Go.Proofs.Ytgmidhngchjoaaa
theorem rUint_dec (s : RS) (h : (rUint s).2.e = 0) : s.e = 0 ∧ s.l = encU (rUint s).1 ++ (rUint s).2.l := by
  by_cases he : s.e = 0
  · refine ⟨he, ?_⟩
    rw [rUint_ok s he] at h ⊢
    simp only at h ⊢
    have hv : fnum s.l 0 0 = ((fnum s.l 0 0).1, (fnum s.l 0 0).2.1, 0) := by rw [Prod.ext_iff, Prod.ext_iff]; exact ⟨rfl, rfl, h⟩
    obtain ⟨n, r, h1, h2, h3, _, _⟩ := fnum_ok s.l 0 0 _ _ hv (by omega)
    rw [h2, h3, h1]
    simp
  · rw [rUint_err s he] at h
    exact absurd h he
theorem rInt_dec (s : RS) (h : (rInt s).2.e = 0) : s.e = 0 ∧ s.l = encI (rInt s).1 ++ (rInt s).2.l := by
  have h2 := rUint_dec s h
  refine ⟨h2.1, ?_⟩
  unfold rInt encI
  simp only [zig_zag]
  exact h2.2
theorem rBool_dec (s : RS) (h : (rBool s).2.e = 0) : s.e = 0 ∧ s.l = encB (rBool s).1 ++ (rBool s).2.l := by
  obtain ⟨l, e⟩ := s
  unfold rBool at h ⊢
  by_cases he : e = 0
  · subst he
    refine ⟨rfl, ?_⟩
    cases l with
    | nil => simp at h
    | cons b r =>
      simp only [if_true] at h ⊢
      have hb : ¬ 1 < b.toNat := by
        intro hb
        rw [if_pos hb] at h
        exact absurd h (by omega)
      have h01 : b.toNat = 0 ∨ b.toNat = 1 := by omega
      rcases h01 with h0 | h1
      · have : b = 0 := UInt8.toNat_inj.1 (by rw [h0]; rfl)
        subst this
        rfl
      · have : b = 1 := UInt8.toNat_inj.1 (by rw [h1]; rfl)
        subst this
        rfl
  · rw [if_neg he] at h
    exact absurd h he
theorem rLen_dec (s : RS) (most : Int) (h : (rLen s most).2.e = 0) : s.e = 0 ∧ s.l = encU (rLen s most).1 ++ (rLen s most).2.l := by
  unfold rLen at h ⊢
  by_cases hm : most < 0 ∨ most < ((rUint s).1 : Int)
  · rw [if_pos hm] at h
    simp only [RS.fail] at h
    split at h <;> omega
  · rw [if_neg hm] at h ⊢
    exact rUint_dec s h
theorem rText_dec (s : RS) (most : Int) (h : (rText s most).2.e = 0) : s.e = 0 ∧ s.l = encT (rText s most).1 ++ (rText s most).2.l := by
  unfold rText at h ⊢
  by_cases hm : (rLen s most).2.l.length < (rLen s most).1
  · rw [if_pos hm] at h
    simp only [RS.fail] at h
    split at h <;> omega
  · rw [if_neg hm] at h ⊢
    have h2 := rLen_dec s most h
    refine ⟨h2.1, ?_⟩
    unfold encT
    simp only [List.length_take]
    rw [Nat.min_eq_left (by omega), List.append_assoc, List.take_append_drop]
    exact h2.2
theorem rIntsGo_dec (n : Nat) : ∀ (acc : List Int) (s : RS), (rIntsGo n acc s).2.e = 0 → s.e = 0 ∧ ∃ t, (rIntsGo n acc s).1 = acc ++ t ∧ t.length = n ∧ s.l = t.flatMap encI ++ (rIntsGo n acc s).2.l := by
  induction n with
  | zero => intro acc s h; exact ⟨h, [], by simp [rIntsGo], rfl, by simp [rIntsGo]⟩
  | succ n ih =>
    intro acc s h
    rw [rIntsGo] at h ⊢
    by_cases he : (rInt s).2.e = 0
    · rw [if_pos he] at h ⊢
      obtain ⟨_, t, h1, h2, h3⟩ := ih _ _ h
      have hd := rInt_dec s he
      refine ⟨hd.1, (rInt s).1 :: t, by rw [h1]; simp, by simp [h2], ?_⟩
      rw [hd.2]
      rw [List.flatMap_cons, List.append_assoc, ← h3]
    · rw [if_neg he] at h
      exact absurd h he
theorem rInts_dec (s : RS) (most : Int) (h : (rInts s most).2.e = 0) : s.e = 0 ∧ s.l = encL (rInts s most).1 ++ (rInts s most).2.l := by
  unfold rInts at h ⊢
  obtain ⟨he, t, h1, h2, h3⟩ := rIntsGo_dec _ _ _ h
  have hd := rLen_dec s most he
  refine ⟨hd.1, ?_⟩
  unfold encL
  rw [h1, List.nil_append, h2, List.append_assoc, ← h3]
  exact hd.2
theorem rVal_dec (k : Nat) (s : RS) (most : Int) (h : (rVal k s most).2.e = 0) : s.e = 0 ∧ s.l = encP k (rVal k s most).1 ++ (rVal k s most).2.l := by
  unfold rVal at h ⊢
  unfold encP
  by_cases h0 : k % 5 = 0
  · simp only [if_pos h0] at h ⊢; exact rUint_dec s h
  · simp only [if_neg h0] at h ⊢
    by_cases h1 : k % 5 = 1
    · simp only [if_pos h1] at h ⊢; exact rInt_dec s h
    · simp only [if_neg h1] at h ⊢
      by_cases h2 : k % 5 = 2
      · simp only [if_pos h2] at h ⊢; exact rBool_dec s h
      · simp only [if_neg h2] at h ⊢
        by_cases h3 : k % 5 = 3
        · simp only [if_pos h3] at h ⊢; exact rText_dec s most h
        · simp only [if_neg h3] at h ⊢; exact rInts_dec s most h
theorem rIntsGo_cnt (n : Nat) : ∀ (acc : List Int) (s : RS), (rIntsGo n acc s).1.length ≤ acc.length + s.l.length := by
  induction n with
  | zero => intro acc s; exact Nat.le_add_right _ _
  | succ n ih =>
    intro acc s
    rw [rIntsGo]
    split
    · rename_i he
      have h1 := ih (acc ++ [(rInt s).1]) (rInt s).2
      have h2 : (rInt s).2.l.length < s.l.length := rUint_shorter s (rInt_ok s he) he
      rw [List.length_append, List.length_singleton] at h1
      omega
    · simp
theorem rVal_sz (k : Nat) (s : RS) (most : Int) : (rVal k s most).1.s.length ≤ s.l.length ∧ (rVal k s most).1.l.length ≤ s.l.length := by
  unfold rVal
  split
  · simp
  · split
    · simp
    · split
      · simp
      · split
        · exact ⟨rText_len s most, by simp⟩
        · refine ⟨by simp, ?_⟩
          have h1 := rIntsGo_cnt (rLen s most).1 [] (rLen s most).2
          have h2 := rLen_len s most
          simp only [List.length_nil, Nat.zero_add] at h1
          exact Nat.le_trans h1 h2
theorem VShort.of_pv {D : Nat → Prop} {w : Go.World} {m : VM} (h : VOk D w m) (h1 : m.pv.s.length ≤ 1000000) (h2 : m.pv.l.length ≤ 1000000) : VShort m := by
  have e3 : m.s.size = m.s.data.toList.length := by rw [Array.length_toList]; rfl
  have e4 := h.l.1
  have e5 : m.pv.s = m.s.data.toList := rfl
  have e6 : m.pv.l = m.l := rfl
  rw [e5] at h1
  rw [e6] at h2
  exact ⟨by omega, by omega⟩
end Go.Proofs.Ytgmidhngchjoaaa

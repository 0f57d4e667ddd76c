/-
  Plain mathematics for the digest seat: blocks of parts.
-/
import Derived.Test.YtdfpjhpkkhdpoaaDoorA8
namespace Go.Proofs.YtdfpjhpkkhdpoaaDoor
theorem absTo_app (hs : List (BitVec 32)) (x y : List UInt8) (k : Nat) (h : 64 * k ≤ x.length) : absTo hs (x ++ y) k = absTo hs x k := by
  induction k with
  | zero => rfl
  | succ k ih =>
    rw [absTo, absTo, ih (by omega)]
    congr 2
    rw [List.drop_append_of_le_length (by omega), List.take_append_of_le_length (by rw [List.length_drop]; omega)]
theorem absTo_shift (hs : List (BitVec 32)) (x y : List UInt8) (j : Nat) (hx : x.length = 64 * j) (k : Nat) : absTo hs (x ++ y) (j + k) = absTo (absTo hs x j) y k := by
  induction k with
  | zero => exact absTo_app hs x y j (by omega)
  | succ k ih =>
    rw [← Nat.add_assoc, absTo, absTo, ih]
    congr 2
    rw [show 64 * (j + k) = x.length + 64 * k by omega, List.drop_append]
    rw [List.drop_of_length_le (by omega)]
    simp
theorem absH_app (hs : List (BitVec 32)) (x y : List UInt8) (h : x.length % 64 = 0) : absH hs (x ++ y) = absH (absH hs x) y := by
  unfold absH
  have := absTo_shift hs x y (x.length / 64) (by omega) (y.length / 64)
  rw [List.length_append, show (x.length + y.length) / 64 = x.length / 64 + y.length / 64 by omega]
  exact this
theorem absR_app (x y : List UInt8) (h : x.length % 64 = 0) : absR (x ++ y) = absR y := by
  unfold absR
  rw [List.length_append, show 64 * ((x.length + y.length) / 64) = x.length + 64 * (y.length / 64) by omega, List.drop_append]
  rw [List.drop_of_length_le (by omega)]
  simp
theorem absH_short (hs : List (BitVec 32)) (y : List UInt8) (h : y.length < 64) : absH hs y = hs := by
  unfold absH; rw [show y.length / 64 = 0 by omega]; rfl
theorem absR_short (y : List UInt8) (h : y.length < 64) : absR y = y := by
  unfold absR; rw [show y.length / 64 = 0 by omega]; rfl
theorem absR_full (y : List UInt8) (h : y.length % 64 = 0) : absR y = [] := by
  unfold absR; exact List.drop_eq_nil_of_le (by omega)
theorem absR_len (y : List UInt8) : (absR y).length = y.length % 64 := by
  unfold absR; rw [List.length_drop]; omega
theorem abs_split (hs : List (BitVec 32)) (l : List UInt8) : ∃ F, l = F ++ absR l ∧ F.length % 64 = 0 ∧ absH hs l = absH hs F := by
  refine ⟨l.take (64 * (l.length / 64)), ?_, ?_, ?_⟩
  · unfold absR; rw [List.take_append_drop]
  · rw [List.length_take]; omega
  · have h : (l.take (64 * (l.length / 64))).length = 64 * (l.length / 64) := by rw [List.length_take]; omega
    unfold absH
    rw [h, show 64 * (l.length / 64) / 64 = l.length / 64 by omega]
    have e := absTo_app hs (l.take (64 * (l.length / 64))) (l.drop (64 * (l.length / 64))) (l.length / 64) (by rw [h]; exact Nat.le_refl _)
    rw [List.take_append_drop] at e
    exact e
/-- how many bytes of the further ones complete the tail -/
def fillOf (l m : List UInt8) : Nat := min m.length (padI ((absR l).length : Int) 0).toNat
theorem fillOf_le (l m : List UInt8) : fillOf l m ≤ m.length := Nat.min_le_left _ _
theorem padI_zero (n : Nat) (h : n < 64) : (padI (n : Int) 0).toNat = (64 - n) % 64 := by
  unfold padI; omega
/-- what Write comes to -/
theorem write_spec (l m : List UInt8) :
    absH (absH (absH H8 l) (absR l ++ m.take (fillOf l m))) (m.drop (fillOf l m)) = absH H8 (l ++ m) ∧
      absR (absR l ++ m.take (fillOf l m)) ++ absR (m.drop (fillOf l m)) = absR (l ++ m) := by
  obtain ⟨F, hl, hF, hH⟩ := abs_split H8 l
  have hT : (absR l).length < 64 := by rw [absR_len]; omega
  have hT2 := padI_zero (absR l).length hT
  have hf : fillOf l m = min m.length ((64 - (absR l).length) % 64) := by unfold fillOf; rw [hT2]
  have e1 : absH H8 (l ++ m) = absH (absH H8 l) (absR l ++ m) := by
    conv => lhs; rw [hl, List.append_assoc, absH_app _ _ _ hF]
    rw [hH]
  have e2 : absR (l ++ m) = absR (absR l ++ m) := by
    conv => lhs; rw [hl, List.append_assoc, absR_app _ _ hF]
  rw [e1, e2]
  generalize absR l = T at *
  by_cases hc : m.length < (64 - T.length) % 64
  · have hf2 : fillOf l m = m.length := by rw [hf]; omega
    rw [hf2, List.take_length, List.drop_length]
    rw [absH_short _ [] (by simp), absR_short [] (by simp), List.append_nil]
    exact ⟨rfl, rfl⟩
  · have hf2 : fillOf l m = (64 - T.length) % 64 := by rw [hf]; omega
    have hx : (T ++ m.take (fillOf l m)).length % 64 = 0 := by
      rw [List.length_append, List.length_take, hf2]; omega
    have em : T ++ m = (T ++ m.take (fillOf l m)) ++ m.drop (fillOf l m) := by
      rw [List.append_assoc, List.take_append_drop]
    rw [absR_full _ hx, List.nil_append]
    constructor
    · conv => rhs; rw [em, absH_app _ _ _ hx]
    · conv => rhs; rw [em, absR_app _ _ hx]
end Go.Proofs.YtdfpjhpkkhdpoaaDoor

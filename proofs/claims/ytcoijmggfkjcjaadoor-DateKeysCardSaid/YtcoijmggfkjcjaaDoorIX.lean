/-
  Printed days are in the order of their days.
-/
import Derived.Test.YtcoijmggfkjcjaaDoorIR
import Derived.Test.YtcoijmggfkjcjaaDoorZV1200
namespace Go.Proofs.YtcoijmggfkjcjaaDoor
open Go.RowKit
set_option linter.unusedSimpArgs false
set_option linter.unusedVariables false
theorem dgt_lt {a b : Nat} (ha : a < 10) (hb : b < 10) (h : a < b) : dgt a < dgt b := by
  have : ∀ x y : Fin 10, x.val < y.val → dgt x.val < dgt y.val := by decide
  exact this ⟨a, ha⟩ ⟨b, hb⟩ h
theorem cb_same (x : UInt8) (a b : List UInt8) : Lib.compareBytes (x :: a) (x :: b) = Lib.compareBytes a b := by
  have h : ¬ x < x := by exact UInt8.lt_irrefl x
  simp [Lib.compareBytes, h]
theorem cb_less {x y : UInt8} (h : x < y) (a b : List UInt8) : Lib.compareBytes (x :: a) (y :: b) = -1 := by simp [Lib.compareBytes, h]
theorem cb_p2 {m n : Nat} (hm : m < 100) (hn : n < 100) (h : m < n) (a b : List UInt8) : Lib.compareBytes (p2 m ++ a) (p2 n ++ b) = -1 := by
  unfold p2
  simp only [List.cons_append, List.nil_append]
  by_cases h1 : m / 10 = n / 10
  · rw [h1, cb_same]
    exact cb_less (dgt_lt (by omega) (by omega) (by omega)) _ _
  · exact cb_less (dgt_lt (by omega) (by omega) (by omega)) _ _
theorem cb_p2e (m : Nat) (a b : List UInt8) : Lib.compareBytes (p2 m ++ a) (p2 m ++ b) = Lib.compareBytes a b := by
  unfold p2
  simp only [List.cons_append, List.nil_append, cb_same]
theorem cb_p4 {m n : Nat} (hm : m < 10000) (hn : n < 10000) (h : m < n) (a b : List UInt8) : Lib.compareBytes (p4 m ++ a) (p4 n ++ b) = -1 := by
  unfold p4
  simp only [List.cons_append, List.nil_append]
  by_cases h1 : m / 1000 = n / 1000
  · rw [h1, cb_same]
    by_cases h2 : m / 100 % 10 = n / 100 % 10
    · rw [h2, cb_same]
      by_cases h3 : m / 10 % 10 = n / 10 % 10
      · rw [h3, cb_same]
        exact cb_less (dgt_lt (by omega) (by omega) (by omega)) _ _
      · exact cb_less (dgt_lt (by omega) (by omega) (by omega)) _ _
    · exact cb_less (dgt_lt (by omega) (by omega) (by omega)) _ _
  · exact cb_less (dgt_lt (by omega) (by omega) (by omega)) _ _
theorem cb_p4e (m : Nat) (a b : List UInt8) : Lib.compareBytes (p4 m ++ a) (p4 m ++ b) = Lib.compareBytes a b := by
  unfold p4
  simp only [List.cons_append, List.nil_append, cb_same]
/-- a later day has a later date -/
theorem date_lt {a b : Int} (ha : okN a) (hb : okN b) (h : a < b) : yearN a < yearN b ∨ (yearN a = yearN b ∧ (monthN a < monthN b ∨ (monthN a = monthN b ∧ mdayN a < mdayN b))) := by
  obtain ⟨va, ea⟩ := of_ok a ha.1 ha.2
  obtain ⟨vb, eb⟩ := of_ok b hb.1 hb.2
  have ia := day_in va
  have ib := day_in vb
  have ma := valid_m va
  have mb := valid_m vb
  rw [ea] at ia
  rw [eb] at ib
  generalize yearN a = ya at *
  generalize monthN a = ma' at *
  generalize mdayN a = da at *
  generalize yearN b = yb at *
  generalize monthN b = mb' at *
  generalize mdayN b = db at *
  rcases Int.lt_trichotomy ya yb with h1 | rfl | h1
  · exact .inl h1
  · right
    refine ⟨rfl, ?_⟩
    rcases Int.lt_trichotomy ma' mb' with h2 | rfl | h2
    · exact .inl h2
    · right
      refine ⟨rfl, ?_⟩
      unfold dayN at ea eb
      omega
    · exfalso
      have := cum_le ya (show mb'.toNat + 1 ≤ ma'.toNat by omega)
      omega
  · exfalso
    have h2 := new_le (show yb + 1 ≤ ya by omega)
    have h3 := new_succ yb
    omega
theorem print_lt {a b : Int} (ha : okN a) (hb : okN b) (h : a < b) : cmpK (printB a) (printB b) = -1 := by
  have va := valid_sm (of_ok a ha.1 ha.2).1
  have vb := valid_sm (of_ok b hb.1 hb.2).1
  unfold cmpK
  rw [printB_list ha, printB_list hb]
  have hl := date_lt ha hb h
  unfold printL
  rcases hl with h1 | ⟨h1, h2 | ⟨h2, h3⟩⟩
  · exact cb_p4 (by omega) (by omega) (by omega) _ _
  · rw [h1, cb_p4e, cb_same]
    exact cb_p2 (by omega) (by omega) (by omega) _ _
  · rw [h1, h2, cb_p4e, cb_same, cb_p2e, cb_same]
    have := cb_p2 (m := (mdayN a).toNat) (n := (mdayN b).toNat) (by omega) (by omega) (by omega) [] []
    simpa using this
theorem print_inj {a b : Int} (ha : okN a) (hb : okN b) (h : printB a = printB b) : a = b := by
  rcases Int.lt_trichotomy a b with h1 | h1 | h1
  · have := print_lt ha hb h1
    rw [(cmpK_eq _ _).2 h] at this
    omega
  · exact h1
  · have := print_lt hb ha h1
    rw [(cmpK_eq _ _).2 h.symm] at this
    omega
theorem print_cmp {a b : Int} (ha : okN a) (hb : okN b) : cmpK (printB a) (printB b) < 0 ↔ a < b := by
  constructor
  · intro h
    rcases Int.lt_trichotomy a b with h1 | h1 | h1
    · exact h1
    · rw [h1, (cmpK_eq _ _).2 rfl] at h; omega
    · have := print_lt hb ha h1
      have h2 := cmpK_flip (printB b) (printB a)
      omega
  · intro h
    have := print_lt ha hb h
    omega
theorem print_le {a b : Int} (ha : okN a) (hb : okN b) : cmpK (printB a) (printB b) ≤ 0 ↔ a ≤ b := by
  have h1 := print_cmp hb ha
  have h2 := cmpK_flip (printB b) (printB a)
  constructor
  · intro h
    rcases Int.lt_or_le b a with h3 | h3
    · have := h1.2 h3; omega
    · exact h3
  · intro h
    rcases Int.lt_or_le 0 (cmpK (printB a) (printB b)) with h3 | h3
    · have := h1.1 (by omega); omega
    · exact h3
end Go.Proofs.YtcoijmggfkjcjaaDoor

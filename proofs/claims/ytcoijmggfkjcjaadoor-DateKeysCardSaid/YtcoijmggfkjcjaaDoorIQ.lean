/-
  The law DateSteps (written by gen_IQ.py).
-/
import Derived.Test.YtcoijmggfkjcjaaDoorIG
import Derived.StillTailTactics
namespace Go.Proofs.YtcoijmggfkjcjaaDoor
open Go.RowKit
set_option linter.unusedSimpArgs false
set_option linter.unusedVariables false
attribute [local go_sem ↓] exec_storeDate
attribute [local go_sem] run_storeDate
theorem of_at {n y m d : Int} (h : validD y m d) (hn : dayN y m d = n) : yearN n = y ∧ monthN n = m ∧ mdayN n = d := by
  rw [← hn]; exact of_day h
/-- the date of the next day -/
theorem of_succ {n : Int} (h : okN n) (h2 : okN (n + 1)) :
    (mdayN n + 1 ≤ lenD (yearN n) (monthN n) ∧ yearN (n + 1) = yearN n ∧ monthN (n + 1) = monthN n ∧ mdayN (n + 1) = mdayN n + 1) ∨
    (lenD (yearN n) (monthN n) < mdayN n + 1 ∧ monthN n < 12 ∧ yearN (n + 1) = yearN n ∧ monthN (n + 1) = monthN n + 1 ∧ mdayN (n + 1) = 1) ∨
    (lenD (yearN n) (monthN n) < mdayN n + 1 ∧ monthN n = 12 ∧ yearN (n + 1) = yearN n + 1 ∧ monthN (n + 1) = 1 ∧ mdayN (n + 1) = 1) := by
  obtain ⟨hv, hd⟩ := of_ok n h.1 h.2
  have hs := valid_sm hv
  obtain ⟨y, hy⟩ : ∃ y, y = yearN n := ⟨_, rfl⟩
  obtain ⟨m, hm⟩ : ∃ m, m = monthN n := ⟨_, rfl⟩
  obtain ⟨d, hdd⟩ : ∃ d, d = mdayN n := ⟨_, rfl⟩
  rw [← hy, ← hm, ← hdd] at hv hd hs ⊢
  clear hy hm hdd
  have hcum : cumD y (m.toNat + 1) = cumD y m.toNat + lenD y m := by
    show cumD y m.toNat + lenD y (m.toNat : Int) = _
    rw [show (m.toNat : Int) = m by omega]
  by_cases hA : d + 1 ≤ lenD y m
  · left
    refine ⟨hA, of_at (m := m) ⟨hv.1, hv.2.1, by omega, hA⟩ ?_⟩
    unfold dayN at hd ⊢
    omega
  · have hdl : d = lenD y m := by have := hv.2.2.2; omega
    by_cases hB : m < 12
    · right; left
      have hl := len_pos y (m + 1) (by omega) (by omega)
      refine ⟨by omega, hB, of_at (y := y) (m := m + 1) (d := 1) ⟨hv.1, hv.2.1, by omega, by omega⟩ ?_⟩
      unfold dayN at hd ⊢
      rw [show (m + 1).toNat = m.toNat + 1 by omega]
      omega
    · right; right
      obtain rfl : m = 12 := by omega
      have hns := new_succ y
      have e13 : cumD y ((12 : Int).toNat + 1) = cumD y 13 := rfl
      rw [e13] at hcum
      have hnew : newY (y + 1) = n + 1 := by unfold dayN at hd; omega
      have hy9 : y + 1 ≤ 9999 := by
        rcases Int.lt_or_le 9999 (y + 1) with hl | hl
        · exfalso
          have e : y = 9999 := by omega
          rw [e] at hnew
          have e2 : newY (9999 + 1) = 3652059 := by decide
          have := h2.2
          omega
        · exact hl
      have hl := len_pos (y + 1) 1 (by omega) (by omega)
      refine ⟨by omega, rfl, of_at (y := y + 1) (m := 1) (d := 1) ⟨by omega, hy9, by omega, by omega⟩ ?_⟩
      unfold dayN
      rw [show (1 : Int).toNat = 1 from rfl, cum_one]
      omega
theorem of_good {n : Int} (h : okN n) (u : World) (hu : Tabs u) : Calls Tryd.prog 22 #[.int .i64 n] u fun e w' => e = .returned (.tuple #[.agg #[.int .i64 (yearN n), .int .i64 (monthN n), .int .i64 (mdayN n)], .int .i64 0]) ∧ Below u.heap.size u w' := by
  have h1 := of_any n u hu
  obtain ⟨e1, e2, e3, e4⟩ := of_yes h
  rw [e1, e2, e3, e4] at h1
  exact h1
set_option maxRecDepth 100000 in
set_option maxHeartbeats 4000000 in
theorem steps_A (n a Y M D L : Int) (w : World) (hT : Tabs w) (n1 : -9223372036854775808 ≤ n) (n2 : n ≤ 9223372036854775807) (haa : aroundD n 3652058 = a) (hab : 0 ≤ a ∧ a ≤ 3652057)
    (hy : yearN a = Y) (hm : monthN a = M) (hd : mdayN a = D) (hl : lenD Y M = L) (hb1 : 1 ≤ Y ∧ Y ≤ 9999) (hb2 : 1 ≤ M ∧ M ≤ 12) (hb3 : 1 ≤ D ∧ D ≤ 31) (hb4 : 28 ≤ L ∧ L ≤ 31) (hc : D + 1 ≤ L)
    (k1 : yearN (a + 1) = Y) (k2 : monthN (a + 1) = M) (k3 : mdayN (a + 1) = (D + 1)) : Calls Tryd.prog 10 #[.int .i64 n] w fun e w' => e = .returned (.bool true) ∧ Below w.heap.size w w' := by
  have HAR := Lib.hid (aroundD_any n 3652058 w n1 n2 (by omega) (by omega))
  rw [haa] at HAR
  have HO1 : Hid (∀ u, Tabs u → Calls Tryd.prog 22 #[.int .i64 a] u fun e w' => e = .returned (.tuple #[.agg #[.int .i64 Y, .int .i64 M, .int .i64 D], .int .i64 0]) ∧ Below u.heap.size u w') := Lib.hid (fun u hu => by
    have h := of_good (n := a) ⟨by omega, by omega⟩ u hu
    rw [hy, hm, hd] at h
    exact h)
  have HO2 : Hid (∀ u, Tabs u → Calls Tryd.prog 22 #[.int .i64 (a + 1)] u fun e w' => e = .returned (.tuple #[.agg #[.int .i64 Y, .int .i64 M, .int .i64 (D + 1)], .int .i64 0]) ∧ Below u.heap.size u w') := Lib.hid (fun u hu => by
    have h := of_good (n := a + 1) ⟨by omega, by omega⟩ u hu
    rw [k1, k2, k3] at h
    exact h)
  have HLL := Lib.hid hl.symm
  obtain ⟨wa, hwa⟩ : ∃ wa, wa = a % 7 := ⟨_, rfl⟩
  obtain ⟨wb, hwb⟩ : ∃ wb, wb = (a + 1) % 7 := ⟨_, rfl⟩
  have HW2 : Hid (∀ u, Calls Tryd.prog 26 #[.int .i64 a] u fun e w' => e = .returned (.int .i64 wa) ∧ u = w') := Lib.hid (fun u => by rw [hwa]; exact weekday_any a u (by omega) (by omega))
  have HW1 : Hid (∀ u, Calls Tryd.prog 26 #[.int .i64 (a + 1)] u fun e w' => e = .returned (.int .i64 wb) ∧ u = w') := Lib.hid (fun u => by rw [hwb]; exact weekday_any (a + 1) u (by omega) (by omega))
  have hwab : 0 ≤ wa ∧ wa ≤ 6 := by omega
  have i1 : IntKind.i64.wrap (wa + 1) = wa + 1 := i64_id _ (by omega) (by omega)
  have i2 : (wa + 1) % 7 = wb := by omega
  have i3 : IntKind.i64.wrap (a + 1) = a + 1 := i64_id _ (by omega) (by omega)
  have i4 : IntKind.i64.wrap (D + 1) = D + 1 := i64_id _ (by omega) (by omega)
  have i5 : IntKind.i64.wrap (M + 1) = M + 1 := i64_id _ (by omega) (by omega)
  have i6 : IntKind.i64.wrap (Y + 1) = Y + 1 := i64_id _ (by omega) (by omega)
  have i7 : ¬ (12 : Int) < M := by omega
  have HTP := Lib.hid hT
  have HT0 := HTP
  have HBP : Hid (Below w.heap.size w w) := Lib.hid (Below.refl _ _)
  clear hT haa hy hm hd hl k1 k2 k3 hwa hwb
  go_enter Tryd.func10, Tryd.ntmps10
  go_upto_region 2 with (go_at_call 15; refine (HAR.out).mono ?_; rintro e w1 ⟨rfl, rfl⟩)
  go_upto_region 3 with (go_at_call 22; refine (HO1.out _ HTP.out).mono ?_; rintro e v1 ⟨rfl, hb⟩; have HTN := Tab_stepD HTP hb; have HBN := Bel_stepD HBP hb; clear HTP HBP; have HTP := HTN; have HBP := HBN; clear HTN HBN; clear hb; have pd : DB (v1.alloc (.cells #[.int .i64 0, .int .i64 0, .int .i64 0] 23)) v1.heap.size := ⟨0, 0, 0, heap_new0⟩)
  obtain ⟨w2, hw⟩ : ∃ w2, w2 = (v1.alloc (.cells #[.int .i64 0, .int .i64 0, .int .i64 0] 23)).setRow v1.heap.size #[.int .i64 Y, .int .i64 M, .int .i64 D] := ⟨_, rfl⟩
  obtain ⟨g4, hg⟩ : ∃ g4, g4 = v1.heap.size := ⟨_, rfl⟩
  have hrow : w2.heap[g4]? = some (.cells #[.int .i64 Y, .int .i64 M, .int .i64 D] 23 (0, 0)) := by rw [hw, hg]; exact setRow_heap _ _ _ _ _ _ heap_new0
  have hb : Below v1.heap.size v1 w2 := by rw [hw]; exact (((Kept.refl (fun _ => False) v1).alloc _).setRow (fun h => by omega) _).below (Nat.le_refl _) (fun _ _ h => h)
  have HG_g4 : Hid (w.heap.size ≤ g4) := Lib.hid (by rw [hg]; exact HBP.out.size)
  have HR_g4 := Lib.hid hrow
  have HTN := Tab_stepD HTP hb
  have HBN := Bel_stepD HBP hb
  clear HTP HBP
  have HTP := HTN
  have HBP := HBN
  clear HTN HBN
  rw [← hw]
  rw [← hg]
  clear hw hg hrow hb pd
  have c_g4_0 : w2.cell? ⟨g4, 0, none⟩ = some (.int .i64 Y) := cell_of_row w2 g4 0 _ _ _ HR_g4.out
  have c_g4_1 : w2.cell? ⟨g4, 1, none⟩ = some (.int .i64 M) := cell_of_row w2 g4 1 _ _ _ HR_g4.out
  have c_g4_2 : w2.cell? ⟨g4, 2, none⟩ = some (.int .i64 D) := cell_of_row w2 g4 2 _ _ _ HR_g4.out
  have f_g4_0 : w2.frozen? ⟨g4, 0, none⟩ = false := frozen_of_row w2 g4 0 _ _ HR_g4.out
  have f_g4_1 : w2.frozen? ⟨g4, 1, none⟩ = false := frozen_of_row w2 g4 1 _ _ HR_g4.out
  have f_g4_2 : w2.frozen? ⟨g4, 2, none⟩ = false := frozen_of_row w2 g4 2 _ _ HR_g4.out
  go_upto_region 4 with (go_at_call 22; refine (HO2.out _ HTP.out).mono ?_; rintro e v2 ⟨rfl, hb⟩; have HTN := Tab_stepD HTP hb; have HBN := Bel_stepD HBP hb; clear HTP HBP; have HTP := HTN; have HBP := HBN; clear HTN HBN; have HRN := Lib.hid ((hb.block g4 (heap_lt HR_g4.out)).trans HR_g4.out); clear HR_g4; have HR_g4 := HRN; clear HRN; clear c_g4_0 c_g4_1 c_g4_2; have c_g4_0 : v2.cell? ⟨g4, 0, none⟩ = some (.int .i64 Y) := cell_of_row v2 g4 0 _ _ _ HR_g4.out; have c_g4_1 : v2.cell? ⟨g4, 1, none⟩ = some (.int .i64 M) := cell_of_row v2 g4 1 _ _ _ HR_g4.out; have c_g4_2 : v2.cell? ⟨g4, 2, none⟩ = some (.int .i64 D) := cell_of_row v2 g4 2 _ _ _ HR_g4.out; clear hb; have pd : DB (v2.alloc (.cells #[.int .i64 0, .int .i64 0, .int .i64 0] 23)) v2.heap.size := ⟨0, 0, 0, heap_new0⟩)
  obtain ⟨w3, hw⟩ : ∃ w3, w3 = (v2.alloc (.cells #[.int .i64 0, .int .i64 0, .int .i64 0] 23)).setRow v2.heap.size #[.int .i64 Y, .int .i64 M, .int .i64 (D + 1)] := ⟨_, rfl⟩
  obtain ⟨g6, hg⟩ : ∃ g6, g6 = v2.heap.size := ⟨_, rfl⟩
  have hrow : w3.heap[g6]? = some (.cells #[.int .i64 Y, .int .i64 M, .int .i64 (D + 1)] 23 (0, 0)) := by rw [hw, hg]; exact setRow_heap _ _ _ _ _ _ heap_new0
  have hb : Below v2.heap.size v2 w3 := by rw [hw]; exact (((Kept.refl (fun _ => False) v2).alloc _).setRow (fun h => by omega) _).below (Nat.le_refl _) (fun _ _ h => h)
  have HG_g6 : Hid (w.heap.size ≤ g6) := Lib.hid (by rw [hg]; exact HBP.out.size)
  have HNE_g4_g6 : Hid (g4 ≠ g6) := Lib.hid (by have := heap_lt HR_g4.out; omega)
  have HRN := Lib.hid ((hb.block g4 (heap_lt HR_g4.out)).trans HR_g4.out)
  clear HR_g4
  have HR_g4 := HRN
  clear HRN
  have HR_g6 := Lib.hid hrow
  have HTN := Tab_stepD HTP hb
  have HBN := Bel_stepD HBP hb
  clear HTP HBP
  have HTP := HTN
  have HBP := HBN
  clear HTN HBN
  rw [← hw]
  rw [← hg]
  clear hw hg hrow hb pd c_g4_0 c_g4_1 c_g4_2
  have c_g4_0 : w3.cell? ⟨g4, 0, none⟩ = some (.int .i64 Y) := cell_of_row w3 g4 0 _ _ _ HR_g4.out
  have c_g4_1 : w3.cell? ⟨g4, 1, none⟩ = some (.int .i64 M) := cell_of_row w3 g4 1 _ _ _ HR_g4.out
  have c_g4_2 : w3.cell? ⟨g4, 2, none⟩ = some (.int .i64 D) := cell_of_row w3 g4 2 _ _ _ HR_g4.out
  have c_g6_0 : w3.cell? ⟨g6, 0, none⟩ = some (.int .i64 Y) := cell_of_row w3 g6 0 _ _ _ HR_g6.out
  have c_g6_1 : w3.cell? ⟨g6, 1, none⟩ = some (.int .i64 M) := cell_of_row w3 g6 1 _ _ _ HR_g6.out
  have c_g6_2 : w3.cell? ⟨g6, 2, none⟩ = some (.int .i64 (D + 1)) := cell_of_row w3 g6 2 _ _ _ HR_g6.out
  have f_g6_0 : w3.frozen? ⟨g6, 0, none⟩ = false := frozen_of_row w3 g6 0 _ _ HR_g6.out
  have f_g6_1 : w3.frozen? ⟨g6, 1, none⟩ = false := frozen_of_row w3 g6 1 _ _ HR_g6.out
  have f_g6_2 : w3.frozen? ⟨g6, 2, none⟩ = false := frozen_of_row w3 g6 2 _ _ HR_g6.out
  have pd : DB (w3.alloc (.cells #[.int .i64 0, .int .i64 0, .int .i64 0] 23)) w3.heap.size := ⟨0, 0, 0, heap_new0⟩
  go_upto_region 5 with fail
  obtain ⟨w4, hw⟩ : ∃ w4, w4 = (w3.alloc (.cells #[.int .i64 0, .int .i64 0, .int .i64 0] 23)).setRow w3.heap.size #[.int .i64 Y, .int .i64 M, .int .i64 D] := ⟨_, rfl⟩
  obtain ⟨g8, hg⟩ : ∃ g8, g8 = w3.heap.size := ⟨_, rfl⟩
  have hrow : w4.heap[g8]? = some (.cells #[.int .i64 Y, .int .i64 M, .int .i64 D] 23 (0, 0)) := by rw [hw, hg]; exact setRow_heap _ _ _ _ _ _ heap_new0
  have hb : Below w3.heap.size w3 w4 := by rw [hw]; exact (((Kept.refl (fun _ => False) w3).alloc _).setRow (fun h => by omega) _).below (Nat.le_refl _) (fun _ _ h => h)
  have HG_g8 : Hid (w.heap.size ≤ g8) := Lib.hid (by rw [hg]; exact HBP.out.size)
  have HNE_g4_g8 : Hid (g4 ≠ g8) := Lib.hid (by have := heap_lt HR_g4.out; omega)
  have HRN := Lib.hid ((hb.block g4 (heap_lt HR_g4.out)).trans HR_g4.out)
  clear HR_g4
  have HR_g4 := HRN
  clear HRN
  have HNE_g6_g8 : Hid (g6 ≠ g8) := Lib.hid (by have := heap_lt HR_g6.out; omega)
  have HRN := Lib.hid ((hb.block g6 (heap_lt HR_g6.out)).trans HR_g6.out)
  clear HR_g6
  have HR_g6 := HRN
  clear HRN
  have HR_g8 := Lib.hid hrow
  have HTN := Tab_stepD HTP hb
  have HBN := Bel_stepD HBP hb
  clear HTP HBP
  have HTP := HTN
  have HBP := HBN
  clear HTN HBN
  rw [← hw]
  rw [← hg]
  clear hw hg hrow hb pd c_g4_0 c_g4_1 c_g4_2 c_g6_0 c_g6_1 c_g6_2
  have c_g4_0 : w4.cell? ⟨g4, 0, none⟩ = some (.int .i64 Y) := cell_of_row w4 g4 0 _ _ _ HR_g4.out
  have c_g4_1 : w4.cell? ⟨g4, 1, none⟩ = some (.int .i64 M) := cell_of_row w4 g4 1 _ _ _ HR_g4.out
  have c_g4_2 : w4.cell? ⟨g4, 2, none⟩ = some (.int .i64 D) := cell_of_row w4 g4 2 _ _ _ HR_g4.out
  have c_g6_0 : w4.cell? ⟨g6, 0, none⟩ = some (.int .i64 Y) := cell_of_row w4 g6 0 _ _ _ HR_g6.out
  have c_g6_1 : w4.cell? ⟨g6, 1, none⟩ = some (.int .i64 M) := cell_of_row w4 g6 1 _ _ _ HR_g6.out
  have c_g6_2 : w4.cell? ⟨g6, 2, none⟩ = some (.int .i64 (D + 1)) := cell_of_row w4 g6 2 _ _ _ HR_g6.out
  have c_g8_0 : w4.cell? ⟨g8, 0, none⟩ = some (.int .i64 Y) := cell_of_row w4 g8 0 _ _ _ HR_g8.out
  have c_g8_1 : w4.cell? ⟨g8, 1, none⟩ = some (.int .i64 M) := cell_of_row w4 g8 1 _ _ _ HR_g8.out
  have c_g8_2 : w4.cell? ⟨g8, 2, none⟩ = some (.int .i64 D) := cell_of_row w4 g8 2 _ _ _ HR_g8.out
  have f_g8_0 : w4.frozen? ⟨g8, 0, none⟩ = false := frozen_of_row w4 g8 0 _ _ HR_g8.out
  have f_g8_1 : w4.frozen? ⟨g8, 1, none⟩ = false := frozen_of_row w4 g8 1 _ _ HR_g8.out
  have f_g8_2 : w4.frozen? ⟨g8, 2, none⟩ = false := frozen_of_row w4 g8 2 _ _ HR_g8.out
  go_upto_region 6 with fail
  obtain ⟨w5, hw⟩ : ∃ w5, w5 = w4.setCell ⟨g8, 2, none⟩ (.int .i64 (D + 1)) := ⟨_, rfl⟩
  have hrow : w5.heap[g8]? = some (.cells #[.int .i64 Y, .int .i64 M, .int .i64 (D + 1)] 23 (0, 0)) := by rw [hw]; exact heap_setCell_same _ _ _ _ _ _ HR_g8.out
  have hb : Below w.heap.size w w5 := by rw [hw]; exact ((((Kept.of_below (fun _ => False) HBP.out).setCell (fun h => absurd (show g8 < w.heap.size from h) (by have := HG_g8.out; omega)) _).below (Nat.le_refl _) (fun _ _ h => h)))
  have HTN : Hid (Tabs w5) := Lib.hid (HT0.out.below hb)
  have HBN : Hid (Below w.heap.size w w5) := Lib.hid hb
  have HRN : Hid (w5.heap[g4]? = some (.cells #[.int .i64 Y, .int .i64 M, .int .i64 D] 23 (0, 0))) := Lib.hid (by rw [hw]; exact (heap_setCell_other _ _ _ _ HNE_g4_g8.out).trans HR_g4.out)
  clear HR_g4
  have HR_g4 := HRN
  clear HRN
  have HRN : Hid (w5.heap[g6]? = some (.cells #[.int .i64 Y, .int .i64 M, .int .i64 (D + 1)] 23 (0, 0))) := Lib.hid (by rw [hw]; exact (heap_setCell_other _ _ _ _ HNE_g6_g8.out).trans HR_g6.out)
  clear HR_g6
  have HR_g6 := HRN
  clear HRN
  clear HTP HBP HR_g8 c_g4_0 c_g4_1 c_g4_2 c_g6_0 c_g6_1 c_g6_2 c_g8_0 c_g8_1 c_g8_2 f_g8_0 f_g8_1 f_g8_2
  have HTP := HTN
  have HBP := HBN
  have HR_g8 := Lib.hid hrow
  rw [← hw]
  clear HTN HBN hw hrow hb
  have c_g4_0 : w5.cell? ⟨g4, 0, none⟩ = some (.int .i64 Y) := cell_of_row w5 g4 0 _ _ _ HR_g4.out
  have c_g4_1 : w5.cell? ⟨g4, 1, none⟩ = some (.int .i64 M) := cell_of_row w5 g4 1 _ _ _ HR_g4.out
  have c_g4_2 : w5.cell? ⟨g4, 2, none⟩ = some (.int .i64 D) := cell_of_row w5 g4 2 _ _ _ HR_g4.out
  have c_g6_0 : w5.cell? ⟨g6, 0, none⟩ = some (.int .i64 Y) := cell_of_row w5 g6 0 _ _ _ HR_g6.out
  have c_g6_1 : w5.cell? ⟨g6, 1, none⟩ = some (.int .i64 M) := cell_of_row w5 g6 1 _ _ _ HR_g6.out
  have c_g6_2 : w5.cell? ⟨g6, 2, none⟩ = some (.int .i64 (D + 1)) := cell_of_row w5 g6 2 _ _ _ HR_g6.out
  have c_g8_0 : w5.cell? ⟨g8, 0, none⟩ = some (.int .i64 Y) := cell_of_row w5 g8 0 _ _ _ HR_g8.out
  have c_g8_1 : w5.cell? ⟨g8, 1, none⟩ = some (.int .i64 M) := cell_of_row w5 g8 1 _ _ _ HR_g8.out
  have c_g8_2 : w5.cell? ⟨g8, 2, none⟩ = some (.int .i64 (D + 1)) := cell_of_row w5 g8 2 _ _ _ HR_g8.out
  have f_g8_0 : w5.frozen? ⟨g8, 0, none⟩ = false := frozen_of_row w5 g8 0 _ _ HR_g8.out
  have f_g8_1 : w5.frozen? ⟨g8, 1, none⟩ = false := frozen_of_row w5 g8 1 _ _ HR_g8.out
  have f_g8_2 : w5.frozen? ⟨g8, 2, none⟩ = false := frozen_of_row w5 g8 2 _ _ HR_g8.out
  have HLN : Hid (∀ n, Calls Tryd.prog 30 #[.int .i64 Y, .int .i64 M] (w5.drewN n) fun e w' => e = .returned (.int .i64 L) ∧ w' = w5.drewN n) := Lib.hid (fun n => by rw [HLL.out]; exact (length_any Y M _ (HTP.out.below (below_drewN (Below.refl _ _) _))).mono fun e w' h => ⟨h.1, h.2.symm⟩)
  go_quiet ((go_at_call 30; exact Calls.quiet_of_same (HLN.out _)))
  go_wp2_with (first
    | (have _t := HW1; go_at_call 26; refine (HW1.out _).mono ?_; rintro e w1 ⟨rfl, rfl⟩; clear _t HW1)
    | (go_at_call 26; refine (HW2.out _).mono ?_; rintro e w1 ⟨rfl, rfl⟩)
    | (go_at_call 19; refine (lives_any _ (HTP.out.below (below_drewN (Below.refl _ _) _))).mono ?_; rintro e wl ⟨rfl, hb⟩; have HBL := Lib.hid ((below_drewN HBP.out _).trans (hb.mono (below_drewN HBP.out _).size)); clear hb))
  go_ret
  exact ⟨rfl, HBL.out⟩
set_option maxRecDepth 100000 in
set_option maxHeartbeats 4000000 in
theorem steps_B1 (n a Y M D L : Int) (w : World) (hT : Tabs w) (n1 : -9223372036854775808 ≤ n) (n2 : n ≤ 9223372036854775807) (haa : aroundD n 3652058 = a) (hab : 0 ≤ a ∧ a ≤ 3652057)
    (hy : yearN a = Y) (hm : monthN a = M) (hd : mdayN a = D) (hl : lenD Y M = L) (hb1 : 1 ≤ Y ∧ Y ≤ 9999) (hb2 : 1 ≤ M ∧ M ≤ 12) (hb3 : 1 ≤ D ∧ D ≤ 31) (hb4 : 28 ≤ L ∧ L ≤ 31) (hc : L < D + 1) (hM : M < 12)
    (k1 : yearN (a + 1) = Y) (k2 : monthN (a + 1) = (M + 1)) (k3 : mdayN (a + 1) = 1) : Calls Tryd.prog 10 #[.int .i64 n] w fun e w' => e = .returned (.bool true) ∧ Below w.heap.size w w' := by
  have HAR := Lib.hid (aroundD_any n 3652058 w n1 n2 (by omega) (by omega))
  rw [haa] at HAR
  have HO1 : Hid (∀ u, Tabs u → Calls Tryd.prog 22 #[.int .i64 a] u fun e w' => e = .returned (.tuple #[.agg #[.int .i64 Y, .int .i64 M, .int .i64 D], .int .i64 0]) ∧ Below u.heap.size u w') := Lib.hid (fun u hu => by
    have h := of_good (n := a) ⟨by omega, by omega⟩ u hu
    rw [hy, hm, hd] at h
    exact h)
  have HO2 : Hid (∀ u, Tabs u → Calls Tryd.prog 22 #[.int .i64 (a + 1)] u fun e w' => e = .returned (.tuple #[.agg #[.int .i64 Y, .int .i64 (M + 1), .int .i64 1], .int .i64 0]) ∧ Below u.heap.size u w') := Lib.hid (fun u hu => by
    have h := of_good (n := a + 1) ⟨by omega, by omega⟩ u hu
    rw [k1, k2, k3] at h
    exact h)
  have HLL := Lib.hid hl.symm
  obtain ⟨wa, hwa⟩ : ∃ wa, wa = a % 7 := ⟨_, rfl⟩
  obtain ⟨wb, hwb⟩ : ∃ wb, wb = (a + 1) % 7 := ⟨_, rfl⟩
  have HW2 : Hid (∀ u, Calls Tryd.prog 26 #[.int .i64 a] u fun e w' => e = .returned (.int .i64 wa) ∧ u = w') := Lib.hid (fun u => by rw [hwa]; exact weekday_any a u (by omega) (by omega))
  have HW1 : Hid (∀ u, Calls Tryd.prog 26 #[.int .i64 (a + 1)] u fun e w' => e = .returned (.int .i64 wb) ∧ u = w') := Lib.hid (fun u => by rw [hwb]; exact weekday_any (a + 1) u (by omega) (by omega))
  have hwab : 0 ≤ wa ∧ wa ≤ 6 := by omega
  have i1 : IntKind.i64.wrap (wa + 1) = wa + 1 := i64_id _ (by omega) (by omega)
  have i2 : (wa + 1) % 7 = wb := by omega
  have i3 : IntKind.i64.wrap (a + 1) = a + 1 := i64_id _ (by omega) (by omega)
  have i4 : IntKind.i64.wrap (D + 1) = D + 1 := i64_id _ (by omega) (by omega)
  have i5 : IntKind.i64.wrap (M + 1) = M + 1 := i64_id _ (by omega) (by omega)
  have i6 : IntKind.i64.wrap (Y + 1) = Y + 1 := i64_id _ (by omega) (by omega)
  have i7 : ¬ (12 : Int) < M + 1 := by omega
  have HTP := Lib.hid hT
  have HT0 := HTP
  have HBP : Hid (Below w.heap.size w w) := Lib.hid (Below.refl _ _)
  clear hT haa hy hm hd hl k1 k2 k3 hwa hwb hM
  go_enter Tryd.func10, Tryd.ntmps10
  go_upto_region 2 with (go_at_call 15; refine (HAR.out).mono ?_; rintro e w1 ⟨rfl, rfl⟩)
  go_upto_region 3 with (go_at_call 22; refine (HO1.out _ HTP.out).mono ?_; rintro e v1 ⟨rfl, hb⟩; have HTN := Tab_stepD HTP hb; have HBN := Bel_stepD HBP hb; clear HTP HBP; have HTP := HTN; have HBP := HBN; clear HTN HBN; clear hb; have pd : DB (v1.alloc (.cells #[.int .i64 0, .int .i64 0, .int .i64 0] 23)) v1.heap.size := ⟨0, 0, 0, heap_new0⟩)
  obtain ⟨w2, hw⟩ : ∃ w2, w2 = (v1.alloc (.cells #[.int .i64 0, .int .i64 0, .int .i64 0] 23)).setRow v1.heap.size #[.int .i64 Y, .int .i64 M, .int .i64 D] := ⟨_, rfl⟩
  obtain ⟨g4, hg⟩ : ∃ g4, g4 = v1.heap.size := ⟨_, rfl⟩
  have hrow : w2.heap[g4]? = some (.cells #[.int .i64 Y, .int .i64 M, .int .i64 D] 23 (0, 0)) := by rw [hw, hg]; exact setRow_heap _ _ _ _ _ _ heap_new0
  have hb : Below v1.heap.size v1 w2 := by rw [hw]; exact (((Kept.refl (fun _ => False) v1).alloc _).setRow (fun h => by omega) _).below (Nat.le_refl _) (fun _ _ h => h)
  have HG_g4 : Hid (w.heap.size ≤ g4) := Lib.hid (by rw [hg]; exact HBP.out.size)
  have HR_g4 := Lib.hid hrow
  have HTN := Tab_stepD HTP hb
  have HBN := Bel_stepD HBP hb
  clear HTP HBP
  have HTP := HTN
  have HBP := HBN
  clear HTN HBN
  rw [← hw]
  rw [← hg]
  clear hw hg hrow hb pd
  have c_g4_0 : w2.cell? ⟨g4, 0, none⟩ = some (.int .i64 Y) := cell_of_row w2 g4 0 _ _ _ HR_g4.out
  have c_g4_1 : w2.cell? ⟨g4, 1, none⟩ = some (.int .i64 M) := cell_of_row w2 g4 1 _ _ _ HR_g4.out
  have c_g4_2 : w2.cell? ⟨g4, 2, none⟩ = some (.int .i64 D) := cell_of_row w2 g4 2 _ _ _ HR_g4.out
  have f_g4_0 : w2.frozen? ⟨g4, 0, none⟩ = false := frozen_of_row w2 g4 0 _ _ HR_g4.out
  have f_g4_1 : w2.frozen? ⟨g4, 1, none⟩ = false := frozen_of_row w2 g4 1 _ _ HR_g4.out
  have f_g4_2 : w2.frozen? ⟨g4, 2, none⟩ = false := frozen_of_row w2 g4 2 _ _ HR_g4.out
  go_upto_region 4 with (go_at_call 22; refine (HO2.out _ HTP.out).mono ?_; rintro e v2 ⟨rfl, hb⟩; have HTN := Tab_stepD HTP hb; have HBN := Bel_stepD HBP hb; clear HTP HBP; have HTP := HTN; have HBP := HBN; clear HTN HBN; have HRN := Lib.hid ((hb.block g4 (heap_lt HR_g4.out)).trans HR_g4.out); clear HR_g4; have HR_g4 := HRN; clear HRN; clear c_g4_0 c_g4_1 c_g4_2; have c_g4_0 : v2.cell? ⟨g4, 0, none⟩ = some (.int .i64 Y) := cell_of_row v2 g4 0 _ _ _ HR_g4.out; have c_g4_1 : v2.cell? ⟨g4, 1, none⟩ = some (.int .i64 M) := cell_of_row v2 g4 1 _ _ _ HR_g4.out; have c_g4_2 : v2.cell? ⟨g4, 2, none⟩ = some (.int .i64 D) := cell_of_row v2 g4 2 _ _ _ HR_g4.out; clear hb; have pd : DB (v2.alloc (.cells #[.int .i64 0, .int .i64 0, .int .i64 0] 23)) v2.heap.size := ⟨0, 0, 0, heap_new0⟩)
  obtain ⟨w3, hw⟩ : ∃ w3, w3 = (v2.alloc (.cells #[.int .i64 0, .int .i64 0, .int .i64 0] 23)).setRow v2.heap.size #[.int .i64 Y, .int .i64 (M + 1), .int .i64 1] := ⟨_, rfl⟩
  obtain ⟨g6, hg⟩ : ∃ g6, g6 = v2.heap.size := ⟨_, rfl⟩
  have hrow : w3.heap[g6]? = some (.cells #[.int .i64 Y, .int .i64 (M + 1), .int .i64 1] 23 (0, 0)) := by rw [hw, hg]; exact setRow_heap _ _ _ _ _ _ heap_new0
  have hb : Below v2.heap.size v2 w3 := by rw [hw]; exact (((Kept.refl (fun _ => False) v2).alloc _).setRow (fun h => by omega) _).below (Nat.le_refl _) (fun _ _ h => h)
  have HG_g6 : Hid (w.heap.size ≤ g6) := Lib.hid (by rw [hg]; exact HBP.out.size)
  have HNE_g4_g6 : Hid (g4 ≠ g6) := Lib.hid (by have := heap_lt HR_g4.out; omega)
  have HRN := Lib.hid ((hb.block g4 (heap_lt HR_g4.out)).trans HR_g4.out)
  clear HR_g4
  have HR_g4 := HRN
  clear HRN
  have HR_g6 := Lib.hid hrow
  have HTN := Tab_stepD HTP hb
  have HBN := Bel_stepD HBP hb
  clear HTP HBP
  have HTP := HTN
  have HBP := HBN
  clear HTN HBN
  rw [← hw]
  rw [← hg]
  clear hw hg hrow hb pd c_g4_0 c_g4_1 c_g4_2
  have c_g4_0 : w3.cell? ⟨g4, 0, none⟩ = some (.int .i64 Y) := cell_of_row w3 g4 0 _ _ _ HR_g4.out
  have c_g4_1 : w3.cell? ⟨g4, 1, none⟩ = some (.int .i64 M) := cell_of_row w3 g4 1 _ _ _ HR_g4.out
  have c_g4_2 : w3.cell? ⟨g4, 2, none⟩ = some (.int .i64 D) := cell_of_row w3 g4 2 _ _ _ HR_g4.out
  have c_g6_0 : w3.cell? ⟨g6, 0, none⟩ = some (.int .i64 Y) := cell_of_row w3 g6 0 _ _ _ HR_g6.out
  have c_g6_1 : w3.cell? ⟨g6, 1, none⟩ = some (.int .i64 (M + 1)) := cell_of_row w3 g6 1 _ _ _ HR_g6.out
  have c_g6_2 : w3.cell? ⟨g6, 2, none⟩ = some (.int .i64 1) := cell_of_row w3 g6 2 _ _ _ HR_g6.out
  have f_g6_0 : w3.frozen? ⟨g6, 0, none⟩ = false := frozen_of_row w3 g6 0 _ _ HR_g6.out
  have f_g6_1 : w3.frozen? ⟨g6, 1, none⟩ = false := frozen_of_row w3 g6 1 _ _ HR_g6.out
  have f_g6_2 : w3.frozen? ⟨g6, 2, none⟩ = false := frozen_of_row w3 g6 2 _ _ HR_g6.out
  have pd : DB (w3.alloc (.cells #[.int .i64 0, .int .i64 0, .int .i64 0] 23)) w3.heap.size := ⟨0, 0, 0, heap_new0⟩
  go_upto_region 5 with fail
  obtain ⟨w4, hw⟩ : ∃ w4, w4 = (w3.alloc (.cells #[.int .i64 0, .int .i64 0, .int .i64 0] 23)).setRow w3.heap.size #[.int .i64 Y, .int .i64 M, .int .i64 D] := ⟨_, rfl⟩
  obtain ⟨g8, hg⟩ : ∃ g8, g8 = w3.heap.size := ⟨_, rfl⟩
  have hrow : w4.heap[g8]? = some (.cells #[.int .i64 Y, .int .i64 M, .int .i64 D] 23 (0, 0)) := by rw [hw, hg]; exact setRow_heap _ _ _ _ _ _ heap_new0
  have hb : Below w3.heap.size w3 w4 := by rw [hw]; exact (((Kept.refl (fun _ => False) w3).alloc _).setRow (fun h => by omega) _).below (Nat.le_refl _) (fun _ _ h => h)
  have HG_g8 : Hid (w.heap.size ≤ g8) := Lib.hid (by rw [hg]; exact HBP.out.size)
  have HNE_g4_g8 : Hid (g4 ≠ g8) := Lib.hid (by have := heap_lt HR_g4.out; omega)
  have HRN := Lib.hid ((hb.block g4 (heap_lt HR_g4.out)).trans HR_g4.out)
  clear HR_g4
  have HR_g4 := HRN
  clear HRN
  have HNE_g6_g8 : Hid (g6 ≠ g8) := Lib.hid (by have := heap_lt HR_g6.out; omega)
  have HRN := Lib.hid ((hb.block g6 (heap_lt HR_g6.out)).trans HR_g6.out)
  clear HR_g6
  have HR_g6 := HRN
  clear HRN
  have HR_g8 := Lib.hid hrow
  have HTN := Tab_stepD HTP hb
  have HBN := Bel_stepD HBP hb
  clear HTP HBP
  have HTP := HTN
  have HBP := HBN
  clear HTN HBN
  rw [← hw]
  rw [← hg]
  clear hw hg hrow hb pd c_g4_0 c_g4_1 c_g4_2 c_g6_0 c_g6_1 c_g6_2
  have c_g4_0 : w4.cell? ⟨g4, 0, none⟩ = some (.int .i64 Y) := cell_of_row w4 g4 0 _ _ _ HR_g4.out
  have c_g4_1 : w4.cell? ⟨g4, 1, none⟩ = some (.int .i64 M) := cell_of_row w4 g4 1 _ _ _ HR_g4.out
  have c_g4_2 : w4.cell? ⟨g4, 2, none⟩ = some (.int .i64 D) := cell_of_row w4 g4 2 _ _ _ HR_g4.out
  have c_g6_0 : w4.cell? ⟨g6, 0, none⟩ = some (.int .i64 Y) := cell_of_row w4 g6 0 _ _ _ HR_g6.out
  have c_g6_1 : w4.cell? ⟨g6, 1, none⟩ = some (.int .i64 (M + 1)) := cell_of_row w4 g6 1 _ _ _ HR_g6.out
  have c_g6_2 : w4.cell? ⟨g6, 2, none⟩ = some (.int .i64 1) := cell_of_row w4 g6 2 _ _ _ HR_g6.out
  have c_g8_0 : w4.cell? ⟨g8, 0, none⟩ = some (.int .i64 Y) := cell_of_row w4 g8 0 _ _ _ HR_g8.out
  have c_g8_1 : w4.cell? ⟨g8, 1, none⟩ = some (.int .i64 M) := cell_of_row w4 g8 1 _ _ _ HR_g8.out
  have c_g8_2 : w4.cell? ⟨g8, 2, none⟩ = some (.int .i64 D) := cell_of_row w4 g8 2 _ _ _ HR_g8.out
  have f_g8_0 : w4.frozen? ⟨g8, 0, none⟩ = false := frozen_of_row w4 g8 0 _ _ HR_g8.out
  have f_g8_1 : w4.frozen? ⟨g8, 1, none⟩ = false := frozen_of_row w4 g8 1 _ _ HR_g8.out
  have f_g8_2 : w4.frozen? ⟨g8, 2, none⟩ = false := frozen_of_row w4 g8 2 _ _ HR_g8.out
  go_upto_region 6 with fail
  obtain ⟨w5, hw⟩ : ∃ w5, w5 = w4.setCell ⟨g8, 2, none⟩ (.int .i64 (D + 1)) := ⟨_, rfl⟩
  have hrow : w5.heap[g8]? = some (.cells #[.int .i64 Y, .int .i64 M, .int .i64 (D + 1)] 23 (0, 0)) := by rw [hw]; exact heap_setCell_same _ _ _ _ _ _ HR_g8.out
  have hb : Below w.heap.size w w5 := by rw [hw]; exact ((((Kept.of_below (fun _ => False) HBP.out).setCell (fun h => absurd (show g8 < w.heap.size from h) (by have := HG_g8.out; omega)) _).below (Nat.le_refl _) (fun _ _ h => h)))
  have HTN : Hid (Tabs w5) := Lib.hid (HT0.out.below hb)
  have HBN : Hid (Below w.heap.size w w5) := Lib.hid hb
  have HRN : Hid (w5.heap[g4]? = some (.cells #[.int .i64 Y, .int .i64 M, .int .i64 D] 23 (0, 0))) := Lib.hid (by rw [hw]; exact (heap_setCell_other _ _ _ _ HNE_g4_g8.out).trans HR_g4.out)
  clear HR_g4
  have HR_g4 := HRN
  clear HRN
  have HRN : Hid (w5.heap[g6]? = some (.cells #[.int .i64 Y, .int .i64 (M + 1), .int .i64 1] 23 (0, 0))) := Lib.hid (by rw [hw]; exact (heap_setCell_other _ _ _ _ HNE_g6_g8.out).trans HR_g6.out)
  clear HR_g6
  have HR_g6 := HRN
  clear HRN
  clear HTP HBP HR_g8 c_g4_0 c_g4_1 c_g4_2 c_g6_0 c_g6_1 c_g6_2 c_g8_0 c_g8_1 c_g8_2 f_g8_0 f_g8_1 f_g8_2
  have HTP := HTN
  have HBP := HBN
  have HR_g8 := Lib.hid hrow
  rw [← hw]
  clear HTN HBN hw hrow hb
  have c_g4_0 : w5.cell? ⟨g4, 0, none⟩ = some (.int .i64 Y) := cell_of_row w5 g4 0 _ _ _ HR_g4.out
  have c_g4_1 : w5.cell? ⟨g4, 1, none⟩ = some (.int .i64 M) := cell_of_row w5 g4 1 _ _ _ HR_g4.out
  have c_g4_2 : w5.cell? ⟨g4, 2, none⟩ = some (.int .i64 D) := cell_of_row w5 g4 2 _ _ _ HR_g4.out
  have c_g6_0 : w5.cell? ⟨g6, 0, none⟩ = some (.int .i64 Y) := cell_of_row w5 g6 0 _ _ _ HR_g6.out
  have c_g6_1 : w5.cell? ⟨g6, 1, none⟩ = some (.int .i64 (M + 1)) := cell_of_row w5 g6 1 _ _ _ HR_g6.out
  have c_g6_2 : w5.cell? ⟨g6, 2, none⟩ = some (.int .i64 1) := cell_of_row w5 g6 2 _ _ _ HR_g6.out
  have c_g8_0 : w5.cell? ⟨g8, 0, none⟩ = some (.int .i64 Y) := cell_of_row w5 g8 0 _ _ _ HR_g8.out
  have c_g8_1 : w5.cell? ⟨g8, 1, none⟩ = some (.int .i64 M) := cell_of_row w5 g8 1 _ _ _ HR_g8.out
  have c_g8_2 : w5.cell? ⟨g8, 2, none⟩ = some (.int .i64 (D + 1)) := cell_of_row w5 g8 2 _ _ _ HR_g8.out
  have f_g8_0 : w5.frozen? ⟨g8, 0, none⟩ = false := frozen_of_row w5 g8 0 _ _ HR_g8.out
  have f_g8_1 : w5.frozen? ⟨g8, 1, none⟩ = false := frozen_of_row w5 g8 1 _ _ HR_g8.out
  have f_g8_2 : w5.frozen? ⟨g8, 2, none⟩ = false := frozen_of_row w5 g8 2 _ _ HR_g8.out
  have HLN : Hid (∀ n, Calls Tryd.prog 30 #[.int .i64 Y, .int .i64 M] (w5.drewN n) fun e w' => e = .returned (.int .i64 L) ∧ w' = w5.drewN n) := Lib.hid (fun n => by rw [HLL.out]; exact (length_any Y M _ (HTP.out.below (below_drewN (Below.refl _ _) _))).mono fun e w' h => ⟨h.1, h.2.symm⟩)
  go_quiet ((go_at_call 30; exact Calls.quiet_of_same (HLN.out _)))
  obtain ⟨w6, hw⟩ : ∃ w6, w6 = w5.drewN nq := ⟨_, rfl⟩
  have hb : Below w5.heap.size w5 w6 := by rw [hw]; exact below_drewN (Below.refl _ _) _
  have HRN := Lib.hid ((hb.block g4 (heap_lt HR_g4.out)).trans HR_g4.out)
  clear HR_g4
  have HR_g4 := HRN
  clear HRN
  have HRN := Lib.hid ((hb.block g6 (heap_lt HR_g6.out)).trans HR_g6.out)
  clear HR_g6
  have HR_g6 := HRN
  clear HRN
  have HRN := Lib.hid ((hb.block g8 (heap_lt HR_g8.out)).trans HR_g8.out)
  clear HR_g8
  have HR_g8 := HRN
  clear HRN
  have HTN := Tab_stepD HTP hb
  have HBN := Bel_stepD HBP hb
  clear HTP HBP
  have HTP := HTN
  have HBP := HBN
  clear HTN HBN
  rw [← hw]
  clear hw hb c_g4_0 c_g4_1 c_g4_2 c_g6_0 c_g6_1 c_g6_2 c_g8_0 c_g8_1 c_g8_2
  have c_g4_0 : w6.cell? ⟨g4, 0, none⟩ = some (.int .i64 Y) := cell_of_row w6 g4 0 _ _ _ HR_g4.out
  have c_g4_1 : w6.cell? ⟨g4, 1, none⟩ = some (.int .i64 M) := cell_of_row w6 g4 1 _ _ _ HR_g4.out
  have c_g4_2 : w6.cell? ⟨g4, 2, none⟩ = some (.int .i64 D) := cell_of_row w6 g4 2 _ _ _ HR_g4.out
  have c_g6_0 : w6.cell? ⟨g6, 0, none⟩ = some (.int .i64 Y) := cell_of_row w6 g6 0 _ _ _ HR_g6.out
  have c_g6_1 : w6.cell? ⟨g6, 1, none⟩ = some (.int .i64 (M + 1)) := cell_of_row w6 g6 1 _ _ _ HR_g6.out
  have c_g6_2 : w6.cell? ⟨g6, 2, none⟩ = some (.int .i64 1) := cell_of_row w6 g6 2 _ _ _ HR_g6.out
  have c_g8_0 : w6.cell? ⟨g8, 0, none⟩ = some (.int .i64 Y) := cell_of_row w6 g8 0 _ _ _ HR_g8.out
  have c_g8_1 : w6.cell? ⟨g8, 1, none⟩ = some (.int .i64 M) := cell_of_row w6 g8 1 _ _ _ HR_g8.out
  have c_g8_2 : w6.cell? ⟨g8, 2, none⟩ = some (.int .i64 (D + 1)) := cell_of_row w6 g8 2 _ _ _ HR_g8.out
  clear f_g8_0 f_g8_1 f_g8_2
  have f_g8_0 : w6.frozen? ⟨g8, 0, none⟩ = false := frozen_of_row w6 g8 0 _ _ HR_g8.out
  have f_g8_1 : w6.frozen? ⟨g8, 1, none⟩ = false := frozen_of_row w6 g8 1 _ _ HR_g8.out
  have f_g8_2 : w6.frozen? ⟨g8, 2, none⟩ = false := frozen_of_row w6 g8 2 _ _ HR_g8.out
  clear HLN
  go_upto_region 8 with fail
  obtain ⟨w7, hw⟩ : ∃ w7, w7 = w6.setCell ⟨g8, 2, none⟩ (.int .i64 1) := ⟨_, rfl⟩
  have hrow : w7.heap[g8]? = some (.cells #[.int .i64 Y, .int .i64 M, .int .i64 1] 23 (0, 0)) := by rw [hw]; exact heap_setCell_same _ _ _ _ _ _ HR_g8.out
  have hb : Below w.heap.size w w7 := by rw [hw]; exact ((((Kept.of_below (fun _ => False) HBP.out).setCell (fun h => absurd (show g8 < w.heap.size from h) (by have := HG_g8.out; omega)) _).below (Nat.le_refl _) (fun _ _ h => h)))
  have HTN : Hid (Tabs w7) := Lib.hid (HT0.out.below hb)
  have HBN : Hid (Below w.heap.size w w7) := Lib.hid hb
  have HRN : Hid (w7.heap[g4]? = some (.cells #[.int .i64 Y, .int .i64 M, .int .i64 D] 23 (0, 0))) := Lib.hid (by rw [hw]; exact (heap_setCell_other _ _ _ _ HNE_g4_g8.out).trans HR_g4.out)
  clear HR_g4
  have HR_g4 := HRN
  clear HRN
  have HRN : Hid (w7.heap[g6]? = some (.cells #[.int .i64 Y, .int .i64 (M + 1), .int .i64 1] 23 (0, 0))) := Lib.hid (by rw [hw]; exact (heap_setCell_other _ _ _ _ HNE_g6_g8.out).trans HR_g6.out)
  clear HR_g6
  have HR_g6 := HRN
  clear HRN
  clear HTP HBP HR_g8 c_g4_0 c_g4_1 c_g4_2 c_g6_0 c_g6_1 c_g6_2 c_g8_0 c_g8_1 c_g8_2 f_g8_0 f_g8_1 f_g8_2
  have HTP := HTN
  have HBP := HBN
  have HR_g8 := Lib.hid hrow
  rw [← hw]
  clear HTN HBN hw hrow hb
  have c_g4_0 : w7.cell? ⟨g4, 0, none⟩ = some (.int .i64 Y) := cell_of_row w7 g4 0 _ _ _ HR_g4.out
  have c_g4_1 : w7.cell? ⟨g4, 1, none⟩ = some (.int .i64 M) := cell_of_row w7 g4 1 _ _ _ HR_g4.out
  have c_g4_2 : w7.cell? ⟨g4, 2, none⟩ = some (.int .i64 D) := cell_of_row w7 g4 2 _ _ _ HR_g4.out
  have c_g6_0 : w7.cell? ⟨g6, 0, none⟩ = some (.int .i64 Y) := cell_of_row w7 g6 0 _ _ _ HR_g6.out
  have c_g6_1 : w7.cell? ⟨g6, 1, none⟩ = some (.int .i64 (M + 1)) := cell_of_row w7 g6 1 _ _ _ HR_g6.out
  have c_g6_2 : w7.cell? ⟨g6, 2, none⟩ = some (.int .i64 1) := cell_of_row w7 g6 2 _ _ _ HR_g6.out
  have c_g8_0 : w7.cell? ⟨g8, 0, none⟩ = some (.int .i64 Y) := cell_of_row w7 g8 0 _ _ _ HR_g8.out
  have c_g8_1 : w7.cell? ⟨g8, 1, none⟩ = some (.int .i64 M) := cell_of_row w7 g8 1 _ _ _ HR_g8.out
  have c_g8_2 : w7.cell? ⟨g8, 2, none⟩ = some (.int .i64 1) := cell_of_row w7 g8 2 _ _ _ HR_g8.out
  have f_g8_0 : w7.frozen? ⟨g8, 0, none⟩ = false := frozen_of_row w7 g8 0 _ _ HR_g8.out
  have f_g8_1 : w7.frozen? ⟨g8, 1, none⟩ = false := frozen_of_row w7 g8 1 _ _ HR_g8.out
  have f_g8_2 : w7.frozen? ⟨g8, 2, none⟩ = false := frozen_of_row w7 g8 2 _ _ HR_g8.out
  go_upto_region 9 with fail
  obtain ⟨w8, hw⟩ : ∃ w8, w8 = w7.setCell ⟨g8, 1, none⟩ (.int .i64 (M + 1)) := ⟨_, rfl⟩
  have hrow : w8.heap[g8]? = some (.cells #[.int .i64 Y, .int .i64 (M + 1), .int .i64 1] 23 (0, 0)) := by rw [hw]; exact heap_setCell_same _ _ _ _ _ _ HR_g8.out
  have hb : Below w.heap.size w w8 := by rw [hw]; exact ((((Kept.of_below (fun _ => False) HBP.out).setCell (fun h => absurd (show g8 < w.heap.size from h) (by have := HG_g8.out; omega)) _).below (Nat.le_refl _) (fun _ _ h => h)))
  have HTN : Hid (Tabs w8) := Lib.hid (HT0.out.below hb)
  have HBN : Hid (Below w.heap.size w w8) := Lib.hid hb
  have HRN : Hid (w8.heap[g4]? = some (.cells #[.int .i64 Y, .int .i64 M, .int .i64 D] 23 (0, 0))) := Lib.hid (by rw [hw]; exact (heap_setCell_other _ _ _ _ HNE_g4_g8.out).trans HR_g4.out)
  clear HR_g4
  have HR_g4 := HRN
  clear HRN
  have HRN : Hid (w8.heap[g6]? = some (.cells #[.int .i64 Y, .int .i64 (M + 1), .int .i64 1] 23 (0, 0))) := Lib.hid (by rw [hw]; exact (heap_setCell_other _ _ _ _ HNE_g6_g8.out).trans HR_g6.out)
  clear HR_g6
  have HR_g6 := HRN
  clear HRN
  clear HTP HBP HR_g8 c_g4_0 c_g4_1 c_g4_2 c_g6_0 c_g6_1 c_g6_2 c_g8_0 c_g8_1 c_g8_2 f_g8_0 f_g8_1 f_g8_2
  have HTP := HTN
  have HBP := HBN
  have HR_g8 := Lib.hid hrow
  rw [← hw]
  clear HTN HBN hw hrow hb
  have c_g4_0 : w8.cell? ⟨g4, 0, none⟩ = some (.int .i64 Y) := cell_of_row w8 g4 0 _ _ _ HR_g4.out
  have c_g4_1 : w8.cell? ⟨g4, 1, none⟩ = some (.int .i64 M) := cell_of_row w8 g4 1 _ _ _ HR_g4.out
  have c_g4_2 : w8.cell? ⟨g4, 2, none⟩ = some (.int .i64 D) := cell_of_row w8 g4 2 _ _ _ HR_g4.out
  have c_g6_0 : w8.cell? ⟨g6, 0, none⟩ = some (.int .i64 Y) := cell_of_row w8 g6 0 _ _ _ HR_g6.out
  have c_g6_1 : w8.cell? ⟨g6, 1, none⟩ = some (.int .i64 (M + 1)) := cell_of_row w8 g6 1 _ _ _ HR_g6.out
  have c_g6_2 : w8.cell? ⟨g6, 2, none⟩ = some (.int .i64 1) := cell_of_row w8 g6 2 _ _ _ HR_g6.out
  have c_g8_0 : w8.cell? ⟨g8, 0, none⟩ = some (.int .i64 Y) := cell_of_row w8 g8 0 _ _ _ HR_g8.out
  have c_g8_1 : w8.cell? ⟨g8, 1, none⟩ = some (.int .i64 (M + 1)) := cell_of_row w8 g8 1 _ _ _ HR_g8.out
  have c_g8_2 : w8.cell? ⟨g8, 2, none⟩ = some (.int .i64 1) := cell_of_row w8 g8 2 _ _ _ HR_g8.out
  have f_g8_0 : w8.frozen? ⟨g8, 0, none⟩ = false := frozen_of_row w8 g8 0 _ _ HR_g8.out
  have f_g8_1 : w8.frozen? ⟨g8, 1, none⟩ = false := frozen_of_row w8 g8 1 _ _ HR_g8.out
  have f_g8_2 : w8.frozen? ⟨g8, 2, none⟩ = false := frozen_of_row w8 g8 2 _ _ HR_g8.out
  go_wp2_with (first
    | (have _t := HW1; go_at_call 26; refine (HW1.out _).mono ?_; rintro e w1 ⟨rfl, rfl⟩; clear _t HW1)
    | (go_at_call 26; refine (HW2.out _).mono ?_; rintro e w1 ⟨rfl, rfl⟩)
    | (go_at_call 19; refine (lives_any _ HTP.out).mono ?_; rintro e w1 ⟨rfl, hb⟩; have HTN := Tab_stepD HTP hb; have HBN := Bel_stepD HBP hb; clear HTP HBP; have HTP := HTN; have HBP := HBN; clear HTN HBN; clear hb))
  go_ret
  exact ⟨rfl, HBP.out⟩
set_option maxRecDepth 100000 in
set_option maxHeartbeats 4000000 in
theorem steps_B2 (n a Y M D L : Int) (w : World) (hT : Tabs w) (n1 : -9223372036854775808 ≤ n) (n2 : n ≤ 9223372036854775807) (haa : aroundD n 3652058 = a) (hab : 0 ≤ a ∧ a ≤ 3652057)
    (hy : yearN a = Y) (hm : monthN a = M) (hd : mdayN a = D) (hl : lenD Y M = L) (hb1 : 1 ≤ Y ∧ Y ≤ 9999) (hb2 : 1 ≤ M ∧ M ≤ 12) (hb3 : 1 ≤ D ∧ D ≤ 31) (hb4 : 28 ≤ L ∧ L ≤ 31) (hc : L < D + 1) (hM : M = 12)
    (k1 : yearN (a + 1) = (Y + 1)) (k2 : monthN (a + 1) = 1) (k3 : mdayN (a + 1) = 1) : Calls Tryd.prog 10 #[.int .i64 n] w fun e w' => e = .returned (.bool true) ∧ Below w.heap.size w w' := by
  have HAR := Lib.hid (aroundD_any n 3652058 w n1 n2 (by omega) (by omega))
  rw [haa] at HAR
  have HO1 : Hid (∀ u, Tabs u → Calls Tryd.prog 22 #[.int .i64 a] u fun e w' => e = .returned (.tuple #[.agg #[.int .i64 Y, .int .i64 M, .int .i64 D], .int .i64 0]) ∧ Below u.heap.size u w') := Lib.hid (fun u hu => by
    have h := of_good (n := a) ⟨by omega, by omega⟩ u hu
    rw [hy, hm, hd] at h
    exact h)
  have HO2 : Hid (∀ u, Tabs u → Calls Tryd.prog 22 #[.int .i64 (a + 1)] u fun e w' => e = .returned (.tuple #[.agg #[.int .i64 (Y + 1), .int .i64 1, .int .i64 1], .int .i64 0]) ∧ Below u.heap.size u w') := Lib.hid (fun u hu => by
    have h := of_good (n := a + 1) ⟨by omega, by omega⟩ u hu
    rw [k1, k2, k3] at h
    exact h)
  have HLL := Lib.hid hl.symm
  obtain ⟨wa, hwa⟩ : ∃ wa, wa = a % 7 := ⟨_, rfl⟩
  obtain ⟨wb, hwb⟩ : ∃ wb, wb = (a + 1) % 7 := ⟨_, rfl⟩
  have HW2 : Hid (∀ u, Calls Tryd.prog 26 #[.int .i64 a] u fun e w' => e = .returned (.int .i64 wa) ∧ u = w') := Lib.hid (fun u => by rw [hwa]; exact weekday_any a u (by omega) (by omega))
  have HW1 : Hid (∀ u, Calls Tryd.prog 26 #[.int .i64 (a + 1)] u fun e w' => e = .returned (.int .i64 wb) ∧ u = w') := Lib.hid (fun u => by rw [hwb]; exact weekday_any (a + 1) u (by omega) (by omega))
  have hwab : 0 ≤ wa ∧ wa ≤ 6 := by omega
  have i1 : IntKind.i64.wrap (wa + 1) = wa + 1 := i64_id _ (by omega) (by omega)
  have i2 : (wa + 1) % 7 = wb := by omega
  have i3 : IntKind.i64.wrap (a + 1) = a + 1 := i64_id _ (by omega) (by omega)
  have i4 : IntKind.i64.wrap (D + 1) = D + 1 := i64_id _ (by omega) (by omega)
  have i5 : IntKind.i64.wrap (M + 1) = M + 1 := i64_id _ (by omega) (by omega)
  have i6 : IntKind.i64.wrap (Y + 1) = Y + 1 := i64_id _ (by omega) (by omega)
  have i7 : (12 : Int) < M + 1 := by omega
  have HTP := Lib.hid hT
  have HT0 := HTP
  have HBP : Hid (Below w.heap.size w w) := Lib.hid (Below.refl _ _)
  clear hT haa hy hm hd hl k1 k2 k3 hwa hwb hM
  go_enter Tryd.func10, Tryd.ntmps10
  go_upto_region 2 with (go_at_call 15; refine (HAR.out).mono ?_; rintro e w1 ⟨rfl, rfl⟩)
  go_upto_region 3 with (go_at_call 22; refine (HO1.out _ HTP.out).mono ?_; rintro e v1 ⟨rfl, hb⟩; have HTN := Tab_stepD HTP hb; have HBN := Bel_stepD HBP hb; clear HTP HBP; have HTP := HTN; have HBP := HBN; clear HTN HBN; clear hb; have pd : DB (v1.alloc (.cells #[.int .i64 0, .int .i64 0, .int .i64 0] 23)) v1.heap.size := ⟨0, 0, 0, heap_new0⟩)
  obtain ⟨w2, hw⟩ : ∃ w2, w2 = (v1.alloc (.cells #[.int .i64 0, .int .i64 0, .int .i64 0] 23)).setRow v1.heap.size #[.int .i64 Y, .int .i64 M, .int .i64 D] := ⟨_, rfl⟩
  obtain ⟨g4, hg⟩ : ∃ g4, g4 = v1.heap.size := ⟨_, rfl⟩
  have hrow : w2.heap[g4]? = some (.cells #[.int .i64 Y, .int .i64 M, .int .i64 D] 23 (0, 0)) := by rw [hw, hg]; exact setRow_heap _ _ _ _ _ _ heap_new0
  have hb : Below v1.heap.size v1 w2 := by rw [hw]; exact (((Kept.refl (fun _ => False) v1).alloc _).setRow (fun h => by omega) _).below (Nat.le_refl _) (fun _ _ h => h)
  have HG_g4 : Hid (w.heap.size ≤ g4) := Lib.hid (by rw [hg]; exact HBP.out.size)
  have HR_g4 := Lib.hid hrow
  have HTN := Tab_stepD HTP hb
  have HBN := Bel_stepD HBP hb
  clear HTP HBP
  have HTP := HTN
  have HBP := HBN
  clear HTN HBN
  rw [← hw]
  rw [← hg]
  clear hw hg hrow hb pd
  have c_g4_0 : w2.cell? ⟨g4, 0, none⟩ = some (.int .i64 Y) := cell_of_row w2 g4 0 _ _ _ HR_g4.out
  have c_g4_1 : w2.cell? ⟨g4, 1, none⟩ = some (.int .i64 M) := cell_of_row w2 g4 1 _ _ _ HR_g4.out
  have c_g4_2 : w2.cell? ⟨g4, 2, none⟩ = some (.int .i64 D) := cell_of_row w2 g4 2 _ _ _ HR_g4.out
  have f_g4_0 : w2.frozen? ⟨g4, 0, none⟩ = false := frozen_of_row w2 g4 0 _ _ HR_g4.out
  have f_g4_1 : w2.frozen? ⟨g4, 1, none⟩ = false := frozen_of_row w2 g4 1 _ _ HR_g4.out
  have f_g4_2 : w2.frozen? ⟨g4, 2, none⟩ = false := frozen_of_row w2 g4 2 _ _ HR_g4.out
  go_upto_region 4 with (go_at_call 22; refine (HO2.out _ HTP.out).mono ?_; rintro e v2 ⟨rfl, hb⟩; have HTN := Tab_stepD HTP hb; have HBN := Bel_stepD HBP hb; clear HTP HBP; have HTP := HTN; have HBP := HBN; clear HTN HBN; have HRN := Lib.hid ((hb.block g4 (heap_lt HR_g4.out)).trans HR_g4.out); clear HR_g4; have HR_g4 := HRN; clear HRN; clear c_g4_0 c_g4_1 c_g4_2; have c_g4_0 : v2.cell? ⟨g4, 0, none⟩ = some (.int .i64 Y) := cell_of_row v2 g4 0 _ _ _ HR_g4.out; have c_g4_1 : v2.cell? ⟨g4, 1, none⟩ = some (.int .i64 M) := cell_of_row v2 g4 1 _ _ _ HR_g4.out; have c_g4_2 : v2.cell? ⟨g4, 2, none⟩ = some (.int .i64 D) := cell_of_row v2 g4 2 _ _ _ HR_g4.out; clear hb; have pd : DB (v2.alloc (.cells #[.int .i64 0, .int .i64 0, .int .i64 0] 23)) v2.heap.size := ⟨0, 0, 0, heap_new0⟩)
  obtain ⟨w3, hw⟩ : ∃ w3, w3 = (v2.alloc (.cells #[.int .i64 0, .int .i64 0, .int .i64 0] 23)).setRow v2.heap.size #[.int .i64 (Y + 1), .int .i64 1, .int .i64 1] := ⟨_, rfl⟩
  obtain ⟨g6, hg⟩ : ∃ g6, g6 = v2.heap.size := ⟨_, rfl⟩
  have hrow : w3.heap[g6]? = some (.cells #[.int .i64 (Y + 1), .int .i64 1, .int .i64 1] 23 (0, 0)) := by rw [hw, hg]; exact setRow_heap _ _ _ _ _ _ heap_new0
  have hb : Below v2.heap.size v2 w3 := by rw [hw]; exact (((Kept.refl (fun _ => False) v2).alloc _).setRow (fun h => by omega) _).below (Nat.le_refl _) (fun _ _ h => h)
  have HG_g6 : Hid (w.heap.size ≤ g6) := Lib.hid (by rw [hg]; exact HBP.out.size)
  have HNE_g4_g6 : Hid (g4 ≠ g6) := Lib.hid (by have := heap_lt HR_g4.out; omega)
  have HRN := Lib.hid ((hb.block g4 (heap_lt HR_g4.out)).trans HR_g4.out)
  clear HR_g4
  have HR_g4 := HRN
  clear HRN
  have HR_g6 := Lib.hid hrow
  have HTN := Tab_stepD HTP hb
  have HBN := Bel_stepD HBP hb
  clear HTP HBP
  have HTP := HTN
  have HBP := HBN
  clear HTN HBN
  rw [← hw]
  rw [← hg]
  clear hw hg hrow hb pd c_g4_0 c_g4_1 c_g4_2
  have c_g4_0 : w3.cell? ⟨g4, 0, none⟩ = some (.int .i64 Y) := cell_of_row w3 g4 0 _ _ _ HR_g4.out
  have c_g4_1 : w3.cell? ⟨g4, 1, none⟩ = some (.int .i64 M) := cell_of_row w3 g4 1 _ _ _ HR_g4.out
  have c_g4_2 : w3.cell? ⟨g4, 2, none⟩ = some (.int .i64 D) := cell_of_row w3 g4 2 _ _ _ HR_g4.out
  have c_g6_0 : w3.cell? ⟨g6, 0, none⟩ = some (.int .i64 (Y + 1)) := cell_of_row w3 g6 0 _ _ _ HR_g6.out
  have c_g6_1 : w3.cell? ⟨g6, 1, none⟩ = some (.int .i64 1) := cell_of_row w3 g6 1 _ _ _ HR_g6.out
  have c_g6_2 : w3.cell? ⟨g6, 2, none⟩ = some (.int .i64 1) := cell_of_row w3 g6 2 _ _ _ HR_g6.out
  have f_g6_0 : w3.frozen? ⟨g6, 0, none⟩ = false := frozen_of_row w3 g6 0 _ _ HR_g6.out
  have f_g6_1 : w3.frozen? ⟨g6, 1, none⟩ = false := frozen_of_row w3 g6 1 _ _ HR_g6.out
  have f_g6_2 : w3.frozen? ⟨g6, 2, none⟩ = false := frozen_of_row w3 g6 2 _ _ HR_g6.out
  have pd : DB (w3.alloc (.cells #[.int .i64 0, .int .i64 0, .int .i64 0] 23)) w3.heap.size := ⟨0, 0, 0, heap_new0⟩
  go_upto_region 5 with fail
  obtain ⟨w4, hw⟩ : ∃ w4, w4 = (w3.alloc (.cells #[.int .i64 0, .int .i64 0, .int .i64 0] 23)).setRow w3.heap.size #[.int .i64 Y, .int .i64 M, .int .i64 D] := ⟨_, rfl⟩
  obtain ⟨g8, hg⟩ : ∃ g8, g8 = w3.heap.size := ⟨_, rfl⟩
  have hrow : w4.heap[g8]? = some (.cells #[.int .i64 Y, .int .i64 M, .int .i64 D] 23 (0, 0)) := by rw [hw, hg]; exact setRow_heap _ _ _ _ _ _ heap_new0
  have hb : Below w3.heap.size w3 w4 := by rw [hw]; exact (((Kept.refl (fun _ => False) w3).alloc _).setRow (fun h => by omega) _).below (Nat.le_refl _) (fun _ _ h => h)
  have HG_g8 : Hid (w.heap.size ≤ g8) := Lib.hid (by rw [hg]; exact HBP.out.size)
  have HNE_g4_g8 : Hid (g4 ≠ g8) := Lib.hid (by have := heap_lt HR_g4.out; omega)
  have HRN := Lib.hid ((hb.block g4 (heap_lt HR_g4.out)).trans HR_g4.out)
  clear HR_g4
  have HR_g4 := HRN
  clear HRN
  have HNE_g6_g8 : Hid (g6 ≠ g8) := Lib.hid (by have := heap_lt HR_g6.out; omega)
  have HRN := Lib.hid ((hb.block g6 (heap_lt HR_g6.out)).trans HR_g6.out)
  clear HR_g6
  have HR_g6 := HRN
  clear HRN
  have HR_g8 := Lib.hid hrow
  have HTN := Tab_stepD HTP hb
  have HBN := Bel_stepD HBP hb
  clear HTP HBP
  have HTP := HTN
  have HBP := HBN
  clear HTN HBN
  rw [← hw]
  rw [← hg]
  clear hw hg hrow hb pd c_g4_0 c_g4_1 c_g4_2 c_g6_0 c_g6_1 c_g6_2
  have c_g4_0 : w4.cell? ⟨g4, 0, none⟩ = some (.int .i64 Y) := cell_of_row w4 g4 0 _ _ _ HR_g4.out
  have c_g4_1 : w4.cell? ⟨g4, 1, none⟩ = some (.int .i64 M) := cell_of_row w4 g4 1 _ _ _ HR_g4.out
  have c_g4_2 : w4.cell? ⟨g4, 2, none⟩ = some (.int .i64 D) := cell_of_row w4 g4 2 _ _ _ HR_g4.out
  have c_g6_0 : w4.cell? ⟨g6, 0, none⟩ = some (.int .i64 (Y + 1)) := cell_of_row w4 g6 0 _ _ _ HR_g6.out
  have c_g6_1 : w4.cell? ⟨g6, 1, none⟩ = some (.int .i64 1) := cell_of_row w4 g6 1 _ _ _ HR_g6.out
  have c_g6_2 : w4.cell? ⟨g6, 2, none⟩ = some (.int .i64 1) := cell_of_row w4 g6 2 _ _ _ HR_g6.out
  have c_g8_0 : w4.cell? ⟨g8, 0, none⟩ = some (.int .i64 Y) := cell_of_row w4 g8 0 _ _ _ HR_g8.out
  have c_g8_1 : w4.cell? ⟨g8, 1, none⟩ = some (.int .i64 M) := cell_of_row w4 g8 1 _ _ _ HR_g8.out
  have c_g8_2 : w4.cell? ⟨g8, 2, none⟩ = some (.int .i64 D) := cell_of_row w4 g8 2 _ _ _ HR_g8.out
  have f_g8_0 : w4.frozen? ⟨g8, 0, none⟩ = false := frozen_of_row w4 g8 0 _ _ HR_g8.out
  have f_g8_1 : w4.frozen? ⟨g8, 1, none⟩ = false := frozen_of_row w4 g8 1 _ _ HR_g8.out
  have f_g8_2 : w4.frozen? ⟨g8, 2, none⟩ = false := frozen_of_row w4 g8 2 _ _ HR_g8.out
  go_upto_region 6 with fail
  obtain ⟨w5, hw⟩ : ∃ w5, w5 = w4.setCell ⟨g8, 2, none⟩ (.int .i64 (D + 1)) := ⟨_, rfl⟩
  have hrow : w5.heap[g8]? = some (.cells #[.int .i64 Y, .int .i64 M, .int .i64 (D + 1)] 23 (0, 0)) := by rw [hw]; exact heap_setCell_same _ _ _ _ _ _ HR_g8.out
  have hb : Below w.heap.size w w5 := by rw [hw]; exact ((((Kept.of_below (fun _ => False) HBP.out).setCell (fun h => absurd (show g8 < w.heap.size from h) (by have := HG_g8.out; omega)) _).below (Nat.le_refl _) (fun _ _ h => h)))
  have HTN : Hid (Tabs w5) := Lib.hid (HT0.out.below hb)
  have HBN : Hid (Below w.heap.size w w5) := Lib.hid hb
  have HRN : Hid (w5.heap[g4]? = some (.cells #[.int .i64 Y, .int .i64 M, .int .i64 D] 23 (0, 0))) := Lib.hid (by rw [hw]; exact (heap_setCell_other _ _ _ _ HNE_g4_g8.out).trans HR_g4.out)
  clear HR_g4
  have HR_g4 := HRN
  clear HRN
  have HRN : Hid (w5.heap[g6]? = some (.cells #[.int .i64 (Y + 1), .int .i64 1, .int .i64 1] 23 (0, 0))) := Lib.hid (by rw [hw]; exact (heap_setCell_other _ _ _ _ HNE_g6_g8.out).trans HR_g6.out)
  clear HR_g6
  have HR_g6 := HRN
  clear HRN
  clear HTP HBP HR_g8 c_g4_0 c_g4_1 c_g4_2 c_g6_0 c_g6_1 c_g6_2 c_g8_0 c_g8_1 c_g8_2 f_g8_0 f_g8_1 f_g8_2
  have HTP := HTN
  have HBP := HBN
  have HR_g8 := Lib.hid hrow
  rw [← hw]
  clear HTN HBN hw hrow hb
  have c_g4_0 : w5.cell? ⟨g4, 0, none⟩ = some (.int .i64 Y) := cell_of_row w5 g4 0 _ _ _ HR_g4.out
  have c_g4_1 : w5.cell? ⟨g4, 1, none⟩ = some (.int .i64 M) := cell_of_row w5 g4 1 _ _ _ HR_g4.out
  have c_g4_2 : w5.cell? ⟨g4, 2, none⟩ = some (.int .i64 D) := cell_of_row w5 g4 2 _ _ _ HR_g4.out
  have c_g6_0 : w5.cell? ⟨g6, 0, none⟩ = some (.int .i64 (Y + 1)) := cell_of_row w5 g6 0 _ _ _ HR_g6.out
  have c_g6_1 : w5.cell? ⟨g6, 1, none⟩ = some (.int .i64 1) := cell_of_row w5 g6 1 _ _ _ HR_g6.out
  have c_g6_2 : w5.cell? ⟨g6, 2, none⟩ = some (.int .i64 1) := cell_of_row w5 g6 2 _ _ _ HR_g6.out
  have c_g8_0 : w5.cell? ⟨g8, 0, none⟩ = some (.int .i64 Y) := cell_of_row w5 g8 0 _ _ _ HR_g8.out
  have c_g8_1 : w5.cell? ⟨g8, 1, none⟩ = some (.int .i64 M) := cell_of_row w5 g8 1 _ _ _ HR_g8.out
  have c_g8_2 : w5.cell? ⟨g8, 2, none⟩ = some (.int .i64 (D + 1)) := cell_of_row w5 g8 2 _ _ _ HR_g8.out
  have f_g8_0 : w5.frozen? ⟨g8, 0, none⟩ = false := frozen_of_row w5 g8 0 _ _ HR_g8.out
  have f_g8_1 : w5.frozen? ⟨g8, 1, none⟩ = false := frozen_of_row w5 g8 1 _ _ HR_g8.out
  have f_g8_2 : w5.frozen? ⟨g8, 2, none⟩ = false := frozen_of_row w5 g8 2 _ _ HR_g8.out
  have HLN : Hid (∀ n, Calls Tryd.prog 30 #[.int .i64 Y, .int .i64 M] (w5.drewN n) fun e w' => e = .returned (.int .i64 L) ∧ w' = w5.drewN n) := Lib.hid (fun n => by rw [HLL.out]; exact (length_any Y M _ (HTP.out.below (below_drewN (Below.refl _ _) _))).mono fun e w' h => ⟨h.1, h.2.symm⟩)
  go_quiet ((go_at_call 30; exact Calls.quiet_of_same (HLN.out _)))
  obtain ⟨w6, hw⟩ : ∃ w6, w6 = w5.drewN nq := ⟨_, rfl⟩
  have hb : Below w5.heap.size w5 w6 := by rw [hw]; exact below_drewN (Below.refl _ _) _
  have HRN := Lib.hid ((hb.block g4 (heap_lt HR_g4.out)).trans HR_g4.out)
  clear HR_g4
  have HR_g4 := HRN
  clear HRN
  have HRN := Lib.hid ((hb.block g6 (heap_lt HR_g6.out)).trans HR_g6.out)
  clear HR_g6
  have HR_g6 := HRN
  clear HRN
  have HRN := Lib.hid ((hb.block g8 (heap_lt HR_g8.out)).trans HR_g8.out)
  clear HR_g8
  have HR_g8 := HRN
  clear HRN
  have HTN := Tab_stepD HTP hb
  have HBN := Bel_stepD HBP hb
  clear HTP HBP
  have HTP := HTN
  have HBP := HBN
  clear HTN HBN
  rw [← hw]
  clear hw hb c_g4_0 c_g4_1 c_g4_2 c_g6_0 c_g6_1 c_g6_2 c_g8_0 c_g8_1 c_g8_2
  have c_g4_0 : w6.cell? ⟨g4, 0, none⟩ = some (.int .i64 Y) := cell_of_row w6 g4 0 _ _ _ HR_g4.out
  have c_g4_1 : w6.cell? ⟨g4, 1, none⟩ = some (.int .i64 M) := cell_of_row w6 g4 1 _ _ _ HR_g4.out
  have c_g4_2 : w6.cell? ⟨g4, 2, none⟩ = some (.int .i64 D) := cell_of_row w6 g4 2 _ _ _ HR_g4.out
  have c_g6_0 : w6.cell? ⟨g6, 0, none⟩ = some (.int .i64 (Y + 1)) := cell_of_row w6 g6 0 _ _ _ HR_g6.out
  have c_g6_1 : w6.cell? ⟨g6, 1, none⟩ = some (.int .i64 1) := cell_of_row w6 g6 1 _ _ _ HR_g6.out
  have c_g6_2 : w6.cell? ⟨g6, 2, none⟩ = some (.int .i64 1) := cell_of_row w6 g6 2 _ _ _ HR_g6.out
  have c_g8_0 : w6.cell? ⟨g8, 0, none⟩ = some (.int .i64 Y) := cell_of_row w6 g8 0 _ _ _ HR_g8.out
  have c_g8_1 : w6.cell? ⟨g8, 1, none⟩ = some (.int .i64 M) := cell_of_row w6 g8 1 _ _ _ HR_g8.out
  have c_g8_2 : w6.cell? ⟨g8, 2, none⟩ = some (.int .i64 (D + 1)) := cell_of_row w6 g8 2 _ _ _ HR_g8.out
  clear f_g8_0 f_g8_1 f_g8_2
  have f_g8_0 : w6.frozen? ⟨g8, 0, none⟩ = false := frozen_of_row w6 g8 0 _ _ HR_g8.out
  have f_g8_1 : w6.frozen? ⟨g8, 1, none⟩ = false := frozen_of_row w6 g8 1 _ _ HR_g8.out
  have f_g8_2 : w6.frozen? ⟨g8, 2, none⟩ = false := frozen_of_row w6 g8 2 _ _ HR_g8.out
  clear HLN
  go_upto_region 8 with fail
  obtain ⟨w7, hw⟩ : ∃ w7, w7 = w6.setCell ⟨g8, 2, none⟩ (.int .i64 1) := ⟨_, rfl⟩
  have hrow : w7.heap[g8]? = some (.cells #[.int .i64 Y, .int .i64 M, .int .i64 1] 23 (0, 0)) := by rw [hw]; exact heap_setCell_same _ _ _ _ _ _ HR_g8.out
  have hb : Below w.heap.size w w7 := by rw [hw]; exact ((((Kept.of_below (fun _ => False) HBP.out).setCell (fun h => absurd (show g8 < w.heap.size from h) (by have := HG_g8.out; omega)) _).below (Nat.le_refl _) (fun _ _ h => h)))
  have HTN : Hid (Tabs w7) := Lib.hid (HT0.out.below hb)
  have HBN : Hid (Below w.heap.size w w7) := Lib.hid hb
  have HRN : Hid (w7.heap[g4]? = some (.cells #[.int .i64 Y, .int .i64 M, .int .i64 D] 23 (0, 0))) := Lib.hid (by rw [hw]; exact (heap_setCell_other _ _ _ _ HNE_g4_g8.out).trans HR_g4.out)
  clear HR_g4
  have HR_g4 := HRN
  clear HRN
  have HRN : Hid (w7.heap[g6]? = some (.cells #[.int .i64 (Y + 1), .int .i64 1, .int .i64 1] 23 (0, 0))) := Lib.hid (by rw [hw]; exact (heap_setCell_other _ _ _ _ HNE_g6_g8.out).trans HR_g6.out)
  clear HR_g6
  have HR_g6 := HRN
  clear HRN
  clear HTP HBP HR_g8 c_g4_0 c_g4_1 c_g4_2 c_g6_0 c_g6_1 c_g6_2 c_g8_0 c_g8_1 c_g8_2 f_g8_0 f_g8_1 f_g8_2
  have HTP := HTN
  have HBP := HBN
  have HR_g8 := Lib.hid hrow
  rw [← hw]
  clear HTN HBN hw hrow hb
  have c_g4_0 : w7.cell? ⟨g4, 0, none⟩ = some (.int .i64 Y) := cell_of_row w7 g4 0 _ _ _ HR_g4.out
  have c_g4_1 : w7.cell? ⟨g4, 1, none⟩ = some (.int .i64 M) := cell_of_row w7 g4 1 _ _ _ HR_g4.out
  have c_g4_2 : w7.cell? ⟨g4, 2, none⟩ = some (.int .i64 D) := cell_of_row w7 g4 2 _ _ _ HR_g4.out
  have c_g6_0 : w7.cell? ⟨g6, 0, none⟩ = some (.int .i64 (Y + 1)) := cell_of_row w7 g6 0 _ _ _ HR_g6.out
  have c_g6_1 : w7.cell? ⟨g6, 1, none⟩ = some (.int .i64 1) := cell_of_row w7 g6 1 _ _ _ HR_g6.out
  have c_g6_2 : w7.cell? ⟨g6, 2, none⟩ = some (.int .i64 1) := cell_of_row w7 g6 2 _ _ _ HR_g6.out
  have c_g8_0 : w7.cell? ⟨g8, 0, none⟩ = some (.int .i64 Y) := cell_of_row w7 g8 0 _ _ _ HR_g8.out
  have c_g8_1 : w7.cell? ⟨g8, 1, none⟩ = some (.int .i64 M) := cell_of_row w7 g8 1 _ _ _ HR_g8.out
  have c_g8_2 : w7.cell? ⟨g8, 2, none⟩ = some (.int .i64 1) := cell_of_row w7 g8 2 _ _ _ HR_g8.out
  have f_g8_0 : w7.frozen? ⟨g8, 0, none⟩ = false := frozen_of_row w7 g8 0 _ _ HR_g8.out
  have f_g8_1 : w7.frozen? ⟨g8, 1, none⟩ = false := frozen_of_row w7 g8 1 _ _ HR_g8.out
  have f_g8_2 : w7.frozen? ⟨g8, 2, none⟩ = false := frozen_of_row w7 g8 2 _ _ HR_g8.out
  go_upto_region 9 with fail
  obtain ⟨w8, hw⟩ : ∃ w8, w8 = w7.setCell ⟨g8, 1, none⟩ (.int .i64 (M + 1)) := ⟨_, rfl⟩
  have hrow : w8.heap[g8]? = some (.cells #[.int .i64 Y, .int .i64 (M + 1), .int .i64 1] 23 (0, 0)) := by rw [hw]; exact heap_setCell_same _ _ _ _ _ _ HR_g8.out
  have hb : Below w.heap.size w w8 := by rw [hw]; exact ((((Kept.of_below (fun _ => False) HBP.out).setCell (fun h => absurd (show g8 < w.heap.size from h) (by have := HG_g8.out; omega)) _).below (Nat.le_refl _) (fun _ _ h => h)))
  have HTN : Hid (Tabs w8) := Lib.hid (HT0.out.below hb)
  have HBN : Hid (Below w.heap.size w w8) := Lib.hid hb
  have HRN : Hid (w8.heap[g4]? = some (.cells #[.int .i64 Y, .int .i64 M, .int .i64 D] 23 (0, 0))) := Lib.hid (by rw [hw]; exact (heap_setCell_other _ _ _ _ HNE_g4_g8.out).trans HR_g4.out)
  clear HR_g4
  have HR_g4 := HRN
  clear HRN
  have HRN : Hid (w8.heap[g6]? = some (.cells #[.int .i64 (Y + 1), .int .i64 1, .int .i64 1] 23 (0, 0))) := Lib.hid (by rw [hw]; exact (heap_setCell_other _ _ _ _ HNE_g6_g8.out).trans HR_g6.out)
  clear HR_g6
  have HR_g6 := HRN
  clear HRN
  clear HTP HBP HR_g8 c_g4_0 c_g4_1 c_g4_2 c_g6_0 c_g6_1 c_g6_2 c_g8_0 c_g8_1 c_g8_2 f_g8_0 f_g8_1 f_g8_2
  have HTP := HTN
  have HBP := HBN
  have HR_g8 := Lib.hid hrow
  rw [← hw]
  clear HTN HBN hw hrow hb
  have c_g4_0 : w8.cell? ⟨g4, 0, none⟩ = some (.int .i64 Y) := cell_of_row w8 g4 0 _ _ _ HR_g4.out
  have c_g4_1 : w8.cell? ⟨g4, 1, none⟩ = some (.int .i64 M) := cell_of_row w8 g4 1 _ _ _ HR_g4.out
  have c_g4_2 : w8.cell? ⟨g4, 2, none⟩ = some (.int .i64 D) := cell_of_row w8 g4 2 _ _ _ HR_g4.out
  have c_g6_0 : w8.cell? ⟨g6, 0, none⟩ = some (.int .i64 (Y + 1)) := cell_of_row w8 g6 0 _ _ _ HR_g6.out
  have c_g6_1 : w8.cell? ⟨g6, 1, none⟩ = some (.int .i64 1) := cell_of_row w8 g6 1 _ _ _ HR_g6.out
  have c_g6_2 : w8.cell? ⟨g6, 2, none⟩ = some (.int .i64 1) := cell_of_row w8 g6 2 _ _ _ HR_g6.out
  have c_g8_0 : w8.cell? ⟨g8, 0, none⟩ = some (.int .i64 Y) := cell_of_row w8 g8 0 _ _ _ HR_g8.out
  have c_g8_1 : w8.cell? ⟨g8, 1, none⟩ = some (.int .i64 (M + 1)) := cell_of_row w8 g8 1 _ _ _ HR_g8.out
  have c_g8_2 : w8.cell? ⟨g8, 2, none⟩ = some (.int .i64 1) := cell_of_row w8 g8 2 _ _ _ HR_g8.out
  have f_g8_0 : w8.frozen? ⟨g8, 0, none⟩ = false := frozen_of_row w8 g8 0 _ _ HR_g8.out
  have f_g8_1 : w8.frozen? ⟨g8, 1, none⟩ = false := frozen_of_row w8 g8 1 _ _ HR_g8.out
  have f_g8_2 : w8.frozen? ⟨g8, 2, none⟩ = false := frozen_of_row w8 g8 2 _ _ HR_g8.out
  go_upto_region 11 with fail
  obtain ⟨w9, hw⟩ : ∃ w9, w9 = w8.setCell ⟨g8, 1, none⟩ (.int .i64 1) := ⟨_, rfl⟩
  have hrow : w9.heap[g8]? = some (.cells #[.int .i64 Y, .int .i64 1, .int .i64 1] 23 (0, 0)) := by rw [hw]; exact heap_setCell_same _ _ _ _ _ _ HR_g8.out
  have hb : Below w.heap.size w w9 := by rw [hw]; exact ((((Kept.of_below (fun _ => False) HBP.out).setCell (fun h => absurd (show g8 < w.heap.size from h) (by have := HG_g8.out; omega)) _).below (Nat.le_refl _) (fun _ _ h => h)))
  have HTN : Hid (Tabs w9) := Lib.hid (HT0.out.below hb)
  have HBN : Hid (Below w.heap.size w w9) := Lib.hid hb
  have HRN : Hid (w9.heap[g4]? = some (.cells #[.int .i64 Y, .int .i64 M, .int .i64 D] 23 (0, 0))) := Lib.hid (by rw [hw]; exact (heap_setCell_other _ _ _ _ HNE_g4_g8.out).trans HR_g4.out)
  clear HR_g4
  have HR_g4 := HRN
  clear HRN
  have HRN : Hid (w9.heap[g6]? = some (.cells #[.int .i64 (Y + 1), .int .i64 1, .int .i64 1] 23 (0, 0))) := Lib.hid (by rw [hw]; exact (heap_setCell_other _ _ _ _ HNE_g6_g8.out).trans HR_g6.out)
  clear HR_g6
  have HR_g6 := HRN
  clear HRN
  clear HTP HBP HR_g8 c_g4_0 c_g4_1 c_g4_2 c_g6_0 c_g6_1 c_g6_2 c_g8_0 c_g8_1 c_g8_2 f_g8_0 f_g8_1 f_g8_2
  have HTP := HTN
  have HBP := HBN
  have HR_g8 := Lib.hid hrow
  rw [← hw]
  clear HTN HBN hw hrow hb
  have c_g4_0 : w9.cell? ⟨g4, 0, none⟩ = some (.int .i64 Y) := cell_of_row w9 g4 0 _ _ _ HR_g4.out
  have c_g4_1 : w9.cell? ⟨g4, 1, none⟩ = some (.int .i64 M) := cell_of_row w9 g4 1 _ _ _ HR_g4.out
  have c_g4_2 : w9.cell? ⟨g4, 2, none⟩ = some (.int .i64 D) := cell_of_row w9 g4 2 _ _ _ HR_g4.out
  have c_g6_0 : w9.cell? ⟨g6, 0, none⟩ = some (.int .i64 (Y + 1)) := cell_of_row w9 g6 0 _ _ _ HR_g6.out
  have c_g6_1 : w9.cell? ⟨g6, 1, none⟩ = some (.int .i64 1) := cell_of_row w9 g6 1 _ _ _ HR_g6.out
  have c_g6_2 : w9.cell? ⟨g6, 2, none⟩ = some (.int .i64 1) := cell_of_row w9 g6 2 _ _ _ HR_g6.out
  have c_g8_0 : w9.cell? ⟨g8, 0, none⟩ = some (.int .i64 Y) := cell_of_row w9 g8 0 _ _ _ HR_g8.out
  have c_g8_1 : w9.cell? ⟨g8, 1, none⟩ = some (.int .i64 1) := cell_of_row w9 g8 1 _ _ _ HR_g8.out
  have c_g8_2 : w9.cell? ⟨g8, 2, none⟩ = some (.int .i64 1) := cell_of_row w9 g8 2 _ _ _ HR_g8.out
  have f_g8_0 : w9.frozen? ⟨g8, 0, none⟩ = false := frozen_of_row w9 g8 0 _ _ HR_g8.out
  have f_g8_1 : w9.frozen? ⟨g8, 1, none⟩ = false := frozen_of_row w9 g8 1 _ _ HR_g8.out
  have f_g8_2 : w9.frozen? ⟨g8, 2, none⟩ = false := frozen_of_row w9 g8 2 _ _ HR_g8.out
  go_upto_region 12 with fail
  obtain ⟨w10, hw⟩ : ∃ w10, w10 = w9.setCell ⟨g8, 0, none⟩ (.int .i64 (Y + 1)) := ⟨_, rfl⟩
  have hrow : w10.heap[g8]? = some (.cells #[.int .i64 (Y + 1), .int .i64 1, .int .i64 1] 23 (0, 0)) := by rw [hw]; exact heap_setCell_same _ _ _ _ _ _ HR_g8.out
  have hb : Below w.heap.size w w10 := by rw [hw]; exact ((((Kept.of_below (fun _ => False) HBP.out).setCell (fun h => absurd (show g8 < w.heap.size from h) (by have := HG_g8.out; omega)) _).below (Nat.le_refl _) (fun _ _ h => h)))
  have HTN : Hid (Tabs w10) := Lib.hid (HT0.out.below hb)
  have HBN : Hid (Below w.heap.size w w10) := Lib.hid hb
  have HRN : Hid (w10.heap[g4]? = some (.cells #[.int .i64 Y, .int .i64 M, .int .i64 D] 23 (0, 0))) := Lib.hid (by rw [hw]; exact (heap_setCell_other _ _ _ _ HNE_g4_g8.out).trans HR_g4.out)
  clear HR_g4
  have HR_g4 := HRN
  clear HRN
  have HRN : Hid (w10.heap[g6]? = some (.cells #[.int .i64 (Y + 1), .int .i64 1, .int .i64 1] 23 (0, 0))) := Lib.hid (by rw [hw]; exact (heap_setCell_other _ _ _ _ HNE_g6_g8.out).trans HR_g6.out)
  clear HR_g6
  have HR_g6 := HRN
  clear HRN
  clear HTP HBP HR_g8 c_g4_0 c_g4_1 c_g4_2 c_g6_0 c_g6_1 c_g6_2 c_g8_0 c_g8_1 c_g8_2 f_g8_0 f_g8_1 f_g8_2
  have HTP := HTN
  have HBP := HBN
  have HR_g8 := Lib.hid hrow
  rw [← hw]
  clear HTN HBN hw hrow hb
  have c_g4_0 : w10.cell? ⟨g4, 0, none⟩ = some (.int .i64 Y) := cell_of_row w10 g4 0 _ _ _ HR_g4.out
  have c_g4_1 : w10.cell? ⟨g4, 1, none⟩ = some (.int .i64 M) := cell_of_row w10 g4 1 _ _ _ HR_g4.out
  have c_g4_2 : w10.cell? ⟨g4, 2, none⟩ = some (.int .i64 D) := cell_of_row w10 g4 2 _ _ _ HR_g4.out
  have c_g6_0 : w10.cell? ⟨g6, 0, none⟩ = some (.int .i64 (Y + 1)) := cell_of_row w10 g6 0 _ _ _ HR_g6.out
  have c_g6_1 : w10.cell? ⟨g6, 1, none⟩ = some (.int .i64 1) := cell_of_row w10 g6 1 _ _ _ HR_g6.out
  have c_g6_2 : w10.cell? ⟨g6, 2, none⟩ = some (.int .i64 1) := cell_of_row w10 g6 2 _ _ _ HR_g6.out
  have c_g8_0 : w10.cell? ⟨g8, 0, none⟩ = some (.int .i64 (Y + 1)) := cell_of_row w10 g8 0 _ _ _ HR_g8.out
  have c_g8_1 : w10.cell? ⟨g8, 1, none⟩ = some (.int .i64 1) := cell_of_row w10 g8 1 _ _ _ HR_g8.out
  have c_g8_2 : w10.cell? ⟨g8, 2, none⟩ = some (.int .i64 1) := cell_of_row w10 g8 2 _ _ _ HR_g8.out
  have f_g8_0 : w10.frozen? ⟨g8, 0, none⟩ = false := frozen_of_row w10 g8 0 _ _ HR_g8.out
  have f_g8_1 : w10.frozen? ⟨g8, 1, none⟩ = false := frozen_of_row w10 g8 1 _ _ HR_g8.out
  have f_g8_2 : w10.frozen? ⟨g8, 2, none⟩ = false := frozen_of_row w10 g8 2 _ _ HR_g8.out
  go_wp2_with (first
    | (have _t := HW1; go_at_call 26; refine (HW1.out _).mono ?_; rintro e w1 ⟨rfl, rfl⟩; clear _t HW1)
    | (go_at_call 26; refine (HW2.out _).mono ?_; rintro e w1 ⟨rfl, rfl⟩)
    | (go_at_call 19; refine (lives_any _ HTP.out).mono ?_; rintro e w1 ⟨rfl, hb⟩; have HTN := Tab_stepD HTP hb; have HBN := Bel_stepD HBP hb; clear HTP HBP; have HTP := HTN; have HBP := HBN; clear HTN HBN; clear hb))
  go_ret
  exact ⟨rfl, HBP.out⟩
theorem steps_law (n : Int) (w : World) (hT : Tabs w) (n1 : -9223372036854775808 ≤ n) (n2 : n ≤ 9223372036854775807) : Calls Tryd.prog 10 #[.int .i64 n] w fun e w' => e = .returned (.bool true) ∧ Below w.heap.size w w' := by
  have hab := aroundD_bd n 3652058 (by omega)
  have h1 : okN (aroundD n 3652058) := ⟨by omega, by omega⟩
  have h2 : okN (aroundD n 3652058 + 1) := ⟨by omega, by omega⟩
  have hv := valid_sm (of_ok _ h1.1 h1.2).1
  have hl := len_pos (yearN (aroundD n 3652058)) (monthN (aroundD n 3652058)) (by omega) (by omega)
  rcases of_succ h1 h2 with ⟨hc, k1, k2, k3⟩ | ⟨hc, hM, k1, k2, k3⟩ | ⟨hc, hM, k1, k2, k3⟩
  · exact steps_A n _ _ _ _ _ w hT n1 n2 rfl (by omega) rfl rfl rfl rfl (by omega) (by omega) (by omega) hl hc k1 k2 k3
  · exact steps_B1 n _ _ _ _ _ w hT n1 n2 rfl (by omega) rfl rfl rfl rfl (by omega) (by omega) (by omega) hl hc hM k1 k2 k3
  · exact steps_B2 n _ _ _ _ _ w hT n1 n2 rfl (by omega) rfl rfl rfl rfl (by omega) (by omega) (by omega) hl hc hM k1 k2 k3
end Go.Proofs.YtcoijmggfkjcjaaDoor

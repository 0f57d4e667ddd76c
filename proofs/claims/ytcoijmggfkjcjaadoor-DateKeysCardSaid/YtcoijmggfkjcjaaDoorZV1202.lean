/-
  Texts IQ, IR, N0, N1, N2, N3, N4, IX, N5, N6, N7, N8, one behind the other.
-/
import Derived.WalkKit
import Derived.WalkSpells
import Derived.WalkLawsBesides
import Derived.Lib.ItoaNum
import Derived.Lib.Repeat
import Derived.Lib.Bytealg
import Derived.Lib.LaidTab
import Derived.Lib.ItoaMem
import Derived.WalkSmall
import Derived.BigQuiet
import Derived.Deep.QuietTactic
import Derived.StillTailTactics
import Derived.Deep.CutBlock
import Derived.OwnWalk
import Derived.Deep.DrawnRows
import Derived.Deep.CutRange
import Derived.Deep.LoopGhost
import Derived.Laws.Tables
import Derived.Laws.ResultCell
import Derived.Deep.WholeRow
import Derived.Shelf.LaysM
import Derived.Shelf.Strconv.Itoa3
import Derived.Shelf.Strings.Repeat
import Derived.Lib.AppendIntMem
import Derived.Laws.StandIn
import Derived.Laws.AppendOwn
import Derived.Laws.OwnMore
import Derived.Deep.AppendSrc
import Derived.Deep.MidRow
import Derived.Lib.Hide
import GoSem.Claim
import Derived.Orders
import Derived.Tactics
import Derived.Laws.Externs
import Derived.Lib.Strings
import Derived.Test.YtcoijmggfkjcjaaDoorRows
import Derived.Test.YtcoijmggfkjcjaaDoorChecked
import Derived.Test.YtcoijmggfkjcjaaDoorZV1201
namespace Go.Proofs.YtcoijmggfkjcjaaDoor
open Go.RowKit
set_option linter.unusedSimpArgs false
set_option linter.unusedVariables false
attribute [local go_sem ↓] exec_storeDate
attribute [local go_sem] run_storeDate
theorem of_at {n y m d : Int} (h : validD y m d) (hn : dayN y m d = n) : yearN n = y ∧ monthN n = m ∧ mdayN n = d := by
  rw [← hn]; exact of_day h
/-- the date of the next day -/
theorem of_succ {n : Int} (h : okN n) (h2 : okN (n + 1)) :
    (mdayN n + 1 ≤ lenD (yearN n) (monthN n) ∧ yearN (n + 1) = yearN n ∧ monthN (n + 1) = monthN n ∧ mdayN (n + 1) = mdayN n + 1) ∨
    (lenD (yearN n) (monthN n) < mdayN n + 1 ∧ monthN n < 12 ∧ yearN (n + 1) = yearN n ∧ monthN (n + 1) = monthN n + 1 ∧ mdayN (n + 1) = 1) ∨
    (lenD (yearN n) (monthN n) < mdayN n + 1 ∧ monthN n = 12 ∧ yearN (n + 1) = yearN n + 1 ∧ monthN (n + 1) = 1 ∧ mdayN (n + 1) = 1) := by
  obtain ⟨hv, hd⟩ := of_ok n h.1 h.2
  have hs := valid_sm hv
  obtain ⟨y, hy⟩ : ∃ y, y = yearN n := ⟨_, rfl⟩
  obtain ⟨m, hm⟩ : ∃ m, m = monthN n := ⟨_, rfl⟩
  obtain ⟨d, hdd⟩ : ∃ d, d = mdayN n := ⟨_, rfl⟩
  rw [← hy, ← hm, ← hdd] at hv hd hs ⊢
  clear hy hm hdd
  have hcum : cumD y (m.toNat + 1) = cumD y m.toNat + lenD y m := by
    show cumD y m.toNat + lenD y (m.toNat : Int) = _
    rw [show (m.toNat : Int) = m by omega]
  by_cases hA : d + 1 ≤ lenD y m
  · left
    refine ⟨hA, of_at (m := m) ⟨hv.1, hv.2.1, by omega, hA⟩ ?_⟩
    unfold dayN at hd ⊢
    omega
  · have hdl : d = lenD y m := by have := hv.2.2.2; omega
    by_cases hB : m < 12
    · right; left
      have hl := len_pos y (m + 1) (by omega) (by omega)
      refine ⟨by omega, hB, of_at (y := y) (m := m + 1) (d := 1) ⟨hv.1, hv.2.1, by omega, by omega⟩ ?_⟩
      unfold dayN at hd ⊢
      rw [show (m + 1).toNat = m.toNat + 1 by omega]
      omega
    · right; right
      obtain rfl : m = 12 := by omega
      have hns := new_succ y
      have e13 : cumD y ((12 : Int).toNat + 1) = cumD y 13 := rfl
      rw [e13] at hcum
      have hnew : newY (y + 1) = n + 1 := by unfold dayN at hd; omega
      have hy9 : y + 1 ≤ 9999 := by
        rcases Int.lt_or_le 9999 (y + 1) with hl | hl
        · exfalso
          have e : y = 9999 := by omega
          rw [e] at hnew
          have e2 : newY (9999 + 1) = 3652059 := by decide
          have := h2.2
          omega
        · exact hl
      have hl := len_pos (y + 1) 1 (by omega) (by omega)
      refine ⟨by omega, rfl, of_at (y := y + 1) (m := 1) (d := 1) ⟨by omega, hy9, by omega, by omega⟩ ?_⟩
      unfold dayN
      rw [show (1 : Int).toNat = 1 from rfl, cum_one]
      omega
theorem of_good {n : Int} (h : okN n) (u : World) (hu : Tabs u) : Calls Tryd.prog 22 #[.int .i64 n] u fun e w' => e = .returned (.tuple #[.agg #[.int .i64 (yearN n), .int .i64 (monthN n), .int .i64 (mdayN n)], .int .i64 0]) ∧ Below u.heap.size u w' := by
  have h1 := of_any n u hu
  obtain ⟨e1, e2, e3, e4⟩ := of_yes h
  rw [e1, e2, e3, e4] at h1
  exact h1
set_option maxRecDepth 100000 in
set_option maxHeartbeats 4000000 in
theorem steps_A (n a Y M D L : Int) (w : World) (hT : Tabs w) (n1 : -9223372036854775808 ≤ n) (n2 : n ≤ 9223372036854775807) (haa : aroundD n 3652058 = a) (hab : 0 ≤ a ∧ a ≤ 3652057)
    (hy : yearN a = Y) (hm : monthN a = M) (hd : mdayN a = D) (hl : lenD Y M = L) (hb1 : 1 ≤ Y ∧ Y ≤ 9999) (hb2 : 1 ≤ M ∧ M ≤ 12) (hb3 : 1 ≤ D ∧ D ≤ 31) (hb4 : 28 ≤ L ∧ L ≤ 31) (hc : D + 1 ≤ L)
    (k1 : yearN (a + 1) = Y) (k2 : monthN (a + 1) = M) (k3 : mdayN (a + 1) = (D + 1)) : Calls Tryd.prog 10 #[.int .i64 n] w fun e w' => e = .returned (.bool true) ∧ Below w.heap.size w w' := by
  have HAR := Lib.hid (aroundD_any n 3652058 w n1 n2 (by omega) (by omega))
  rw [haa] at HAR
  have HO1 : Hid (∀ u, Tabs u → Calls Tryd.prog 22 #[.int .i64 a] u fun e w' => e = .returned (.tuple #[.agg #[.int .i64 Y, .int .i64 M, .int .i64 D], .int .i64 0]) ∧ Below u.heap.size u w') := Lib.hid (fun u hu => by
    have h := of_good (n := a) ⟨by omega, by omega⟩ u hu
    rw [hy, hm, hd] at h
    exact h)
  have HO2 : Hid (∀ u, Tabs u → Calls Tryd.prog 22 #[.int .i64 (a + 1)] u fun e w' => e = .returned (.tuple #[.agg #[.int .i64 Y, .int .i64 M, .int .i64 (D + 1)], .int .i64 0]) ∧ Below u.heap.size u w') := Lib.hid (fun u hu => by
    have h := of_good (n := a + 1) ⟨by omega, by omega⟩ u hu
    rw [k1, k2, k3] at h
    exact h)
  have HLL := Lib.hid hl.symm
  obtain ⟨wa, hwa⟩ : ∃ wa, wa = a % 7 := ⟨_, rfl⟩
  obtain ⟨wb, hwb⟩ : ∃ wb, wb = (a + 1) % 7 := ⟨_, rfl⟩
  have HW2 : Hid (∀ u, Calls Tryd.prog 26 #[.int .i64 a] u fun e w' => e = .returned (.int .i64 wa) ∧ u = w') := Lib.hid (fun u => by rw [hwa]; exact weekday_any a u (by omega) (by omega))
  have HW1 : Hid (∀ u, Calls Tryd.prog 26 #[.int .i64 (a + 1)] u fun e w' => e = .returned (.int .i64 wb) ∧ u = w') := Lib.hid (fun u => by rw [hwb]; exact weekday_any (a + 1) u (by omega) (by omega))
  have hwab : 0 ≤ wa ∧ wa ≤ 6 := by omega
  have i1 : IntKind.i64.wrap (wa + 1) = wa + 1 := i64_id _ (by omega) (by omega)
  have i2 : (wa + 1) % 7 = wb := by omega
  have i3 : IntKind.i64.wrap (a + 1) = a + 1 := i64_id _ (by omega) (by omega)
  have i4 : IntKind.i64.wrap (D + 1) = D + 1 := i64_id _ (by omega) (by omega)
  have i5 : IntKind.i64.wrap (M + 1) = M + 1 := i64_id _ (by omega) (by omega)
  have i6 : IntKind.i64.wrap (Y + 1) = Y + 1 := i64_id _ (by omega) (by omega)
  have i7 : ¬ (12 : Int) < M := by omega
  have HTP := Lib.hid hT
  have HT0 := HTP
  have HBP : Hid (Below w.heap.size w w) := Lib.hid (Below.refl _ _)
  clear hT haa hy hm hd hl k1 k2 k3 hwa hwb
  go_enter Tryd.func10, Tryd.ntmps10
  go_upto_region 2 with (go_at_call 15; refine (HAR.out).mono ?_; rintro e w1 ⟨rfl, rfl⟩)
  go_upto_region 3 with (go_at_call 22; refine (HO1.out _ HTP.out).mono ?_; rintro e v1 ⟨rfl, hb⟩; have HTN := Tab_stepD HTP hb; have HBN := Bel_stepD HBP hb; clear HTP HBP; have HTP := HTN; have HBP := HBN; clear HTN HBN; clear hb; have pd : DB (v1.alloc (.cells #[.int .i64 0, .int .i64 0, .int .i64 0] 23)) v1.heap.size := ⟨0, 0, 0, heap_new0⟩)
  obtain ⟨w2, hw⟩ : ∃ w2, w2 = (v1.alloc (.cells #[.int .i64 0, .int .i64 0, .int .i64 0] 23)).setRow v1.heap.size #[.int .i64 Y, .int .i64 M, .int .i64 D] := ⟨_, rfl⟩
  obtain ⟨g4, hg⟩ : ∃ g4, g4 = v1.heap.size := ⟨_, rfl⟩
  have hrow : w2.heap[g4]? = some (.cells #[.int .i64 Y, .int .i64 M, .int .i64 D] 23 (0, 0)) := by rw [hw, hg]; exact setRow_heap _ _ _ _ _ _ heap_new0
  have hb : Below v1.heap.size v1 w2 := by rw [hw]; exact (((Kept.refl (fun _ => False) v1).alloc _).setRow (fun h => by omega) _).below (Nat.le_refl _) (fun _ _ h => h)
  have HG_g4 : Hid (w.heap.size ≤ g4) := Lib.hid (by rw [hg]; exact HBP.out.size)
  have HR_g4 := Lib.hid hrow
  have HTN := Tab_stepD HTP hb
  have HBN := Bel_stepD HBP hb
  clear HTP HBP
  have HTP := HTN
  have HBP := HBN
  clear HTN HBN
  rw [← hw]
  rw [← hg]
  clear hw hg hrow hb pd
  have c_g4_0 : w2.cell? ⟨g4, 0, none⟩ = some (.int .i64 Y) := cell_of_row w2 g4 0 _ _ _ HR_g4.out
  have c_g4_1 : w2.cell? ⟨g4, 1, none⟩ = some (.int .i64 M) := cell_of_row w2 g4 1 _ _ _ HR_g4.out
  have c_g4_2 : w2.cell? ⟨g4, 2, none⟩ = some (.int .i64 D) := cell_of_row w2 g4 2 _ _ _ HR_g4.out
  have f_g4_0 : w2.frozen? ⟨g4, 0, none⟩ = false := frozen_of_row w2 g4 0 _ _ HR_g4.out
  have f_g4_1 : w2.frozen? ⟨g4, 1, none⟩ = false := frozen_of_row w2 g4 1 _ _ HR_g4.out
  have f_g4_2 : w2.frozen? ⟨g4, 2, none⟩ = false := frozen_of_row w2 g4 2 _ _ HR_g4.out
  go_upto_region 4 with (go_at_call 22; refine (HO2.out _ HTP.out).mono ?_; rintro e v2 ⟨rfl, hb⟩; have HTN := Tab_stepD HTP hb; have HBN := Bel_stepD HBP hb; clear HTP HBP; have HTP := HTN; have HBP := HBN; clear HTN HBN; have HRN := Lib.hid ((hb.block g4 (heap_lt HR_g4.out)).trans HR_g4.out); clear HR_g4; have HR_g4 := HRN; clear HRN; clear c_g4_0 c_g4_1 c_g4_2; have c_g4_0 : v2.cell? ⟨g4, 0, none⟩ = some (.int .i64 Y) := cell_of_row v2 g4 0 _ _ _ HR_g4.out; have c_g4_1 : v2.cell? ⟨g4, 1, none⟩ = some (.int .i64 M) := cell_of_row v2 g4 1 _ _ _ HR_g4.out; have c_g4_2 : v2.cell? ⟨g4, 2, none⟩ = some (.int .i64 D) := cell_of_row v2 g4 2 _ _ _ HR_g4.out; clear hb; have pd : DB (v2.alloc (.cells #[.int .i64 0, .int .i64 0, .int .i64 0] 23)) v2.heap.size := ⟨0, 0, 0, heap_new0⟩)
  obtain ⟨w3, hw⟩ : ∃ w3, w3 = (v2.alloc (.cells #[.int .i64 0, .int .i64 0, .int .i64 0] 23)).setRow v2.heap.size #[.int .i64 Y, .int .i64 M, .int .i64 (D + 1)] := ⟨_, rfl⟩
  obtain ⟨g6, hg⟩ : ∃ g6, g6 = v2.heap.size := ⟨_, rfl⟩
  have hrow : w3.heap[g6]? = some (.cells #[.int .i64 Y, .int .i64 M, .int .i64 (D + 1)] 23 (0, 0)) := by rw [hw, hg]; exact setRow_heap _ _ _ _ _ _ heap_new0
  have hb : Below v2.heap.size v2 w3 := by rw [hw]; exact (((Kept.refl (fun _ => False) v2).alloc _).setRow (fun h => by omega) _).below (Nat.le_refl _) (fun _ _ h => h)
  have HG_g6 : Hid (w.heap.size ≤ g6) := Lib.hid (by rw [hg]; exact HBP.out.size)
  have HNE_g4_g6 : Hid (g4 ≠ g6) := Lib.hid (by have := heap_lt HR_g4.out; omega)
  have HRN := Lib.hid ((hb.block g4 (heap_lt HR_g4.out)).trans HR_g4.out)
  clear HR_g4
  have HR_g4 := HRN
  clear HRN
  have HR_g6 := Lib.hid hrow
  have HTN := Tab_stepD HTP hb
  have HBN := Bel_stepD HBP hb
  clear HTP HBP
  have HTP := HTN
  have HBP := HBN
  clear HTN HBN
  rw [← hw]
  rw [← hg]
  clear hw hg hrow hb pd c_g4_0 c_g4_1 c_g4_2
  have c_g4_0 : w3.cell? ⟨g4, 0, none⟩ = some (.int .i64 Y) := cell_of_row w3 g4 0 _ _ _ HR_g4.out
  have c_g4_1 : w3.cell? ⟨g4, 1, none⟩ = some (.int .i64 M) := cell_of_row w3 g4 1 _ _ _ HR_g4.out
  have c_g4_2 : w3.cell? ⟨g4, 2, none⟩ = some (.int .i64 D) := cell_of_row w3 g4 2 _ _ _ HR_g4.out
  have c_g6_0 : w3.cell? ⟨g6, 0, none⟩ = some (.int .i64 Y) := cell_of_row w3 g6 0 _ _ _ HR_g6.out
  have c_g6_1 : w3.cell? ⟨g6, 1, none⟩ = some (.int .i64 M) := cell_of_row w3 g6 1 _ _ _ HR_g6.out
  have c_g6_2 : w3.cell? ⟨g6, 2, none⟩ = some (.int .i64 (D + 1)) := cell_of_row w3 g6 2 _ _ _ HR_g6.out
  have f_g6_0 : w3.frozen? ⟨g6, 0, none⟩ = false := frozen_of_row w3 g6 0 _ _ HR_g6.out
  have f_g6_1 : w3.frozen? ⟨g6, 1, none⟩ = false := frozen_of_row w3 g6 1 _ _ HR_g6.out
  have f_g6_2 : w3.frozen? ⟨g6, 2, none⟩ = false := frozen_of_row w3 g6 2 _ _ HR_g6.out
  have pd : DB (w3.alloc (.cells #[.int .i64 0, .int .i64 0, .int .i64 0] 23)) w3.heap.size := ⟨0, 0, 0, heap_new0⟩
  go_upto_region 5 with fail
  obtain ⟨w4, hw⟩ : ∃ w4, w4 = (w3.alloc (.cells #[.int .i64 0, .int .i64 0, .int .i64 0] 23)).setRow w3.heap.size #[.int .i64 Y, .int .i64 M, .int .i64 D] := ⟨_, rfl⟩
  obtain ⟨g8, hg⟩ : ∃ g8, g8 = w3.heap.size := ⟨_, rfl⟩
  have hrow : w4.heap[g8]? = some (.cells #[.int .i64 Y, .int .i64 M, .int .i64 D] 23 (0, 0)) := by rw [hw, hg]; exact setRow_heap _ _ _ _ _ _ heap_new0
  have hb : Below w3.heap.size w3 w4 := by rw [hw]; exact (((Kept.refl (fun _ => False) w3).alloc _).setRow (fun h => by omega) _).below (Nat.le_refl _) (fun _ _ h => h)
  have HG_g8 : Hid (w.heap.size ≤ g8) := Lib.hid (by rw [hg]; exact HBP.out.size)
  have HNE_g4_g8 : Hid (g4 ≠ g8) := Lib.hid (by have := heap_lt HR_g4.out; omega)
  have HRN := Lib.hid ((hb.block g4 (heap_lt HR_g4.out)).trans HR_g4.out)
  clear HR_g4
  have HR_g4 := HRN
  clear HRN
  have HNE_g6_g8 : Hid (g6 ≠ g8) := Lib.hid (by have := heap_lt HR_g6.out; omega)
  have HRN := Lib.hid ((hb.block g6 (heap_lt HR_g6.out)).trans HR_g6.out)
  clear HR_g6
  have HR_g6 := HRN
  clear HRN
  have HR_g8 := Lib.hid hrow
  have HTN := Tab_stepD HTP hb
  have HBN := Bel_stepD HBP hb
  clear HTP HBP
  have HTP := HTN
  have HBP := HBN
  clear HTN HBN
  rw [← hw]
  rw [← hg]
  clear hw hg hrow hb pd c_g4_0 c_g4_1 c_g4_2 c_g6_0 c_g6_1 c_g6_2
  have c_g4_0 : w4.cell? ⟨g4, 0, none⟩ = some (.int .i64 Y) := cell_of_row w4 g4 0 _ _ _ HR_g4.out
  have c_g4_1 : w4.cell? ⟨g4, 1, none⟩ = some (.int .i64 M) := cell_of_row w4 g4 1 _ _ _ HR_g4.out
  have c_g4_2 : w4.cell? ⟨g4, 2, none⟩ = some (.int .i64 D) := cell_of_row w4 g4 2 _ _ _ HR_g4.out
  have c_g6_0 : w4.cell? ⟨g6, 0, none⟩ = some (.int .i64 Y) := cell_of_row w4 g6 0 _ _ _ HR_g6.out
  have c_g6_1 : w4.cell? ⟨g6, 1, none⟩ = some (.int .i64 M) := cell_of_row w4 g6 1 _ _ _ HR_g6.out
  have c_g6_2 : w4.cell? ⟨g6, 2, none⟩ = some (.int .i64 (D + 1)) := cell_of_row w4 g6 2 _ _ _ HR_g6.out
  have c_g8_0 : w4.cell? ⟨g8, 0, none⟩ = some (.int .i64 Y) := cell_of_row w4 g8 0 _ _ _ HR_g8.out
  have c_g8_1 : w4.cell? ⟨g8, 1, none⟩ = some (.int .i64 M) := cell_of_row w4 g8 1 _ _ _ HR_g8.out
  have c_g8_2 : w4.cell? ⟨g8, 2, none⟩ = some (.int .i64 D) := cell_of_row w4 g8 2 _ _ _ HR_g8.out
  have f_g8_0 : w4.frozen? ⟨g8, 0, none⟩ = false := frozen_of_row w4 g8 0 _ _ HR_g8.out
  have f_g8_1 : w4.frozen? ⟨g8, 1, none⟩ = false := frozen_of_row w4 g8 1 _ _ HR_g8.out
  have f_g8_2 : w4.frozen? ⟨g8, 2, none⟩ = false := frozen_of_row w4 g8 2 _ _ HR_g8.out
  go_upto_region 6 with fail
  obtain ⟨w5, hw⟩ : ∃ w5, w5 = w4.setCell ⟨g8, 2, none⟩ (.int .i64 (D + 1)) := ⟨_, rfl⟩
  have hrow : w5.heap[g8]? = some (.cells #[.int .i64 Y, .int .i64 M, .int .i64 (D + 1)] 23 (0, 0)) := by rw [hw]; exact heap_setCell_same _ _ _ _ _ _ HR_g8.out
  have hb : Below w.heap.size w w5 := by rw [hw]; exact ((((Kept.of_below (fun _ => False) HBP.out).setCell (fun h => absurd (show g8 < w.heap.size from h) (by have := HG_g8.out; omega)) _).below (Nat.le_refl _) (fun _ _ h => h)))
  have HTN : Hid (Tabs w5) := Lib.hid (HT0.out.below hb)
  have HBN : Hid (Below w.heap.size w w5) := Lib.hid hb
  have HRN : Hid (w5.heap[g4]? = some (.cells #[.int .i64 Y, .int .i64 M, .int .i64 D] 23 (0, 0))) := Lib.hid (by rw [hw]; exact (heap_setCell_other _ _ _ _ HNE_g4_g8.out).trans HR_g4.out)
  clear HR_g4
  have HR_g4 := HRN
  clear HRN
  have HRN : Hid (w5.heap[g6]? = some (.cells #[.int .i64 Y, .int .i64 M, .int .i64 (D + 1)] 23 (0, 0))) := Lib.hid (by rw [hw]; exact (heap_setCell_other _ _ _ _ HNE_g6_g8.out).trans HR_g6.out)
  clear HR_g6
  have HR_g6 := HRN
  clear HRN
  clear HTP HBP HR_g8 c_g4_0 c_g4_1 c_g4_2 c_g6_0 c_g6_1 c_g6_2 c_g8_0 c_g8_1 c_g8_2 f_g8_0 f_g8_1 f_g8_2
  have HTP := HTN
  have HBP := HBN
  have HR_g8 := Lib.hid hrow
  rw [← hw]
  clear HTN HBN hw hrow hb
  have c_g4_0 : w5.cell? ⟨g4, 0, none⟩ = some (.int .i64 Y) := cell_of_row w5 g4 0 _ _ _ HR_g4.out
  have c_g4_1 : w5.cell? ⟨g4, 1, none⟩ = some (.int .i64 M) := cell_of_row w5 g4 1 _ _ _ HR_g4.out
  have c_g4_2 : w5.cell? ⟨g4, 2, none⟩ = some (.int .i64 D) := cell_of_row w5 g4 2 _ _ _ HR_g4.out
  have c_g6_0 : w5.cell? ⟨g6, 0, none⟩ = some (.int .i64 Y) := cell_of_row w5 g6 0 _ _ _ HR_g6.out
  have c_g6_1 : w5.cell? ⟨g6, 1, none⟩ = some (.int .i64 M) := cell_of_row w5 g6 1 _ _ _ HR_g6.out
  have c_g6_2 : w5.cell? ⟨g6, 2, none⟩ = some (.int .i64 (D + 1)) := cell_of_row w5 g6 2 _ _ _ HR_g6.out
  have c_g8_0 : w5.cell? ⟨g8, 0, none⟩ = some (.int .i64 Y) := cell_of_row w5 g8 0 _ _ _ HR_g8.out
  have c_g8_1 : w5.cell? ⟨g8, 1, none⟩ = some (.int .i64 M) := cell_of_row w5 g8 1 _ _ _ HR_g8.out
  have c_g8_2 : w5.cell? ⟨g8, 2, none⟩ = some (.int .i64 (D + 1)) := cell_of_row w5 g8 2 _ _ _ HR_g8.out
  have f_g8_0 : w5.frozen? ⟨g8, 0, none⟩ = false := frozen_of_row w5 g8 0 _ _ HR_g8.out
  have f_g8_1 : w5.frozen? ⟨g8, 1, none⟩ = false := frozen_of_row w5 g8 1 _ _ HR_g8.out
  have f_g8_2 : w5.frozen? ⟨g8, 2, none⟩ = false := frozen_of_row w5 g8 2 _ _ HR_g8.out
  have HLN : Hid (∀ n, Calls Tryd.prog 30 #[.int .i64 Y, .int .i64 M] (w5.drewN n) fun e w' => e = .returned (.int .i64 L) ∧ w' = w5.drewN n) := Lib.hid (fun n => by rw [HLL.out]; exact (length_any Y M _ (HTP.out.below (below_drewN (Below.refl _ _) _))).mono fun e w' h => ⟨h.1, h.2.symm⟩)
  go_quiet ((go_at_call 30; exact Calls.quiet_of_same (HLN.out _)))
  go_wp2_with (first
    | (have _t := HW1; go_at_call 26; refine (HW1.out _).mono ?_; rintro e w1 ⟨rfl, rfl⟩; clear _t HW1)
    | (go_at_call 26; refine (HW2.out _).mono ?_; rintro e w1 ⟨rfl, rfl⟩)
    | (go_at_call 19; refine (lives_any _ (HTP.out.below (below_drewN (Below.refl _ _) _))).mono ?_; rintro e wl ⟨rfl, hb⟩; have HBL := Lib.hid ((below_drewN HBP.out _).trans (hb.mono (below_drewN HBP.out _).size)); clear hb))
  go_ret
  exact ⟨rfl, HBL.out⟩
set_option maxRecDepth 100000 in
set_option maxHeartbeats 4000000 in
theorem steps_B1 (n a Y M D L : Int) (w : World) (hT : Tabs w) (n1 : -9223372036854775808 ≤ n) (n2 : n ≤ 9223372036854775807) (haa : aroundD n 3652058 = a) (hab : 0 ≤ a ∧ a ≤ 3652057)
    (hy : yearN a = Y) (hm : monthN a = M) (hd : mdayN a = D) (hl : lenD Y M = L) (hb1 : 1 ≤ Y ∧ Y ≤ 9999) (hb2 : 1 ≤ M ∧ M ≤ 12) (hb3 : 1 ≤ D ∧ D ≤ 31) (hb4 : 28 ≤ L ∧ L ≤ 31) (hc : L < D + 1) (hM : M < 12)
    (k1 : yearN (a + 1) = Y) (k2 : monthN (a + 1) = (M + 1)) (k3 : mdayN (a + 1) = 1) : Calls Tryd.prog 10 #[.int .i64 n] w fun e w' => e = .returned (.bool true) ∧ Below w.heap.size w w' := by
  have HAR := Lib.hid (aroundD_any n 3652058 w n1 n2 (by omega) (by omega))
  rw [haa] at HAR
  have HO1 : Hid (∀ u, Tabs u → Calls Tryd.prog 22 #[.int .i64 a] u fun e w' => e = .returned (.tuple #[.agg #[.int .i64 Y, .int .i64 M, .int .i64 D], .int .i64 0]) ∧ Below u.heap.size u w') := Lib.hid (fun u hu => by
    have h := of_good (n := a) ⟨by omega, by omega⟩ u hu
    rw [hy, hm, hd] at h
    exact h)
  have HO2 : Hid (∀ u, Tabs u → Calls Tryd.prog 22 #[.int .i64 (a + 1)] u fun e w' => e = .returned (.tuple #[.agg #[.int .i64 Y, .int .i64 (M + 1), .int .i64 1], .int .i64 0]) ∧ Below u.heap.size u w') := Lib.hid (fun u hu => by
    have h := of_good (n := a + 1) ⟨by omega, by omega⟩ u hu
    rw [k1, k2, k3] at h
    exact h)
  have HLL := Lib.hid hl.symm
  obtain ⟨wa, hwa⟩ : ∃ wa, wa = a % 7 := ⟨_, rfl⟩
  obtain ⟨wb, hwb⟩ : ∃ wb, wb = (a + 1) % 7 := ⟨_, rfl⟩
  have HW2 : Hid (∀ u, Calls Tryd.prog 26 #[.int .i64 a] u fun e w' => e = .returned (.int .i64 wa) ∧ u = w') := Lib.hid (fun u => by rw [hwa]; exact weekday_any a u (by omega) (by omega))
  have HW1 : Hid (∀ u, Calls Tryd.prog 26 #[.int .i64 (a + 1)] u fun e w' => e = .returned (.int .i64 wb) ∧ u = w') := Lib.hid (fun u => by rw [hwb]; exact weekday_any (a + 1) u (by omega) (by omega))
  have hwab : 0 ≤ wa ∧ wa ≤ 6 := by omega
  have i1 : IntKind.i64.wrap (wa + 1) = wa + 1 := i64_id _ (by omega) (by omega)
  have i2 : (wa + 1) % 7 = wb := by omega
  have i3 : IntKind.i64.wrap (a + 1) = a + 1 := i64_id _ (by omega) (by omega)
  have i4 : IntKind.i64.wrap (D + 1) = D + 1 := i64_id _ (by omega) (by omega)
  have i5 : IntKind.i64.wrap (M + 1) = M + 1 := i64_id _ (by omega) (by omega)
  have i6 : IntKind.i64.wrap (Y + 1) = Y + 1 := i64_id _ (by omega) (by omega)
  have i7 : ¬ (12 : Int) < M + 1 := by omega
  have HTP := Lib.hid hT
  have HT0 := HTP
  have HBP : Hid (Below w.heap.size w w) := Lib.hid (Below.refl _ _)
  clear hT haa hy hm hd hl k1 k2 k3 hwa hwb hM
  go_enter Tryd.func10, Tryd.ntmps10
  go_upto_region 2 with (go_at_call 15; refine (HAR.out).mono ?_; rintro e w1 ⟨rfl, rfl⟩)
  go_upto_region 3 with (go_at_call 22; refine (HO1.out _ HTP.out).mono ?_; rintro e v1 ⟨rfl, hb⟩; have HTN := Tab_stepD HTP hb; have HBN := Bel_stepD HBP hb; clear HTP HBP; have HTP := HTN; have HBP := HBN; clear HTN HBN; clear hb; have pd : DB (v1.alloc (.cells #[.int .i64 0, .int .i64 0, .int .i64 0] 23)) v1.heap.size := ⟨0, 0, 0, heap_new0⟩)
  obtain ⟨w2, hw⟩ : ∃ w2, w2 = (v1.alloc (.cells #[.int .i64 0, .int .i64 0, .int .i64 0] 23)).setRow v1.heap.size #[.int .i64 Y, .int .i64 M, .int .i64 D] := ⟨_, rfl⟩
  obtain ⟨g4, hg⟩ : ∃ g4, g4 = v1.heap.size := ⟨_, rfl⟩
  have hrow : w2.heap[g4]? = some (.cells #[.int .i64 Y, .int .i64 M, .int .i64 D] 23 (0, 0)) := by rw [hw, hg]; exact setRow_heap _ _ _ _ _ _ heap_new0
  have hb : Below v1.heap.size v1 w2 := by rw [hw]; exact (((Kept.refl (fun _ => False) v1).alloc _).setRow (fun h => by omega) _).below (Nat.le_refl _) (fun _ _ h => h)
  have HG_g4 : Hid (w.heap.size ≤ g4) := Lib.hid (by rw [hg]; exact HBP.out.size)
  have HR_g4 := Lib.hid hrow
  have HTN := Tab_stepD HTP hb
  have HBN := Bel_stepD HBP hb
  clear HTP HBP
  have HTP := HTN
  have HBP := HBN
  clear HTN HBN
  rw [← hw]
  rw [← hg]
  clear hw hg hrow hb pd
  have c_g4_0 : w2.cell? ⟨g4, 0, none⟩ = some (.int .i64 Y) := cell_of_row w2 g4 0 _ _ _ HR_g4.out
  have c_g4_1 : w2.cell? ⟨g4, 1, none⟩ = some (.int .i64 M) := cell_of_row w2 g4 1 _ _ _ HR_g4.out
  have c_g4_2 : w2.cell? ⟨g4, 2, none⟩ = some (.int .i64 D) := cell_of_row w2 g4 2 _ _ _ HR_g4.out
  have f_g4_0 : w2.frozen? ⟨g4, 0, none⟩ = false := frozen_of_row w2 g4 0 _ _ HR_g4.out
  have f_g4_1 : w2.frozen? ⟨g4, 1, none⟩ = false := frozen_of_row w2 g4 1 _ _ HR_g4.out
  have f_g4_2 : w2.frozen? ⟨g4, 2, none⟩ = false := frozen_of_row w2 g4 2 _ _ HR_g4.out
  go_upto_region 4 with (go_at_call 22; refine (HO2.out _ HTP.out).mono ?_; rintro e v2 ⟨rfl, hb⟩; have HTN := Tab_stepD HTP hb; have HBN := Bel_stepD HBP hb; clear HTP HBP; have HTP := HTN; have HBP := HBN; clear HTN HBN; have HRN := Lib.hid ((hb.block g4 (heap_lt HR_g4.out)).trans HR_g4.out); clear HR_g4; have HR_g4 := HRN; clear HRN; clear c_g4_0 c_g4_1 c_g4_2; have c_g4_0 : v2.cell? ⟨g4, 0, none⟩ = some (.int .i64 Y) := cell_of_row v2 g4 0 _ _ _ HR_g4.out; have c_g4_1 : v2.cell? ⟨g4, 1, none⟩ = some (.int .i64 M) := cell_of_row v2 g4 1 _ _ _ HR_g4.out; have c_g4_2 : v2.cell? ⟨g4, 2, none⟩ = some (.int .i64 D) := cell_of_row v2 g4 2 _ _ _ HR_g4.out; clear hb; have pd : DB (v2.alloc (.cells #[.int .i64 0, .int .i64 0, .int .i64 0] 23)) v2.heap.size := ⟨0, 0, 0, heap_new0⟩)
  obtain ⟨w3, hw⟩ : ∃ w3, w3 = (v2.alloc (.cells #[.int .i64 0, .int .i64 0, .int .i64 0] 23)).setRow v2.heap.size #[.int .i64 Y, .int .i64 (M + 1), .int .i64 1] := ⟨_, rfl⟩
  obtain ⟨g6, hg⟩ : ∃ g6, g6 = v2.heap.size := ⟨_, rfl⟩
  have hrow : w3.heap[g6]? = some (.cells #[.int .i64 Y, .int .i64 (M + 1), .int .i64 1] 23 (0, 0)) := by rw [hw, hg]; exact setRow_heap _ _ _ _ _ _ heap_new0
  have hb : Below v2.heap.size v2 w3 := by rw [hw]; exact (((Kept.refl (fun _ => False) v2).alloc _).setRow (fun h => by omega) _).below (Nat.le_refl _) (fun _ _ h => h)
  have HG_g6 : Hid (w.heap.size ≤ g6) := Lib.hid (by rw [hg]; exact HBP.out.size)
  have HNE_g4_g6 : Hid (g4 ≠ g6) := Lib.hid (by have := heap_lt HR_g4.out; omega)
  have HRN := Lib.hid ((hb.block g4 (heap_lt HR_g4.out)).trans HR_g4.out)
  clear HR_g4
  have HR_g4 := HRN
  clear HRN
  have HR_g6 := Lib.hid hrow
  have HTN := Tab_stepD HTP hb
  have HBN := Bel_stepD HBP hb
  clear HTP HBP
  have HTP := HTN
  have HBP := HBN
  clear HTN HBN
  rw [← hw]
  rw [← hg]
  clear hw hg hrow hb pd c_g4_0 c_g4_1 c_g4_2
  have c_g4_0 : w3.cell? ⟨g4, 0, none⟩ = some (.int .i64 Y) := cell_of_row w3 g4 0 _ _ _ HR_g4.out
  have c_g4_1 : w3.cell? ⟨g4, 1, none⟩ = some (.int .i64 M) := cell_of_row w3 g4 1 _ _ _ HR_g4.out
  have c_g4_2 : w3.cell? ⟨g4, 2, none⟩ = some (.int .i64 D) := cell_of_row w3 g4 2 _ _ _ HR_g4.out
  have c_g6_0 : w3.cell? ⟨g6, 0, none⟩ = some (.int .i64 Y) := cell_of_row w3 g6 0 _ _ _ HR_g6.out
  have c_g6_1 : w3.cell? ⟨g6, 1, none⟩ = some (.int .i64 (M + 1)) := cell_of_row w3 g6 1 _ _ _ HR_g6.out
  have c_g6_2 : w3.cell? ⟨g6, 2, none⟩ = some (.int .i64 1) := cell_of_row w3 g6 2 _ _ _ HR_g6.out
  have f_g6_0 : w3.frozen? ⟨g6, 0, none⟩ = false := frozen_of_row w3 g6 0 _ _ HR_g6.out
  have f_g6_1 : w3.frozen? ⟨g6, 1, none⟩ = false := frozen_of_row w3 g6 1 _ _ HR_g6.out
  have f_g6_2 : w3.frozen? ⟨g6, 2, none⟩ = false := frozen_of_row w3 g6 2 _ _ HR_g6.out
  have pd : DB (w3.alloc (.cells #[.int .i64 0, .int .i64 0, .int .i64 0] 23)) w3.heap.size := ⟨0, 0, 0, heap_new0⟩
  go_upto_region 5 with fail
  obtain ⟨w4, hw⟩ : ∃ w4, w4 = (w3.alloc (.cells #[.int .i64 0, .int .i64 0, .int .i64 0] 23)).setRow w3.heap.size #[.int .i64 Y, .int .i64 M, .int .i64 D] := ⟨_, rfl⟩
  obtain ⟨g8, hg⟩ : ∃ g8, g8 = w3.heap.size := ⟨_, rfl⟩
  have hrow : w4.heap[g8]? = some (.cells #[.int .i64 Y, .int .i64 M, .int .i64 D] 23 (0, 0)) := by rw [hw, hg]; exact setRow_heap _ _ _ _ _ _ heap_new0
  have hb : Below w3.heap.size w3 w4 := by rw [hw]; exact (((Kept.refl (fun _ => False) w3).alloc _).setRow (fun h => by omega) _).below (Nat.le_refl _) (fun _ _ h => h)
  have HG_g8 : Hid (w.heap.size ≤ g8) := Lib.hid (by rw [hg]; exact HBP.out.size)
  have HNE_g4_g8 : Hid (g4 ≠ g8) := Lib.hid (by have := heap_lt HR_g4.out; omega)
  have HRN := Lib.hid ((hb.block g4 (heap_lt HR_g4.out)).trans HR_g4.out)
  clear HR_g4
  have HR_g4 := HRN
  clear HRN
  have HNE_g6_g8 : Hid (g6 ≠ g8) := Lib.hid (by have := heap_lt HR_g6.out; omega)
  have HRN := Lib.hid ((hb.block g6 (heap_lt HR_g6.out)).trans HR_g6.out)
  clear HR_g6
  have HR_g6 := HRN
  clear HRN
  have HR_g8 := Lib.hid hrow
  have HTN := Tab_stepD HTP hb
  have HBN := Bel_stepD HBP hb
  clear HTP HBP
  have HTP := HTN
  have HBP := HBN
  clear HTN HBN
  rw [← hw]
  rw [← hg]
  clear hw hg hrow hb pd c_g4_0 c_g4_1 c_g4_2 c_g6_0 c_g6_1 c_g6_2
  have c_g4_0 : w4.cell? ⟨g4, 0, none⟩ = some (.int .i64 Y) := cell_of_row w4 g4 0 _ _ _ HR_g4.out
  have c_g4_1 : w4.cell? ⟨g4, 1, none⟩ = some (.int .i64 M) := cell_of_row w4 g4 1 _ _ _ HR_g4.out
  have c_g4_2 : w4.cell? ⟨g4, 2, none⟩ = some (.int .i64 D) := cell_of_row w4 g4 2 _ _ _ HR_g4.out
  have c_g6_0 : w4.cell? ⟨g6, 0, none⟩ = some (.int .i64 Y) := cell_of_row w4 g6 0 _ _ _ HR_g6.out
  have c_g6_1 : w4.cell? ⟨g6, 1, none⟩ = some (.int .i64 (M + 1)) := cell_of_row w4 g6 1 _ _ _ HR_g6.out
  have c_g6_2 : w4.cell? ⟨g6, 2, none⟩ = some (.int .i64 1) := cell_of_row w4 g6 2 _ _ _ HR_g6.out
  have c_g8_0 : w4.cell? ⟨g8, 0, none⟩ = some (.int .i64 Y) := cell_of_row w4 g8 0 _ _ _ HR_g8.out
  have c_g8_1 : w4.cell? ⟨g8, 1, none⟩ = some (.int .i64 M) := cell_of_row w4 g8 1 _ _ _ HR_g8.out
  have c_g8_2 : w4.cell? ⟨g8, 2, none⟩ = some (.int .i64 D) := cell_of_row w4 g8 2 _ _ _ HR_g8.out
  have f_g8_0 : w4.frozen? ⟨g8, 0, none⟩ = false := frozen_of_row w4 g8 0 _ _ HR_g8.out
  have f_g8_1 : w4.frozen? ⟨g8, 1, none⟩ = false := frozen_of_row w4 g8 1 _ _ HR_g8.out
  have f_g8_2 : w4.frozen? ⟨g8, 2, none⟩ = false := frozen_of_row w4 g8 2 _ _ HR_g8.out
  go_upto_region 6 with fail
  obtain ⟨w5, hw⟩ : ∃ w5, w5 = w4.setCell ⟨g8, 2, none⟩ (.int .i64 (D + 1)) := ⟨_, rfl⟩
  have hrow : w5.heap[g8]? = some (.cells #[.int .i64 Y, .int .i64 M, .int .i64 (D + 1)] 23 (0, 0)) := by rw [hw]; exact heap_setCell_same _ _ _ _ _ _ HR_g8.out
  have hb : Below w.heap.size w w5 := by rw [hw]; exact ((((Kept.of_below (fun _ => False) HBP.out).setCell (fun h => absurd (show g8 < w.heap.size from h) (by have := HG_g8.out; omega)) _).below (Nat.le_refl _) (fun _ _ h => h)))
  have HTN : Hid (Tabs w5) := Lib.hid (HT0.out.below hb)
  have HBN : Hid (Below w.heap.size w w5) := Lib.hid hb
  have HRN : Hid (w5.heap[g4]? = some (.cells #[.int .i64 Y, .int .i64 M, .int .i64 D] 23 (0, 0))) := Lib.hid (by rw [hw]; exact (heap_setCell_other _ _ _ _ HNE_g4_g8.out).trans HR_g4.out)
  clear HR_g4
  have HR_g4 := HRN
  clear HRN
  have HRN : Hid (w5.heap[g6]? = some (.cells #[.int .i64 Y, .int .i64 (M + 1), .int .i64 1] 23 (0, 0))) := Lib.hid (by rw [hw]; exact (heap_setCell_other _ _ _ _ HNE_g6_g8.out).trans HR_g6.out)
  clear HR_g6
  have HR_g6 := HRN
  clear HRN
  clear HTP HBP HR_g8 c_g4_0 c_g4_1 c_g4_2 c_g6_0 c_g6_1 c_g6_2 c_g8_0 c_g8_1 c_g8_2 f_g8_0 f_g8_1 f_g8_2
  have HTP := HTN
  have HBP := HBN
  have HR_g8 := Lib.hid hrow
  rw [← hw]
  clear HTN HBN hw hrow hb
  have c_g4_0 : w5.cell? ⟨g4, 0, none⟩ = some (.int .i64 Y) := cell_of_row w5 g4 0 _ _ _ HR_g4.out
  have c_g4_1 : w5.cell? ⟨g4, 1, none⟩ = some (.int .i64 M) := cell_of_row w5 g4 1 _ _ _ HR_g4.out
  have c_g4_2 : w5.cell? ⟨g4, 2, none⟩ = some (.int .i64 D) := cell_of_row w5 g4 2 _ _ _ HR_g4.out
  have c_g6_0 : w5.cell? ⟨g6, 0, none⟩ = some (.int .i64 Y) := cell_of_row w5 g6 0 _ _ _ HR_g6.out
  have c_g6_1 : w5.cell? ⟨g6, 1, none⟩ = some (.int .i64 (M + 1)) := cell_of_row w5 g6 1 _ _ _ HR_g6.out
  have c_g6_2 : w5.cell? ⟨g6, 2, none⟩ = some (.int .i64 1) := cell_of_row w5 g6 2 _ _ _ HR_g6.out
  have c_g8_0 : w5.cell? ⟨g8, 0, none⟩ = some (.int .i64 Y) := cell_of_row w5 g8 0 _ _ _ HR_g8.out
  have c_g8_1 : w5.cell? ⟨g8, 1, none⟩ = some (.int .i64 M) := cell_of_row w5 g8 1 _ _ _ HR_g8.out
  have c_g8_2 : w5.cell? ⟨g8, 2, none⟩ = some (.int .i64 (D + 1)) := cell_of_row w5 g8 2 _ _ _ HR_g8.out
  have f_g8_0 : w5.frozen? ⟨g8, 0, none⟩ = false := frozen_of_row w5 g8 0 _ _ HR_g8.out
  have f_g8_1 : w5.frozen? ⟨g8, 1, none⟩ = false := frozen_of_row w5 g8 1 _ _ HR_g8.out
  have f_g8_2 : w5.frozen? ⟨g8, 2, none⟩ = false := frozen_of_row w5 g8 2 _ _ HR_g8.out
  have HLN : Hid (∀ n, Calls Tryd.prog 30 #[.int .i64 Y, .int .i64 M] (w5.drewN n) fun e w' => e = .returned (.int .i64 L) ∧ w' = w5.drewN n) := Lib.hid (fun n => by rw [HLL.out]; exact (length_any Y M _ (HTP.out.below (below_drewN (Below.refl _ _) _))).mono fun e w' h => ⟨h.1, h.2.symm⟩)
  go_quiet ((go_at_call 30; exact Calls.quiet_of_same (HLN.out _)))
  obtain ⟨w6, hw⟩ : ∃ w6, w6 = w5.drewN nq := ⟨_, rfl⟩
  have hb : Below w5.heap.size w5 w6 := by rw [hw]; exact below_drewN (Below.refl _ _) _
  have HRN := Lib.hid ((hb.block g4 (heap_lt HR_g4.out)).trans HR_g4.out)
  clear HR_g4
  have HR_g4 := HRN
  clear HRN
  have HRN := Lib.hid ((hb.block g6 (heap_lt HR_g6.out)).trans HR_g6.out)
  clear HR_g6
  have HR_g6 := HRN
  clear HRN
  have HRN := Lib.hid ((hb.block g8 (heap_lt HR_g8.out)).trans HR_g8.out)
  clear HR_g8
  have HR_g8 := HRN
  clear HRN
  have HTN := Tab_stepD HTP hb
  have HBN := Bel_stepD HBP hb
  clear HTP HBP
  have HTP := HTN
  have HBP := HBN
  clear HTN HBN
  rw [← hw]
  clear hw hb c_g4_0 c_g4_1 c_g4_2 c_g6_0 c_g6_1 c_g6_2 c_g8_0 c_g8_1 c_g8_2
  have c_g4_0 : w6.cell? ⟨g4, 0, none⟩ = some (.int .i64 Y) := cell_of_row w6 g4 0 _ _ _ HR_g4.out
  have c_g4_1 : w6.cell? ⟨g4, 1, none⟩ = some (.int .i64 M) := cell_of_row w6 g4 1 _ _ _ HR_g4.out
  have c_g4_2 : w6.cell? ⟨g4, 2, none⟩ = some (.int .i64 D) := cell_of_row w6 g4 2 _ _ _ HR_g4.out
  have c_g6_0 : w6.cell? ⟨g6, 0, none⟩ = some (.int .i64 Y) := cell_of_row w6 g6 0 _ _ _ HR_g6.out
  have c_g6_1 : w6.cell? ⟨g6, 1, none⟩ = some (.int .i64 (M + 1)) := cell_of_row w6 g6 1 _ _ _ HR_g6.out
  have c_g6_2 : w6.cell? ⟨g6, 2, none⟩ = some (.int .i64 1) := cell_of_row w6 g6 2 _ _ _ HR_g6.out
  have c_g8_0 : w6.cell? ⟨g8, 0, none⟩ = some (.int .i64 Y) := cell_of_row w6 g8 0 _ _ _ HR_g8.out
  have c_g8_1 : w6.cell? ⟨g8, 1, none⟩ = some (.int .i64 M) := cell_of_row w6 g8 1 _ _ _ HR_g8.out
  have c_g8_2 : w6.cell? ⟨g8, 2, none⟩ = some (.int .i64 (D + 1)) := cell_of_row w6 g8 2 _ _ _ HR_g8.out
  clear f_g8_0 f_g8_1 f_g8_2
  have f_g8_0 : w6.frozen? ⟨g8, 0, none⟩ = false := frozen_of_row w6 g8 0 _ _ HR_g8.out
  have f_g8_1 : w6.frozen? ⟨g8, 1, none⟩ = false := frozen_of_row w6 g8 1 _ _ HR_g8.out
  have f_g8_2 : w6.frozen? ⟨g8, 2, none⟩ = false := frozen_of_row w6 g8 2 _ _ HR_g8.out
  clear HLN
  go_upto_region 8 with fail
  obtain ⟨w7, hw⟩ : ∃ w7, w7 = w6.setCell ⟨g8, 2, none⟩ (.int .i64 1) := ⟨_, rfl⟩
  have hrow : w7.heap[g8]? = some (.cells #[.int .i64 Y, .int .i64 M, .int .i64 1] 23 (0, 0)) := by rw [hw]; exact heap_setCell_same _ _ _ _ _ _ HR_g8.out
  have hb : Below w.heap.size w w7 := by rw [hw]; exact ((((Kept.of_below (fun _ => False) HBP.out).setCell (fun h => absurd (show g8 < w.heap.size from h) (by have := HG_g8.out; omega)) _).below (Nat.le_refl _) (fun _ _ h => h)))
  have HTN : Hid (Tabs w7) := Lib.hid (HT0.out.below hb)
  have HBN : Hid (Below w.heap.size w w7) := Lib.hid hb
  have HRN : Hid (w7.heap[g4]? = some (.cells #[.int .i64 Y, .int .i64 M, .int .i64 D] 23 (0, 0))) := Lib.hid (by rw [hw]; exact (heap_setCell_other _ _ _ _ HNE_g4_g8.out).trans HR_g4.out)
  clear HR_g4
  have HR_g4 := HRN
  clear HRN
  have HRN : Hid (w7.heap[g6]? = some (.cells #[.int .i64 Y, .int .i64 (M + 1), .int .i64 1] 23 (0, 0))) := Lib.hid (by rw [hw]; exact (heap_setCell_other _ _ _ _ HNE_g6_g8.out).trans HR_g6.out)
  clear HR_g6
  have HR_g6 := HRN
  clear HRN
  clear HTP HBP HR_g8 c_g4_0 c_g4_1 c_g4_2 c_g6_0 c_g6_1 c_g6_2 c_g8_0 c_g8_1 c_g8_2 f_g8_0 f_g8_1 f_g8_2
  have HTP := HTN
  have HBP := HBN
  have HR_g8 := Lib.hid hrow
  rw [← hw]
  clear HTN HBN hw hrow hb
  have c_g4_0 : w7.cell? ⟨g4, 0, none⟩ = some (.int .i64 Y) := cell_of_row w7 g4 0 _ _ _ HR_g4.out
  have c_g4_1 : w7.cell? ⟨g4, 1, none⟩ = some (.int .i64 M) := cell_of_row w7 g4 1 _ _ _ HR_g4.out
  have c_g4_2 : w7.cell? ⟨g4, 2, none⟩ = some (.int .i64 D) := cell_of_row w7 g4 2 _ _ _ HR_g4.out
  have c_g6_0 : w7.cell? ⟨g6, 0, none⟩ = some (.int .i64 Y) := cell_of_row w7 g6 0 _ _ _ HR_g6.out
  have c_g6_1 : w7.cell? ⟨g6, 1, none⟩ = some (.int .i64 (M + 1)) := cell_of_row w7 g6 1 _ _ _ HR_g6.out
  have c_g6_2 : w7.cell? ⟨g6, 2, none⟩ = some (.int .i64 1) := cell_of_row w7 g6 2 _ _ _ HR_g6.out
  have c_g8_0 : w7.cell? ⟨g8, 0, none⟩ = some (.int .i64 Y) := cell_of_row w7 g8 0 _ _ _ HR_g8.out
  have c_g8_1 : w7.cell? ⟨g8, 1, none⟩ = some (.int .i64 M) := cell_of_row w7 g8 1 _ _ _ HR_g8.out
  have c_g8_2 : w7.cell? ⟨g8, 2, none⟩ = some (.int .i64 1) := cell_of_row w7 g8 2 _ _ _ HR_g8.out
  have f_g8_0 : w7.frozen? ⟨g8, 0, none⟩ = false := frozen_of_row w7 g8 0 _ _ HR_g8.out
  have f_g8_1 : w7.frozen? ⟨g8, 1, none⟩ = false := frozen_of_row w7 g8 1 _ _ HR_g8.out
  have f_g8_2 : w7.frozen? ⟨g8, 2, none⟩ = false := frozen_of_row w7 g8 2 _ _ HR_g8.out
  go_upto_region 9 with fail
  obtain ⟨w8, hw⟩ : ∃ w8, w8 = w7.setCell ⟨g8, 1, none⟩ (.int .i64 (M + 1)) := ⟨_, rfl⟩
  have hrow : w8.heap[g8]? = some (.cells #[.int .i64 Y, .int .i64 (M + 1), .int .i64 1] 23 (0, 0)) := by rw [hw]; exact heap_setCell_same _ _ _ _ _ _ HR_g8.out
  have hb : Below w.heap.size w w8 := by rw [hw]; exact ((((Kept.of_below (fun _ => False) HBP.out).setCell (fun h => absurd (show g8 < w.heap.size from h) (by have := HG_g8.out; omega)) _).below (Nat.le_refl _) (fun _ _ h => h)))
  have HTN : Hid (Tabs w8) := Lib.hid (HT0.out.below hb)
  have HBN : Hid (Below w.heap.size w w8) := Lib.hid hb
  have HRN : Hid (w8.heap[g4]? = some (.cells #[.int .i64 Y, .int .i64 M, .int .i64 D] 23 (0, 0))) := Lib.hid (by rw [hw]; exact (heap_setCell_other _ _ _ _ HNE_g4_g8.out).trans HR_g4.out)
  clear HR_g4
  have HR_g4 := HRN
  clear HRN
  have HRN : Hid (w8.heap[g6]? = some (.cells #[.int .i64 Y, .int .i64 (M + 1), .int .i64 1] 23 (0, 0))) := Lib.hid (by rw [hw]; exact (heap_setCell_other _ _ _ _ HNE_g6_g8.out).trans HR_g6.out)
  clear HR_g6
  have HR_g6 := HRN
  clear HRN
  clear HTP HBP HR_g8 c_g4_0 c_g4_1 c_g4_2 c_g6_0 c_g6_1 c_g6_2 c_g8_0 c_g8_1 c_g8_2 f_g8_0 f_g8_1 f_g8_2
  have HTP := HTN
  have HBP := HBN
  have HR_g8 := Lib.hid hrow
  rw [← hw]
  clear HTN HBN hw hrow hb
  have c_g4_0 : w8.cell? ⟨g4, 0, none⟩ = some (.int .i64 Y) := cell_of_row w8 g4 0 _ _ _ HR_g4.out
  have c_g4_1 : w8.cell? ⟨g4, 1, none⟩ = some (.int .i64 M) := cell_of_row w8 g4 1 _ _ _ HR_g4.out
  have c_g4_2 : w8.cell? ⟨g4, 2, none⟩ = some (.int .i64 D) := cell_of_row w8 g4 2 _ _ _ HR_g4.out
  have c_g6_0 : w8.cell? ⟨g6, 0, none⟩ = some (.int .i64 Y) := cell_of_row w8 g6 0 _ _ _ HR_g6.out
  have c_g6_1 : w8.cell? ⟨g6, 1, none⟩ = some (.int .i64 (M + 1)) := cell_of_row w8 g6 1 _ _ _ HR_g6.out
  have c_g6_2 : w8.cell? ⟨g6, 2, none⟩ = some (.int .i64 1) := cell_of_row w8 g6 2 _ _ _ HR_g6.out
  have c_g8_0 : w8.cell? ⟨g8, 0, none⟩ = some (.int .i64 Y) := cell_of_row w8 g8 0 _ _ _ HR_g8.out
  have c_g8_1 : w8.cell? ⟨g8, 1, none⟩ = some (.int .i64 (M + 1)) := cell_of_row w8 g8 1 _ _ _ HR_g8.out
  have c_g8_2 : w8.cell? ⟨g8, 2, none⟩ = some (.int .i64 1) := cell_of_row w8 g8 2 _ _ _ HR_g8.out
  have f_g8_0 : w8.frozen? ⟨g8, 0, none⟩ = false := frozen_of_row w8 g8 0 _ _ HR_g8.out
  have f_g8_1 : w8.frozen? ⟨g8, 1, none⟩ = false := frozen_of_row w8 g8 1 _ _ HR_g8.out
  have f_g8_2 : w8.frozen? ⟨g8, 2, none⟩ = false := frozen_of_row w8 g8 2 _ _ HR_g8.out
  go_wp2_with (first
    | (have _t := HW1; go_at_call 26; refine (HW1.out _).mono ?_; rintro e w1 ⟨rfl, rfl⟩; clear _t HW1)
    | (go_at_call 26; refine (HW2.out _).mono ?_; rintro e w1 ⟨rfl, rfl⟩)
    | (go_at_call 19; refine (lives_any _ HTP.out).mono ?_; rintro e w1 ⟨rfl, hb⟩; have HTN := Tab_stepD HTP hb; have HBN := Bel_stepD HBP hb; clear HTP HBP; have HTP := HTN; have HBP := HBN; clear HTN HBN; clear hb))
  go_ret
  exact ⟨rfl, HBP.out⟩
set_option maxRecDepth 100000 in
set_option maxHeartbeats 4000000 in
theorem steps_B2 (n a Y M D L : Int) (w : World) (hT : Tabs w) (n1 : -9223372036854775808 ≤ n) (n2 : n ≤ 9223372036854775807) (haa : aroundD n 3652058 = a) (hab : 0 ≤ a ∧ a ≤ 3652057)
    (hy : yearN a = Y) (hm : monthN a = M) (hd : mdayN a = D) (hl : lenD Y M = L) (hb1 : 1 ≤ Y ∧ Y ≤ 9999) (hb2 : 1 ≤ M ∧ M ≤ 12) (hb3 : 1 ≤ D ∧ D ≤ 31) (hb4 : 28 ≤ L ∧ L ≤ 31) (hc : L < D + 1) (hM : M = 12)
    (k1 : yearN (a + 1) = (Y + 1)) (k2 : monthN (a + 1) = 1) (k3 : mdayN (a + 1) = 1) : Calls Tryd.prog 10 #[.int .i64 n] w fun e w' => e = .returned (.bool true) ∧ Below w.heap.size w w' := by
  have HAR := Lib.hid (aroundD_any n 3652058 w n1 n2 (by omega) (by omega))
  rw [haa] at HAR
  have HO1 : Hid (∀ u, Tabs u → Calls Tryd.prog 22 #[.int .i64 a] u fun e w' => e = .returned (.tuple #[.agg #[.int .i64 Y, .int .i64 M, .int .i64 D], .int .i64 0]) ∧ Below u.heap.size u w') := Lib.hid (fun u hu => by
    have h := of_good (n := a) ⟨by omega, by omega⟩ u hu
    rw [hy, hm, hd] at h
    exact h)
  have HO2 : Hid (∀ u, Tabs u → Calls Tryd.prog 22 #[.int .i64 (a + 1)] u fun e w' => e = .returned (.tuple #[.agg #[.int .i64 (Y + 1), .int .i64 1, .int .i64 1], .int .i64 0]) ∧ Below u.heap.size u w') := Lib.hid (fun u hu => by
    have h := of_good (n := a + 1) ⟨by omega, by omega⟩ u hu
    rw [k1, k2, k3] at h
    exact h)
  have HLL := Lib.hid hl.symm
  obtain ⟨wa, hwa⟩ : ∃ wa, wa = a % 7 := ⟨_, rfl⟩
  obtain ⟨wb, hwb⟩ : ∃ wb, wb = (a + 1) % 7 := ⟨_, rfl⟩
  have HW2 : Hid (∀ u, Calls Tryd.prog 26 #[.int .i64 a] u fun e w' => e = .returned (.int .i64 wa) ∧ u = w') := Lib.hid (fun u => by rw [hwa]; exact weekday_any a u (by omega) (by omega))
  have HW1 : Hid (∀ u, Calls Tryd.prog 26 #[.int .i64 (a + 1)] u fun e w' => e = .returned (.int .i64 wb) ∧ u = w') := Lib.hid (fun u => by rw [hwb]; exact weekday_any (a + 1) u (by omega) (by omega))
  have hwab : 0 ≤ wa ∧ wa ≤ 6 := by omega
  have i1 : IntKind.i64.wrap (wa + 1) = wa + 1 := i64_id _ (by omega) (by omega)
  have i2 : (wa + 1) % 7 = wb := by omega
  have i3 : IntKind.i64.wrap (a + 1) = a + 1 := i64_id _ (by omega) (by omega)
  have i4 : IntKind.i64.wrap (D + 1) = D + 1 := i64_id _ (by omega) (by omega)
  have i5 : IntKind.i64.wrap (M + 1) = M + 1 := i64_id _ (by omega) (by omega)
  have i6 : IntKind.i64.wrap (Y + 1) = Y + 1 := i64_id _ (by omega) (by omega)
  have i7 : (12 : Int) < M + 1 := by omega
  have HTP := Lib.hid hT
  have HT0 := HTP
  have HBP : Hid (Below w.heap.size w w) := Lib.hid (Below.refl _ _)
  clear hT haa hy hm hd hl k1 k2 k3 hwa hwb hM
  go_enter Tryd.func10, Tryd.ntmps10
  go_upto_region 2 with (go_at_call 15; refine (HAR.out).mono ?_; rintro e w1 ⟨rfl, rfl⟩)
  go_upto_region 3 with (go_at_call 22; refine (HO1.out _ HTP.out).mono ?_; rintro e v1 ⟨rfl, hb⟩; have HTN := Tab_stepD HTP hb; have HBN := Bel_stepD HBP hb; clear HTP HBP; have HTP := HTN; have HBP := HBN; clear HTN HBN; clear hb; have pd : DB (v1.alloc (.cells #[.int .i64 0, .int .i64 0, .int .i64 0] 23)) v1.heap.size := ⟨0, 0, 0, heap_new0⟩)
  obtain ⟨w2, hw⟩ : ∃ w2, w2 = (v1.alloc (.cells #[.int .i64 0, .int .i64 0, .int .i64 0] 23)).setRow v1.heap.size #[.int .i64 Y, .int .i64 M, .int .i64 D] := ⟨_, rfl⟩
  obtain ⟨g4, hg⟩ : ∃ g4, g4 = v1.heap.size := ⟨_, rfl⟩
  have hrow : w2.heap[g4]? = some (.cells #[.int .i64 Y, .int .i64 M, .int .i64 D] 23 (0, 0)) := by rw [hw, hg]; exact setRow_heap _ _ _ _ _ _ heap_new0
  have hb : Below v1.heap.size v1 w2 := by rw [hw]; exact (((Kept.refl (fun _ => False) v1).alloc _).setRow (fun h => by omega) _).below (Nat.le_refl _) (fun _ _ h => h)
  have HG_g4 : Hid (w.heap.size ≤ g4) := Lib.hid (by rw [hg]; exact HBP.out.size)
  have HR_g4 := Lib.hid hrow
  have HTN := Tab_stepD HTP hb
  have HBN := Bel_stepD HBP hb
  clear HTP HBP
  have HTP := HTN
  have HBP := HBN
  clear HTN HBN
  rw [← hw]
  rw [← hg]
  clear hw hg hrow hb pd
  have c_g4_0 : w2.cell? ⟨g4, 0, none⟩ = some (.int .i64 Y) := cell_of_row w2 g4 0 _ _ _ HR_g4.out
  have c_g4_1 : w2.cell? ⟨g4, 1, none⟩ = some (.int .i64 M) := cell_of_row w2 g4 1 _ _ _ HR_g4.out
  have c_g4_2 : w2.cell? ⟨g4, 2, none⟩ = some (.int .i64 D) := cell_of_row w2 g4 2 _ _ _ HR_g4.out
  have f_g4_0 : w2.frozen? ⟨g4, 0, none⟩ = false := frozen_of_row w2 g4 0 _ _ HR_g4.out
  have f_g4_1 : w2.frozen? ⟨g4, 1, none⟩ = false := frozen_of_row w2 g4 1 _ _ HR_g4.out
  have f_g4_2 : w2.frozen? ⟨g4, 2, none⟩ = false := frozen_of_row w2 g4 2 _ _ HR_g4.out
  go_upto_region 4 with (go_at_call 22; refine (HO2.out _ HTP.out).mono ?_; rintro e v2 ⟨rfl, hb⟩; have HTN := Tab_stepD HTP hb; have HBN := Bel_stepD HBP hb; clear HTP HBP; have HTP := HTN; have HBP := HBN; clear HTN HBN; have HRN := Lib.hid ((hb.block g4 (heap_lt HR_g4.out)).trans HR_g4.out); clear HR_g4; have HR_g4 := HRN; clear HRN; clear c_g4_0 c_g4_1 c_g4_2; have c_g4_0 : v2.cell? ⟨g4, 0, none⟩ = some (.int .i64 Y) := cell_of_row v2 g4 0 _ _ _ HR_g4.out; have c_g4_1 : v2.cell? ⟨g4, 1, none⟩ = some (.int .i64 M) := cell_of_row v2 g4 1 _ _ _ HR_g4.out; have c_g4_2 : v2.cell? ⟨g4, 2, none⟩ = some (.int .i64 D) := cell_of_row v2 g4 2 _ _ _ HR_g4.out; clear hb; have pd : DB (v2.alloc (.cells #[.int .i64 0, .int .i64 0, .int .i64 0] 23)) v2.heap.size := ⟨0, 0, 0, heap_new0⟩)
  obtain ⟨w3, hw⟩ : ∃ w3, w3 = (v2.alloc (.cells #[.int .i64 0, .int .i64 0, .int .i64 0] 23)).setRow v2.heap.size #[.int .i64 (Y + 1), .int .i64 1, .int .i64 1] := ⟨_, rfl⟩
  obtain ⟨g6, hg⟩ : ∃ g6, g6 = v2.heap.size := ⟨_, rfl⟩
  have hrow : w3.heap[g6]? = some (.cells #[.int .i64 (Y + 1), .int .i64 1, .int .i64 1] 23 (0, 0)) := by rw [hw, hg]; exact setRow_heap _ _ _ _ _ _ heap_new0
  have hb : Below v2.heap.size v2 w3 := by rw [hw]; exact (((Kept.refl (fun _ => False) v2).alloc _).setRow (fun h => by omega) _).below (Nat.le_refl _) (fun _ _ h => h)
  have HG_g6 : Hid (w.heap.size ≤ g6) := Lib.hid (by rw [hg]; exact HBP.out.size)
  have HNE_g4_g6 : Hid (g4 ≠ g6) := Lib.hid (by have := heap_lt HR_g4.out; omega)
  have HRN := Lib.hid ((hb.block g4 (heap_lt HR_g4.out)).trans HR_g4.out)
  clear HR_g4
  have HR_g4 := HRN
  clear HRN
  have HR_g6 := Lib.hid hrow
  have HTN := Tab_stepD HTP hb
  have HBN := Bel_stepD HBP hb
  clear HTP HBP
  have HTP := HTN
  have HBP := HBN
  clear HTN HBN
  rw [← hw]
  rw [← hg]
  clear hw hg hrow hb pd c_g4_0 c_g4_1 c_g4_2
  have c_g4_0 : w3.cell? ⟨g4, 0, none⟩ = some (.int .i64 Y) := cell_of_row w3 g4 0 _ _ _ HR_g4.out
  have c_g4_1 : w3.cell? ⟨g4, 1, none⟩ = some (.int .i64 M) := cell_of_row w3 g4 1 _ _ _ HR_g4.out
  have c_g4_2 : w3.cell? ⟨g4, 2, none⟩ = some (.int .i64 D) := cell_of_row w3 g4 2 _ _ _ HR_g4.out
  have c_g6_0 : w3.cell? ⟨g6, 0, none⟩ = some (.int .i64 (Y + 1)) := cell_of_row w3 g6 0 _ _ _ HR_g6.out
  have c_g6_1 : w3.cell? ⟨g6, 1, none⟩ = some (.int .i64 1) := cell_of_row w3 g6 1 _ _ _ HR_g6.out
  have c_g6_2 : w3.cell? ⟨g6, 2, none⟩ = some (.int .i64 1) := cell_of_row w3 g6 2 _ _ _ HR_g6.out
  have f_g6_0 : w3.frozen? ⟨g6, 0, none⟩ = false := frozen_of_row w3 g6 0 _ _ HR_g6.out
  have f_g6_1 : w3.frozen? ⟨g6, 1, none⟩ = false := frozen_of_row w3 g6 1 _ _ HR_g6.out
  have f_g6_2 : w3.frozen? ⟨g6, 2, none⟩ = false := frozen_of_row w3 g6 2 _ _ HR_g6.out
  have pd : DB (w3.alloc (.cells #[.int .i64 0, .int .i64 0, .int .i64 0] 23)) w3.heap.size := ⟨0, 0, 0, heap_new0⟩
  go_upto_region 5 with fail
  obtain ⟨w4, hw⟩ : ∃ w4, w4 = (w3.alloc (.cells #[.int .i64 0, .int .i64 0, .int .i64 0] 23)).setRow w3.heap.size #[.int .i64 Y, .int .i64 M, .int .i64 D] := ⟨_, rfl⟩
  obtain ⟨g8, hg⟩ : ∃ g8, g8 = w3.heap.size := ⟨_, rfl⟩
  have hrow : w4.heap[g8]? = some (.cells #[.int .i64 Y, .int .i64 M, .int .i64 D] 23 (0, 0)) := by rw [hw, hg]; exact setRow_heap _ _ _ _ _ _ heap_new0
  have hb : Below w3.heap.size w3 w4 := by rw [hw]; exact (((Kept.refl (fun _ => False) w3).alloc _).setRow (fun h => by omega) _).below (Nat.le_refl _) (fun _ _ h => h)
  have HG_g8 : Hid (w.heap.size ≤ g8) := Lib.hid (by rw [hg]; exact HBP.out.size)
  have HNE_g4_g8 : Hid (g4 ≠ g8) := Lib.hid (by have := heap_lt HR_g4.out; omega)
  have HRN := Lib.hid ((hb.block g4 (heap_lt HR_g4.out)).trans HR_g4.out)
  clear HR_g4
  have HR_g4 := HRN
  clear HRN
  have HNE_g6_g8 : Hid (g6 ≠ g8) := Lib.hid (by have := heap_lt HR_g6.out; omega)
  have HRN := Lib.hid ((hb.block g6 (heap_lt HR_g6.out)).trans HR_g6.out)
  clear HR_g6
  have HR_g6 := HRN
  clear HRN
  have HR_g8 := Lib.hid hrow
  have HTN := Tab_stepD HTP hb
  have HBN := Bel_stepD HBP hb
  clear HTP HBP
  have HTP := HTN
  have HBP := HBN
  clear HTN HBN
  rw [← hw]
  rw [← hg]
  clear hw hg hrow hb pd c_g4_0 c_g4_1 c_g4_2 c_g6_0 c_g6_1 c_g6_2
  have c_g4_0 : w4.cell? ⟨g4, 0, none⟩ = some (.int .i64 Y) := cell_of_row w4 g4 0 _ _ _ HR_g4.out
  have c_g4_1 : w4.cell? ⟨g4, 1, none⟩ = some (.int .i64 M) := cell_of_row w4 g4 1 _ _ _ HR_g4.out
  have c_g4_2 : w4.cell? ⟨g4, 2, none⟩ = some (.int .i64 D) := cell_of_row w4 g4 2 _ _ _ HR_g4.out
  have c_g6_0 : w4.cell? ⟨g6, 0, none⟩ = some (.int .i64 (Y + 1)) := cell_of_row w4 g6 0 _ _ _ HR_g6.out
  have c_g6_1 : w4.cell? ⟨g6, 1, none⟩ = some (.int .i64 1) := cell_of_row w4 g6 1 _ _ _ HR_g6.out
  have c_g6_2 : w4.cell? ⟨g6, 2, none⟩ = some (.int .i64 1) := cell_of_row w4 g6 2 _ _ _ HR_g6.out
  have c_g8_0 : w4.cell? ⟨g8, 0, none⟩ = some (.int .i64 Y) := cell_of_row w4 g8 0 _ _ _ HR_g8.out
  have c_g8_1 : w4.cell? ⟨g8, 1, none⟩ = some (.int .i64 M) := cell_of_row w4 g8 1 _ _ _ HR_g8.out
  have c_g8_2 : w4.cell? ⟨g8, 2, none⟩ = some (.int .i64 D) := cell_of_row w4 g8 2 _ _ _ HR_g8.out
  have f_g8_0 : w4.frozen? ⟨g8, 0, none⟩ = false := frozen_of_row w4 g8 0 _ _ HR_g8.out
  have f_g8_1 : w4.frozen? ⟨g8, 1, none⟩ = false := frozen_of_row w4 g8 1 _ _ HR_g8.out
  have f_g8_2 : w4.frozen? ⟨g8, 2, none⟩ = false := frozen_of_row w4 g8 2 _ _ HR_g8.out
  go_upto_region 6 with fail
  obtain ⟨w5, hw⟩ : ∃ w5, w5 = w4.setCell ⟨g8, 2, none⟩ (.int .i64 (D + 1)) := ⟨_, rfl⟩
  have hrow : w5.heap[g8]? = some (.cells #[.int .i64 Y, .int .i64 M, .int .i64 (D + 1)] 23 (0, 0)) := by rw [hw]; exact heap_setCell_same _ _ _ _ _ _ HR_g8.out
  have hb : Below w.heap.size w w5 := by rw [hw]; exact ((((Kept.of_below (fun _ => False) HBP.out).setCell (fun h => absurd (show g8 < w.heap.size from h) (by have := HG_g8.out; omega)) _).below (Nat.le_refl _) (fun _ _ h => h)))
  have HTN : Hid (Tabs w5) := Lib.hid (HT0.out.below hb)
  have HBN : Hid (Below w.heap.size w w5) := Lib.hid hb
  have HRN : Hid (w5.heap[g4]? = some (.cells #[.int .i64 Y, .int .i64 M, .int .i64 D] 23 (0, 0))) := Lib.hid (by rw [hw]; exact (heap_setCell_other _ _ _ _ HNE_g4_g8.out).trans HR_g4.out)
  clear HR_g4
  have HR_g4 := HRN
  clear HRN
  have HRN : Hid (w5.heap[g6]? = some (.cells #[.int .i64 (Y + 1), .int .i64 1, .int .i64 1] 23 (0, 0))) := Lib.hid (by rw [hw]; exact (heap_setCell_other _ _ _ _ HNE_g6_g8.out).trans HR_g6.out)
  clear HR_g6
  have HR_g6 := HRN
  clear HRN
  clear HTP HBP HR_g8 c_g4_0 c_g4_1 c_g4_2 c_g6_0 c_g6_1 c_g6_2 c_g8_0 c_g8_1 c_g8_2 f_g8_0 f_g8_1 f_g8_2
  have HTP := HTN
  have HBP := HBN
  have HR_g8 := Lib.hid hrow
  rw [← hw]
  clear HTN HBN hw hrow hb
  have c_g4_0 : w5.cell? ⟨g4, 0, none⟩ = some (.int .i64 Y) := cell_of_row w5 g4 0 _ _ _ HR_g4.out
  have c_g4_1 : w5.cell? ⟨g4, 1, none⟩ = some (.int .i64 M) := cell_of_row w5 g4 1 _ _ _ HR_g4.out
  have c_g4_2 : w5.cell? ⟨g4, 2, none⟩ = some (.int .i64 D) := cell_of_row w5 g4 2 _ _ _ HR_g4.out
  have c_g6_0 : w5.cell? ⟨g6, 0, none⟩ = some (.int .i64 (Y + 1)) := cell_of_row w5 g6 0 _ _ _ HR_g6.out
  have c_g6_1 : w5.cell? ⟨g6, 1, none⟩ = some (.int .i64 1) := cell_of_row w5 g6 1 _ _ _ HR_g6.out
  have c_g6_2 : w5.cell? ⟨g6, 2, none⟩ = some (.int .i64 1) := cell_of_row w5 g6 2 _ _ _ HR_g6.out
  have c_g8_0 : w5.cell? ⟨g8, 0, none⟩ = some (.int .i64 Y) := cell_of_row w5 g8 0 _ _ _ HR_g8.out
  have c_g8_1 : w5.cell? ⟨g8, 1, none⟩ = some (.int .i64 M) := cell_of_row w5 g8 1 _ _ _ HR_g8.out
  have c_g8_2 : w5.cell? ⟨g8, 2, none⟩ = some (.int .i64 (D + 1)) := cell_of_row w5 g8 2 _ _ _ HR_g8.out
  have f_g8_0 : w5.frozen? ⟨g8, 0, none⟩ = false := frozen_of_row w5 g8 0 _ _ HR_g8.out
  have f_g8_1 : w5.frozen? ⟨g8, 1, none⟩ = false := frozen_of_row w5 g8 1 _ _ HR_g8.out
  have f_g8_2 : w5.frozen? ⟨g8, 2, none⟩ = false := frozen_of_row w5 g8 2 _ _ HR_g8.out
  have HLN : Hid (∀ n, Calls Tryd.prog 30 #[.int .i64 Y, .int .i64 M] (w5.drewN n) fun e w' => e = .returned (.int .i64 L) ∧ w' = w5.drewN n) := Lib.hid (fun n => by rw [HLL.out]; exact (length_any Y M _ (HTP.out.below (below_drewN (Below.refl _ _) _))).mono fun e w' h => ⟨h.1, h.2.symm⟩)
  go_quiet ((go_at_call 30; exact Calls.quiet_of_same (HLN.out _)))
  obtain ⟨w6, hw⟩ : ∃ w6, w6 = w5.drewN nq := ⟨_, rfl⟩
  have hb : Below w5.heap.size w5 w6 := by rw [hw]; exact below_drewN (Below.refl _ _) _
  have HRN := Lib.hid ((hb.block g4 (heap_lt HR_g4.out)).trans HR_g4.out)
  clear HR_g4
  have HR_g4 := HRN
  clear HRN
  have HRN := Lib.hid ((hb.block g6 (heap_lt HR_g6.out)).trans HR_g6.out)
  clear HR_g6
  have HR_g6 := HRN
  clear HRN
  have HRN := Lib.hid ((hb.block g8 (heap_lt HR_g8.out)).trans HR_g8.out)
  clear HR_g8
  have HR_g8 := HRN
  clear HRN
  have HTN := Tab_stepD HTP hb
  have HBN := Bel_stepD HBP hb
  clear HTP HBP
  have HTP := HTN
  have HBP := HBN
  clear HTN HBN
  rw [← hw]
  clear hw hb c_g4_0 c_g4_1 c_g4_2 c_g6_0 c_g6_1 c_g6_2 c_g8_0 c_g8_1 c_g8_2
  have c_g4_0 : w6.cell? ⟨g4, 0, none⟩ = some (.int .i64 Y) := cell_of_row w6 g4 0 _ _ _ HR_g4.out
  have c_g4_1 : w6.cell? ⟨g4, 1, none⟩ = some (.int .i64 M) := cell_of_row w6 g4 1 _ _ _ HR_g4.out
  have c_g4_2 : w6.cell? ⟨g4, 2, none⟩ = some (.int .i64 D) := cell_of_row w6 g4 2 _ _ _ HR_g4.out
  have c_g6_0 : w6.cell? ⟨g6, 0, none⟩ = some (.int .i64 (Y + 1)) := cell_of_row w6 g6 0 _ _ _ HR_g6.out
  have c_g6_1 : w6.cell? ⟨g6, 1, none⟩ = some (.int .i64 1) := cell_of_row w6 g6 1 _ _ _ HR_g6.out
  have c_g6_2 : w6.cell? ⟨g6, 2, none⟩ = some (.int .i64 1) := cell_of_row w6 g6 2 _ _ _ HR_g6.out
  have c_g8_0 : w6.cell? ⟨g8, 0, none⟩ = some (.int .i64 Y) := cell_of_row w6 g8 0 _ _ _ HR_g8.out
  have c_g8_1 : w6.cell? ⟨g8, 1, none⟩ = some (.int .i64 M) := cell_of_row w6 g8 1 _ _ _ HR_g8.out
  have c_g8_2 : w6.cell? ⟨g8, 2, none⟩ = some (.int .i64 (D + 1)) := cell_of_row w6 g8 2 _ _ _ HR_g8.out
  clear f_g8_0 f_g8_1 f_g8_2
  have f_g8_0 : w6.frozen? ⟨g8, 0, none⟩ = false := frozen_of_row w6 g8 0 _ _ HR_g8.out
  have f_g8_1 : w6.frozen? ⟨g8, 1, none⟩ = false := frozen_of_row w6 g8 1 _ _ HR_g8.out
  have f_g8_2 : w6.frozen? ⟨g8, 2, none⟩ = false := frozen_of_row w6 g8 2 _ _ HR_g8.out
  clear HLN
  go_upto_region 8 with fail
  obtain ⟨w7, hw⟩ : ∃ w7, w7 = w6.setCell ⟨g8, 2, none⟩ (.int .i64 1) := ⟨_, rfl⟩
  have hrow : w7.heap[g8]? = some (.cells #[.int .i64 Y, .int .i64 M, .int .i64 1] 23 (0, 0)) := by rw [hw]; exact heap_setCell_same _ _ _ _ _ _ HR_g8.out
  have hb : Below w.heap.size w w7 := by rw [hw]; exact ((((Kept.of_below (fun _ => False) HBP.out).setCell (fun h => absurd (show g8 < w.heap.size from h) (by have := HG_g8.out; omega)) _).below (Nat.le_refl _) (fun _ _ h => h)))
  have HTN : Hid (Tabs w7) := Lib.hid (HT0.out.below hb)
  have HBN : Hid (Below w.heap.size w w7) := Lib.hid hb
  have HRN : Hid (w7.heap[g4]? = some (.cells #[.int .i64 Y, .int .i64 M, .int .i64 D] 23 (0, 0))) := Lib.hid (by rw [hw]; exact (heap_setCell_other _ _ _ _ HNE_g4_g8.out).trans HR_g4.out)
  clear HR_g4
  have HR_g4 := HRN
  clear HRN
  have HRN : Hid (w7.heap[g6]? = some (.cells #[.int .i64 (Y + 1), .int .i64 1, .int .i64 1] 23 (0, 0))) := Lib.hid (by rw [hw]; exact (heap_setCell_other _ _ _ _ HNE_g6_g8.out).trans HR_g6.out)
  clear HR_g6
  have HR_g6 := HRN
  clear HRN
  clear HTP HBP HR_g8 c_g4_0 c_g4_1 c_g4_2 c_g6_0 c_g6_1 c_g6_2 c_g8_0 c_g8_1 c_g8_2 f_g8_0 f_g8_1 f_g8_2
  have HTP := HTN
  have HBP := HBN
  have HR_g8 := Lib.hid hrow
  rw [← hw]
  clear HTN HBN hw hrow hb
  have c_g4_0 : w7.cell? ⟨g4, 0, none⟩ = some (.int .i64 Y) := cell_of_row w7 g4 0 _ _ _ HR_g4.out
  have c_g4_1 : w7.cell? ⟨g4, 1, none⟩ = some (.int .i64 M) := cell_of_row w7 g4 1 _ _ _ HR_g4.out
  have c_g4_2 : w7.cell? ⟨g4, 2, none⟩ = some (.int .i64 D) := cell_of_row w7 g4 2 _ _ _ HR_g4.out
  have c_g6_0 : w7.cell? ⟨g6, 0, none⟩ = some (.int .i64 (Y + 1)) := cell_of_row w7 g6 0 _ _ _ HR_g6.out
  have c_g6_1 : w7.cell? ⟨g6, 1, none⟩ = some (.int .i64 1) := cell_of_row w7 g6 1 _ _ _ HR_g6.out
  have c_g6_2 : w7.cell? ⟨g6, 2, none⟩ = some (.int .i64 1) := cell_of_row w7 g6 2 _ _ _ HR_g6.out
  have c_g8_0 : w7.cell? ⟨g8, 0, none⟩ = some (.int .i64 Y) := cell_of_row w7 g8 0 _ _ _ HR_g8.out
  have c_g8_1 : w7.cell? ⟨g8, 1, none⟩ = some (.int .i64 M) := cell_of_row w7 g8 1 _ _ _ HR_g8.out
  have c_g8_2 : w7.cell? ⟨g8, 2, none⟩ = some (.int .i64 1) := cell_of_row w7 g8 2 _ _ _ HR_g8.out
  have f_g8_0 : w7.frozen? ⟨g8, 0, none⟩ = false := frozen_of_row w7 g8 0 _ _ HR_g8.out
  have f_g8_1 : w7.frozen? ⟨g8, 1, none⟩ = false := frozen_of_row w7 g8 1 _ _ HR_g8.out
  have f_g8_2 : w7.frozen? ⟨g8, 2, none⟩ = false := frozen_of_row w7 g8 2 _ _ HR_g8.out
  go_upto_region 9 with fail
  obtain ⟨w8, hw⟩ : ∃ w8, w8 = w7.setCell ⟨g8, 1, none⟩ (.int .i64 (M + 1)) := ⟨_, rfl⟩
  have hrow : w8.heap[g8]? = some (.cells #[.int .i64 Y, .int .i64 (M + 1), .int .i64 1] 23 (0, 0)) := by rw [hw]; exact heap_setCell_same _ _ _ _ _ _ HR_g8.out
  have hb : Below w.heap.size w w8 := by rw [hw]; exact ((((Kept.of_below (fun _ => False) HBP.out).setCell (fun h => absurd (show g8 < w.heap.size from h) (by have := HG_g8.out; omega)) _).below (Nat.le_refl _) (fun _ _ h => h)))
  have HTN : Hid (Tabs w8) := Lib.hid (HT0.out.below hb)
  have HBN : Hid (Below w.heap.size w w8) := Lib.hid hb
  have HRN : Hid (w8.heap[g4]? = some (.cells #[.int .i64 Y, .int .i64 M, .int .i64 D] 23 (0, 0))) := Lib.hid (by rw [hw]; exact (heap_setCell_other _ _ _ _ HNE_g4_g8.out).trans HR_g4.out)
  clear HR_g4
  have HR_g4 := HRN
  clear HRN
  have HRN : Hid (w8.heap[g6]? = some (.cells #[.int .i64 (Y + 1), .int .i64 1, .int .i64 1] 23 (0, 0))) := Lib.hid (by rw [hw]; exact (heap_setCell_other _ _ _ _ HNE_g6_g8.out).trans HR_g6.out)
  clear HR_g6
  have HR_g6 := HRN
  clear HRN
  clear HTP HBP HR_g8 c_g4_0 c_g4_1 c_g4_2 c_g6_0 c_g6_1 c_g6_2 c_g8_0 c_g8_1 c_g8_2 f_g8_0 f_g8_1 f_g8_2
  have HTP := HTN
  have HBP := HBN
  have HR_g8 := Lib.hid hrow
  rw [← hw]
  clear HTN HBN hw hrow hb
  have c_g4_0 : w8.cell? ⟨g4, 0, none⟩ = some (.int .i64 Y) := cell_of_row w8 g4 0 _ _ _ HR_g4.out
  have c_g4_1 : w8.cell? ⟨g4, 1, none⟩ = some (.int .i64 M) := cell_of_row w8 g4 1 _ _ _ HR_g4.out
  have c_g4_2 : w8.cell? ⟨g4, 2, none⟩ = some (.int .i64 D) := cell_of_row w8 g4 2 _ _ _ HR_g4.out
  have c_g6_0 : w8.cell? ⟨g6, 0, none⟩ = some (.int .i64 (Y + 1)) := cell_of_row w8 g6 0 _ _ _ HR_g6.out
  have c_g6_1 : w8.cell? ⟨g6, 1, none⟩ = some (.int .i64 1) := cell_of_row w8 g6 1 _ _ _ HR_g6.out
  have c_g6_2 : w8.cell? ⟨g6, 2, none⟩ = some (.int .i64 1) := cell_of_row w8 g6 2 _ _ _ HR_g6.out
  have c_g8_0 : w8.cell? ⟨g8, 0, none⟩ = some (.int .i64 Y) := cell_of_row w8 g8 0 _ _ _ HR_g8.out
  have c_g8_1 : w8.cell? ⟨g8, 1, none⟩ = some (.int .i64 (M + 1)) := cell_of_row w8 g8 1 _ _ _ HR_g8.out
  have c_g8_2 : w8.cell? ⟨g8, 2, none⟩ = some (.int .i64 1) := cell_of_row w8 g8 2 _ _ _ HR_g8.out
  have f_g8_0 : w8.frozen? ⟨g8, 0, none⟩ = false := frozen_of_row w8 g8 0 _ _ HR_g8.out
  have f_g8_1 : w8.frozen? ⟨g8, 1, none⟩ = false := frozen_of_row w8 g8 1 _ _ HR_g8.out
  have f_g8_2 : w8.frozen? ⟨g8, 2, none⟩ = false := frozen_of_row w8 g8 2 _ _ HR_g8.out
  go_upto_region 11 with fail
  obtain ⟨w9, hw⟩ : ∃ w9, w9 = w8.setCell ⟨g8, 1, none⟩ (.int .i64 1) := ⟨_, rfl⟩
  have hrow : w9.heap[g8]? = some (.cells #[.int .i64 Y, .int .i64 1, .int .i64 1] 23 (0, 0)) := by rw [hw]; exact heap_setCell_same _ _ _ _ _ _ HR_g8.out
  have hb : Below w.heap.size w w9 := by rw [hw]; exact ((((Kept.of_below (fun _ => False) HBP.out).setCell (fun h => absurd (show g8 < w.heap.size from h) (by have := HG_g8.out; omega)) _).below (Nat.le_refl _) (fun _ _ h => h)))
  have HTN : Hid (Tabs w9) := Lib.hid (HT0.out.below hb)
  have HBN : Hid (Below w.heap.size w w9) := Lib.hid hb
  have HRN : Hid (w9.heap[g4]? = some (.cells #[.int .i64 Y, .int .i64 M, .int .i64 D] 23 (0, 0))) := Lib.hid (by rw [hw]; exact (heap_setCell_other _ _ _ _ HNE_g4_g8.out).trans HR_g4.out)
  clear HR_g4
  have HR_g4 := HRN
  clear HRN
  have HRN : Hid (w9.heap[g6]? = some (.cells #[.int .i64 (Y + 1), .int .i64 1, .int .i64 1] 23 (0, 0))) := Lib.hid (by rw [hw]; exact (heap_setCell_other _ _ _ _ HNE_g6_g8.out).trans HR_g6.out)
  clear HR_g6
  have HR_g6 := HRN
  clear HRN
  clear HTP HBP HR_g8 c_g4_0 c_g4_1 c_g4_2 c_g6_0 c_g6_1 c_g6_2 c_g8_0 c_g8_1 c_g8_2 f_g8_0 f_g8_1 f_g8_2
  have HTP := HTN
  have HBP := HBN
  have HR_g8 := Lib.hid hrow
  rw [← hw]
  clear HTN HBN hw hrow hb
  have c_g4_0 : w9.cell? ⟨g4, 0, none⟩ = some (.int .i64 Y) := cell_of_row w9 g4 0 _ _ _ HR_g4.out
  have c_g4_1 : w9.cell? ⟨g4, 1, none⟩ = some (.int .i64 M) := cell_of_row w9 g4 1 _ _ _ HR_g4.out
  have c_g4_2 : w9.cell? ⟨g4, 2, none⟩ = some (.int .i64 D) := cell_of_row w9 g4 2 _ _ _ HR_g4.out
  have c_g6_0 : w9.cell? ⟨g6, 0, none⟩ = some (.int .i64 (Y + 1)) := cell_of_row w9 g6 0 _ _ _ HR_g6.out
  have c_g6_1 : w9.cell? ⟨g6, 1, none⟩ = some (.int .i64 1) := cell_of_row w9 g6 1 _ _ _ HR_g6.out
  have c_g6_2 : w9.cell? ⟨g6, 2, none⟩ = some (.int .i64 1) := cell_of_row w9 g6 2 _ _ _ HR_g6.out
  have c_g8_0 : w9.cell? ⟨g8, 0, none⟩ = some (.int .i64 Y) := cell_of_row w9 g8 0 _ _ _ HR_g8.out
  have c_g8_1 : w9.cell? ⟨g8, 1, none⟩ = some (.int .i64 1) := cell_of_row w9 g8 1 _ _ _ HR_g8.out
  have c_g8_2 : w9.cell? ⟨g8, 2, none⟩ = some (.int .i64 1) := cell_of_row w9 g8 2 _ _ _ HR_g8.out
  have f_g8_0 : w9.frozen? ⟨g8, 0, none⟩ = false := frozen_of_row w9 g8 0 _ _ HR_g8.out
  have f_g8_1 : w9.frozen? ⟨g8, 1, none⟩ = false := frozen_of_row w9 g8 1 _ _ HR_g8.out
  have f_g8_2 : w9.frozen? ⟨g8, 2, none⟩ = false := frozen_of_row w9 g8 2 _ _ HR_g8.out
  go_upto_region 12 with fail
  obtain ⟨w10, hw⟩ : ∃ w10, w10 = w9.setCell ⟨g8, 0, none⟩ (.int .i64 (Y + 1)) := ⟨_, rfl⟩
  have hrow : w10.heap[g8]? = some (.cells #[.int .i64 (Y + 1), .int .i64 1, .int .i64 1] 23 (0, 0)) := by rw [hw]; exact heap_setCell_same _ _ _ _ _ _ HR_g8.out
  have hb : Below w.heap.size w w10 := by rw [hw]; exact ((((Kept.of_below (fun _ => False) HBP.out).setCell (fun h => absurd (show g8 < w.heap.size from h) (by have := HG_g8.out; omega)) _).below (Nat.le_refl _) (fun _ _ h => h)))
  have HTN : Hid (Tabs w10) := Lib.hid (HT0.out.below hb)
  have HBN : Hid (Below w.heap.size w w10) := Lib.hid hb
  have HRN : Hid (w10.heap[g4]? = some (.cells #[.int .i64 Y, .int .i64 M, .int .i64 D] 23 (0, 0))) := Lib.hid (by rw [hw]; exact (heap_setCell_other _ _ _ _ HNE_g4_g8.out).trans HR_g4.out)
  clear HR_g4
  have HR_g4 := HRN
  clear HRN
  have HRN : Hid (w10.heap[g6]? = some (.cells #[.int .i64 (Y + 1), .int .i64 1, .int .i64 1] 23 (0, 0))) := Lib.hid (by rw [hw]; exact (heap_setCell_other _ _ _ _ HNE_g6_g8.out).trans HR_g6.out)
  clear HR_g6
  have HR_g6 := HRN
  clear HRN
  clear HTP HBP HR_g8 c_g4_0 c_g4_1 c_g4_2 c_g6_0 c_g6_1 c_g6_2 c_g8_0 c_g8_1 c_g8_2 f_g8_0 f_g8_1 f_g8_2
  have HTP := HTN
  have HBP := HBN
  have HR_g8 := Lib.hid hrow
  rw [← hw]
  clear HTN HBN hw hrow hb
  have c_g4_0 : w10.cell? ⟨g4, 0, none⟩ = some (.int .i64 Y) := cell_of_row w10 g4 0 _ _ _ HR_g4.out
  have c_g4_1 : w10.cell? ⟨g4, 1, none⟩ = some (.int .i64 M) := cell_of_row w10 g4 1 _ _ _ HR_g4.out
  have c_g4_2 : w10.cell? ⟨g4, 2, none⟩ = some (.int .i64 D) := cell_of_row w10 g4 2 _ _ _ HR_g4.out
  have c_g6_0 : w10.cell? ⟨g6, 0, none⟩ = some (.int .i64 (Y + 1)) := cell_of_row w10 g6 0 _ _ _ HR_g6.out
  have c_g6_1 : w10.cell? ⟨g6, 1, none⟩ = some (.int .i64 1) := cell_of_row w10 g6 1 _ _ _ HR_g6.out
  have c_g6_2 : w10.cell? ⟨g6, 2, none⟩ = some (.int .i64 1) := cell_of_row w10 g6 2 _ _ _ HR_g6.out
  have c_g8_0 : w10.cell? ⟨g8, 0, none⟩ = some (.int .i64 (Y + 1)) := cell_of_row w10 g8 0 _ _ _ HR_g8.out
  have c_g8_1 : w10.cell? ⟨g8, 1, none⟩ = some (.int .i64 1) := cell_of_row w10 g8 1 _ _ _ HR_g8.out
  have c_g8_2 : w10.cell? ⟨g8, 2, none⟩ = some (.int .i64 1) := cell_of_row w10 g8 2 _ _ _ HR_g8.out
  have f_g8_0 : w10.frozen? ⟨g8, 0, none⟩ = false := frozen_of_row w10 g8 0 _ _ HR_g8.out
  have f_g8_1 : w10.frozen? ⟨g8, 1, none⟩ = false := frozen_of_row w10 g8 1 _ _ HR_g8.out
  have f_g8_2 : w10.frozen? ⟨g8, 2, none⟩ = false := frozen_of_row w10 g8 2 _ _ HR_g8.out
  go_wp2_with (first
    | (have _t := HW1; go_at_call 26; refine (HW1.out _).mono ?_; rintro e w1 ⟨rfl, rfl⟩; clear _t HW1)
    | (go_at_call 26; refine (HW2.out _).mono ?_; rintro e w1 ⟨rfl, rfl⟩)
    | (go_at_call 19; refine (lives_any _ HTP.out).mono ?_; rintro e w1 ⟨rfl, hb⟩; have HTN := Tab_stepD HTP hb; have HBN := Bel_stepD HBP hb; clear HTP HBP; have HTP := HTN; have HBP := HBN; clear HTN HBN; clear hb))
  go_ret
  exact ⟨rfl, HBP.out⟩
theorem steps_law (n : Int) (w : World) (hT : Tabs w) (n1 : -9223372036854775808 ≤ n) (n2 : n ≤ 9223372036854775807) : Calls Tryd.prog 10 #[.int .i64 n] w fun e w' => e = .returned (.bool true) ∧ Below w.heap.size w w' := by
  have hab := aroundD_bd n 3652058 (by omega)
  have h1 : okN (aroundD n 3652058) := ⟨by omega, by omega⟩
  have h2 : okN (aroundD n 3652058 + 1) := ⟨by omega, by omega⟩
  have hv := valid_sm (of_ok _ h1.1 h1.2).1
  have hl := len_pos (yearN (aroundD n 3652058)) (monthN (aroundD n 3652058)) (by omega) (by omega)
  rcases of_succ h1 h2 with ⟨hc, k1, k2, k3⟩ | ⟨hc, hM, k1, k2, k3⟩ | ⟨hc, hM, k1, k2, k3⟩
  · exact steps_A n _ _ _ _ _ w hT n1 n2 rfl (by omega) rfl rfl rfl rfl (by omega) (by omega) (by omega) hl hc k1 k2 k3
  · exact steps_B1 n _ _ _ _ _ w hT n1 n2 rfl (by omega) rfl rfl rfl rfl (by omega) (by omega) (by omega) hl hc hM k1 k2 k3
  · exact steps_B2 n _ _ _ _ _ w hT n1 n2 rfl (by omega) rfl rfl rfl rfl (by omega) (by omega) (by omega) hl hc hM k1 k2 k3
end Go.Proofs.YtcoijmggfkjcjaaDoor
namespace Go.Proofs.YtcoijmggfkjcjaaDoor
open Go.RowKit
set_option linter.unusedSimpArgs false
set_option linter.unusedVariables false
attribute [local go_sem ↓] exec_storeDate
attribute [local go_sem] run_storeDate
theorem prs_print {y m d : Int} (h : validD y m d) : prsE (printL y m d) = 0 ∧ prsN (printL y m d) = dayN y m d := by
  have hs := valid_small h
  have a := p4_num y.toNat (by omega)
  have b := p2_num m.toNat (by omega)
  have c := p2_num d.toNat (by omega)
  have e1 : (printL y m d).take 4 = p4 y.toNat := rfl
  have e2 : ((printL y m d).drop 5).take 2 = p2 m.toNat := rfl
  have e3 : (printL y m d).drop 8 = p2 d.toNat := rfl
  have ey : (y.toNat : Int) = y := by omega
  have em : (m.toNat : Int) = m := by omega
  have ed : (d.toNat : Int) = d := by omega
  have hw : wellF (printL y m d) = true := by
    unfold wellF
    rw [e1, e2, e3, a.1, b.1, c.1]
    rfl
  unfold prsE prsN
  rw [if_pos hw, if_pos hw, e1, e2, e3, a.2, b.2, c.2, ey, em, ed]
  refine ⟨chk_ok h, ?_⟩
  unfold dayR
  rw [if_pos h]
theorem printB_list {n : Int} (h : okN n) : (printB n).data.toList = printL (yearN n) (monthN n) (mdayN n) := by unfold printB; rw [if_pos h]
theorem printB_size {n : Int} (h : okN n) : (printB n).size = 10 := by unfold printB; rw [if_pos h]; rfl
theorem parse_good {n : Int} (h : okN n) (u : World) (hu : Tabs u) : Calls Tryd.prog 36 #[.string (printB n)] u fun e w' => e = .returned (.tuple #[.int .i64 n, .int .i64 0]) ∧ Below u.heap.size u w' := by
  have h1 := parse_any (printB n) u (by rw [printB_size h]; decide) hu
  have ho := of_ok n h.1 h.2
  have hp := prs_print ho.1
  rw [printB_list h, hp.1, hp.2, ho.2] at h1
  exact h1
def Drd7 : List (Option Tmp) := [some 55, some 56, some 57, some 58, some 59, some 60, some 61, some 62, some 63, some 12, none]
def Lrd7 : List (List Nat) := [[], [0], [1], [2], [], [4], [5], [6], [3, 7], [], [9, 8]]
set_option maxRecDepth 100000 in
set_option maxHeartbeats 4000000 in
theorem round_law (n A B C : Int) (w : World) (hT : Tabs w) (n1 : -9223372036854775808 ≤ n) (n2 : n ≤ 9223372036854775807) (a1 : -9223372036854775808 ≤ A) (a2 : A ≤ 9223372036854775807) (b1 : -9223372036854775808 ≤ B) (b2 : B ≤ 9223372036854775807) (c1 : -9223372036854775808 ≤ C) (c2 : C ≤ 9223372036854775807) : Calls Tryd.prog 9 #[.int .i64 n, .agg #[.int .i64 A, .int .i64 B, .int .i64 C]] w fun e w' => e = .returned (.bool true) ∧ Below w.heap.size w w' := by
  have bA := aroundD_bd A 9999 (by omega)
  have bB := aroundD_bd B 12 (by omega)
  have HA1 : Hid (∀ u, Calls Tryd.prog 15 #[.int .i64 A, .int .i64 9999] u fun e w' => e = .returned (.int .i64 (aroundD A 9999)) ∧ w' = u) := Lib.hid (fun u => (aroundD_any A 9999 u a1 a2 (by omega) (by omega)).mono fun e w' h => ⟨h.1, h.2.symm⟩)
  have HA2 : Hid (∀ u, Calls Tryd.prog 15 #[.int .i64 B, .int .i64 12] u fun e w' => e = .returned (.int .i64 (aroundD B 12)) ∧ w' = u) := Lib.hid (fun u => (aroundD_any B 12 u b1 b2 (by omega) (by omega)).mono fun e w' h => ⟨h.1, h.2.symm⟩)
  obtain ⟨x, hx⟩ : ∃ x, x = aroundD A 9999 := ⟨_, rfl⟩
  obtain ⟨z, hz⟩ : ∃ z, z = aroundD B 12 := ⟨_, rfl⟩
  rw [← hx] at HA1 bA
  rw [← hz] at HA2 bB
  obtain ⟨y, hy⟩ : ∃ y, y = 1 + x := ⟨_, rfl⟩
  obtain ⟨m, hm⟩ : ∃ m, m = 1 + z := ⟨_, rfl⟩
  have i1 : IntKind.i64.wrap (1 + x) = y := by rw [hy]; exact i64_id _ (by omega) (by omega)
  have i2 : IntKind.i64.wrap (1 + z) = m := by rw [hm]; exact i64_id _ (by omega) (by omega)
  have hyb : 1 ≤ y ∧ y ≤ 9999 := by omega
  have hmb : 1 ≤ m ∧ m ≤ 12 := by omega
  have hL := len_pos y m hmb.1 hmb.2
  obtain ⟨L, hLL⟩ : ∃ L, L = lenD y m := ⟨_, rfl⟩
  rw [← hLL] at hL
  have bC := aroundD_bd C L (by omega)
  have HA3 : Hid (∀ u, Calls Tryd.prog 15 #[.int .i64 C, .int .i64 L] u fun e w' => e = .returned (.int .i64 (aroundD C L)) ∧ w' = u) := Lib.hid (fun u => (aroundD_any C L u c1 c2 (by omega) (by omega)).mono fun e w' h => ⟨h.1, h.2.symm⟩)
  obtain ⟨v, hv⟩ : ∃ v, v = aroundD C L := ⟨_, rfl⟩
  rw [← hv] at HA3 bC
  obtain ⟨d, hd⟩ : ∃ d, d = 1 + v := ⟨_, rfl⟩
  have i3 : IntKind.i64.wrap (1 + v) = d := by rw [hd]; exact i64_id _ (by omega) (by omega)
  have hmx : max 1 L = L := Int.max_eq_right (by omega)
  have hval : validD y m d := ⟨hyb.1, by omega, by omega, by rw [← hLL]; omega⟩
  have HLN : Hid (∀ u, Tabs u → Calls Tryd.prog 30 #[.int .i64 y, .int .i64 m] u fun e w' => e = .returned (.int .i64 L) ∧ w' = u) := Lib.hid (fun u hu => by rw [hLL]; exact (length_any y m u hu).mono fun e w' h => ⟨h.1, h.2.symm⟩)
  have hok := dayOfN_ok n
  have hoo := of_ok _ hok.1 hok.2
  have rk := day_rng hval
  have hok2 : okN (dayN y m d) := rk
  have hod := of_day hval
  obtain ⟨a, ha⟩ : ∃ a, a = dayOfN n := ⟨_, rfl⟩
  rw [← ha] at hok hoo
  obtain ⟨k, hk⟩ : ∃ k, k = dayN y m d := ⟨_, rfl⟩
  have HDH : Hid (∀ u, Calls Tryd.prog 21 #[.int .i64 n] u fun e w' => e = .returned (.int .i64 a) ∧ u = w') := Lib.hid (fun u => by rw [ha]; exact dayHelp_any n u n1 n2)
  obtain ⟨Ya, hYa⟩ : ∃ x, x = yearN a := ⟨_, rfl⟩
  obtain ⟨Ma, hMa⟩ : ∃ x, x = monthN a := ⟨_, rfl⟩
  obtain ⟨Da, hDa⟩ : ∃ x, x = mdayN a := ⟨_, rfl⟩
  have HO1 : Hid (∀ u, Tabs u → Calls Tryd.prog 22 #[.int .i64 a] u fun e w' => e = .returned (.tuple #[.agg #[.int .i64 Ya, .int .i64 Ma, .int .i64 Da], .int .i64 0]) ∧ Below u.heap.size u w') := Lib.hid (fun u hu => by rw [hYa, hMa, hDa]; exact of_good hok u hu)
  have HD1 : Hid (∀ u, Tabs u → Calls Tryd.prog 16 #[.agg #[.int .i64 Ya, .int .i64 Ma, .int .i64 Da]] u fun e w' => e = .returned (.tuple #[.int .i64 a, .int .i64 0]) ∧ Below u.heap.size u w') := Lib.hid (fun u hu => by
    have h := day_good hoo.1 u hu
    rw [hoo.2, ← hYa, ← hMa, ← hDa] at h
    exact h)
  obtain ⟨ps, hps⟩ : ∃ ps, ps = printB a := ⟨_, rfl⟩
  have HP1 : Hid (∀ u, Tabs u → Calls Tryd.prog 24 #[.int .i64 a] u fun e w' => e = .returned (.string ps) ∧ Below u.heap.size u w') := Lib.hid (fun u hu => by rw [hps]; exact print_any a u hu)
  have HP2 : Hid (∀ u, Tabs u → Calls Tryd.prog 36 #[.string ps] u fun e w' => e = .returned (.tuple #[.int .i64 a, .int .i64 0]) ∧ Below u.heap.size u w') := Lib.hid (fun u hu => by rw [hps]; exact parse_good hok u hu)
  have HK : Hid (∀ u, Tabs u → Calls Tryd.prog 16 #[.agg #[.int .i64 y, .int .i64 m, .int .i64 d]] u fun e w' => e = .returned (.tuple #[.int .i64 k, .int .i64 0]) ∧ Below u.heap.size u w') := Lib.hid (fun u hu => by rw [hk]; exact day_good hval u hu)
  have HO2 : Hid (∀ u, Tabs u → Calls Tryd.prog 22 #[.int .i64 k] u fun e w' => e = .returned (.tuple #[.agg #[.int .i64 y, .int .i64 m, .int .i64 d], .int .i64 0]) ∧ Below u.heap.size u w') := Lib.hid (fun u hu => by
    have h := of_good hok2 u hu
    rw [hod.1, hod.2.1, hod.2.2, ← hk] at h
    exact h)
  rw [← hk] at rk
  have HTP := Lib.hid hT
  have HT0 := HTP
  have HBP : Hid (Below w.heap.size w w) := Lib.hid (Below.refl _ _)
  clear hT hx hz hy hm hLL hv hd bA bB bC hval hok hoo hok2 hod ha hk hYa hMa hDa hps
  go_enter Tryd.func9, Tryd.ntmps9
  go_upto_region 1 with fail
  obtain ⟨w0, hw⟩ : ∃ w0, w0 = w.alloc (.cells #[.int .i64 A, .int .i64 B, .int .i64 C] 23) := ⟨_, rfl⟩
  obtain ⟨g1, hg⟩ : ∃ g1, g1 = w.heap.size := ⟨_, rfl⟩
  have hrow : w0.heap[g1]? = some (.cells #[.int .i64 A, .int .i64 B, .int .i64 C] 23 (0, 0)) := by rw [hw, hg]; exact heap_new0
  have hb : Below w.heap.size w w0 := by rw [hw]; exact (Below.refl _ _).alloc (Nat.le_refl _) _
  have HR_g1 := Lib.hid hrow
  have HTN := Tab_stepD HTP hb
  have HBN := Bel_stepD HBP hb
  clear HTP HBP
  have HTP := HTN
  have HBP := HBN
  clear HTN HBN
  rw [← hw]
  rw [← hg]
  clear hw hg hrow hb
  have c_g1_0 : w0.cell? ⟨g1, 0, none⟩ = some (.int .i64 A) := cell_of_row w0 g1 0 _ _ _ HR_g1.out
  have c_g1_1 : w0.cell? ⟨g1, 1, none⟩ = some (.int .i64 B) := cell_of_row w0 g1 1 _ _ _ HR_g1.out
  have c_g1_2 : w0.cell? ⟨g1, 2, none⟩ = some (.int .i64 C) := cell_of_row w0 g1 2 _ _ _ HR_g1.out
  go_upto_region 2 with (go_at_call 21; refine (HDH.out _).mono ?_; rintro e w1 ⟨rfl, rfl⟩)
  go_upto_region 3 with (go_at_call 22; refine (HO1.out _ HTP.out).mono ?_; rintro e v1 ⟨rfl, hb⟩; have HTN := Tab_stepD HTP hb; have HBN := Bel_stepD HBP hb; clear HTP HBP; have HTP := HTN; have HBP := HBN; clear HTN HBN; have HRN := Lib.hid ((hb.block g1 (heap_lt HR_g1.out)).trans HR_g1.out); clear HR_g1; have HR_g1 := HRN; clear HRN; clear c_g1_0 c_g1_1 c_g1_2; have c_g1_0 : v1.cell? ⟨g1, 0, none⟩ = some (.int .i64 A) := cell_of_row v1 g1 0 _ _ _ HR_g1.out; have c_g1_1 : v1.cell? ⟨g1, 1, none⟩ = some (.int .i64 B) := cell_of_row v1 g1 1 _ _ _ HR_g1.out; have c_g1_2 : v1.cell? ⟨g1, 2, none⟩ = some (.int .i64 C) := cell_of_row v1 g1 2 _ _ _ HR_g1.out; clear hb; have pd : DB (v1.alloc (.cells #[.int .i64 0, .int .i64 0, .int .i64 0] 23)) v1.heap.size := ⟨0, 0, 0, heap_new0⟩)
  obtain ⟨w2, hw⟩ : ∃ w2, w2 = (v1.alloc (.cells #[.int .i64 0, .int .i64 0, .int .i64 0] 23)).setRow v1.heap.size #[.int .i64 Ya, .int .i64 Ma, .int .i64 Da] := ⟨_, rfl⟩
  obtain ⟨g6, hg⟩ : ∃ g6, g6 = v1.heap.size := ⟨_, rfl⟩
  have hrow : w2.heap[g6]? = some (.cells #[.int .i64 Ya, .int .i64 Ma, .int .i64 Da] 23 (0, 0)) := by rw [hw, hg]; exact setRow_heap _ _ _ _ _ _ heap_new0
  have hb : Below v1.heap.size v1 w2 := by rw [hw]; exact (((Kept.refl (fun _ => False) v1).alloc _).setRow (fun h => by omega) _).below (Nat.le_refl _) (fun _ _ h => h)
  have HG_g6 : Hid (w.heap.size ≤ g6) := Lib.hid (by rw [hg]; exact HBP.out.size)
  have HNE_g1_g6 : Hid (g1 ≠ g6) := Lib.hid (by have := heap_lt HR_g1.out; omega)
  have HRN := Lib.hid ((hb.block g1 (heap_lt HR_g1.out)).trans HR_g1.out)
  clear HR_g1
  have HR_g1 := HRN
  clear HRN
  have HR_g6 := Lib.hid hrow
  have HTN := Tab_stepD HTP hb
  have HBN := Bel_stepD HBP hb
  clear HTP HBP
  have HTP := HTN
  have HBP := HBN
  clear HTN HBN
  rw [← hw]
  rw [← hg]
  clear hw hg hrow hb pd c_g1_0 c_g1_1 c_g1_2
  have c_g1_0 : w2.cell? ⟨g1, 0, none⟩ = some (.int .i64 A) := cell_of_row w2 g1 0 _ _ _ HR_g1.out
  have c_g1_1 : w2.cell? ⟨g1, 1, none⟩ = some (.int .i64 B) := cell_of_row w2 g1 1 _ _ _ HR_g1.out
  have c_g1_2 : w2.cell? ⟨g1, 2, none⟩ = some (.int .i64 C) := cell_of_row w2 g1 2 _ _ _ HR_g1.out
  have c_g6_0 : w2.cell? ⟨g6, 0, none⟩ = some (.int .i64 Ya) := cell_of_row w2 g6 0 _ _ _ HR_g6.out
  have c_g6_1 : w2.cell? ⟨g6, 1, none⟩ = some (.int .i64 Ma) := cell_of_row w2 g6 1 _ _ _ HR_g6.out
  have c_g6_2 : w2.cell? ⟨g6, 2, none⟩ = some (.int .i64 Da) := cell_of_row w2 g6 2 _ _ _ HR_g6.out
  have f_g6_0 : w2.frozen? ⟨g6, 0, none⟩ = false := frozen_of_row w2 g6 0 _ _ HR_g6.out
  have f_g6_1 : w2.frozen? ⟨g6, 1, none⟩ = false := frozen_of_row w2 g6 1 _ _ HR_g6.out
  have f_g6_2 : w2.frozen? ⟨g6, 2, none⟩ = false := frozen_of_row w2 g6 2 _ _ HR_g6.out
  go_upto_region 4 with (go_at_call 16; refine (HD1.out _ HTP.out).mono ?_; rintro e v2 ⟨rfl, hb⟩; have HTN := Tab_stepD HTP hb; have HBN := Bel_stepD HBP hb; clear HTP HBP; have HTP := HTN; have HBP := HBN; clear HTN HBN; have HRN := Lib.hid ((hb.block g1 (heap_lt HR_g1.out)).trans HR_g1.out); clear HR_g1; have HR_g1 := HRN; clear HRN; have HRN := Lib.hid ((hb.block g6 (heap_lt HR_g6.out)).trans HR_g6.out); clear HR_g6; have HR_g6 := HRN; clear HRN; clear c_g1_0 c_g1_1 c_g1_2 c_g6_0 c_g6_1 c_g6_2; have c_g1_0 : v2.cell? ⟨g1, 0, none⟩ = some (.int .i64 A) := cell_of_row v2 g1 0 _ _ _ HR_g1.out; have c_g1_1 : v2.cell? ⟨g1, 1, none⟩ = some (.int .i64 B) := cell_of_row v2 g1 1 _ _ _ HR_g1.out; have c_g1_2 : v2.cell? ⟨g1, 2, none⟩ = some (.int .i64 C) := cell_of_row v2 g1 2 _ _ _ HR_g1.out; have c_g6_0 : v2.cell? ⟨g6, 0, none⟩ = some (.int .i64 Ya) := cell_of_row v2 g6 0 _ _ _ HR_g6.out; have c_g6_1 : v2.cell? ⟨g6, 1, none⟩ = some (.int .i64 Ma) := cell_of_row v2 g6 1 _ _ _ HR_g6.out; have c_g6_2 : v2.cell? ⟨g6, 2, none⟩ = some (.int .i64 Da) := cell_of_row v2 g6 2 _ _ _ HR_g6.out; clear hb)
  go_upto_region 7 with (first
    | (go_at_call 24; refine (HP1.out _ HTP.out).mono ?_; rintro e v3 ⟨rfl, hb⟩; have HTN := Tab_stepD HTP hb; have HBN := Bel_stepD HBP hb; clear HTP HBP; have HTP := HTN; have HBP := HBN; clear HTN HBN; have HRN := Lib.hid ((hb.block g1 (heap_lt HR_g1.out)).trans HR_g1.out); clear HR_g1; have HR_g1 := HRN; clear HRN; have HRN := Lib.hid ((hb.block g6 (heap_lt HR_g6.out)).trans HR_g6.out); clear HR_g6; have HR_g6 := HRN; clear HRN; clear c_g1_0 c_g1_1 c_g1_2 c_g6_0 c_g6_1 c_g6_2; have c_g1_0 : v3.cell? ⟨g1, 0, none⟩ = some (.int .i64 A) := cell_of_row v3 g1 0 _ _ _ HR_g1.out; have c_g1_1 : v3.cell? ⟨g1, 1, none⟩ = some (.int .i64 B) := cell_of_row v3 g1 1 _ _ _ HR_g1.out; have c_g1_2 : v3.cell? ⟨g1, 2, none⟩ = some (.int .i64 C) := cell_of_row v3 g1 2 _ _ _ HR_g1.out; have c_g6_0 : v3.cell? ⟨g6, 0, none⟩ = some (.int .i64 Ya) := cell_of_row v3 g6 0 _ _ _ HR_g6.out; have c_g6_1 : v3.cell? ⟨g6, 1, none⟩ = some (.int .i64 Ma) := cell_of_row v3 g6 1 _ _ _ HR_g6.out; have c_g6_2 : v3.cell? ⟨g6, 2, none⟩ = some (.int .i64 Da) := cell_of_row v3 g6 2 _ _ _ HR_g6.out; clear hb)
    | (go_at_call 36; refine (HP2.out _ HTP.out).mono ?_; rintro e w1 ⟨rfl, hb⟩; have HTN := Tab_stepD HTP hb; have HBN := Bel_stepD HBP hb; clear HTP HBP; have HTP := HTN; have HBP := HBN; clear HTN HBN; have HRN := Lib.hid ((hb.block g1 (heap_lt HR_g1.out)).trans HR_g1.out); clear HR_g1; have HR_g1 := HRN; clear HRN; have HRN := Lib.hid ((hb.block g6 (heap_lt HR_g6.out)).trans HR_g6.out); clear HR_g6; have HR_g6 := HRN; clear HRN; clear c_g1_0 c_g1_1 c_g1_2 c_g6_0 c_g6_1 c_g6_2; have c_g1_0 : w1.cell? ⟨g1, 0, none⟩ = some (.int .i64 A) := cell_of_row w1 g1 0 _ _ _ HR_g1.out; have c_g1_1 : w1.cell? ⟨g1, 1, none⟩ = some (.int .i64 B) := cell_of_row w1 g1 1 _ _ _ HR_g1.out; have c_g1_2 : w1.cell? ⟨g1, 2, none⟩ = some (.int .i64 C) := cell_of_row w1 g1 2 _ _ _ HR_g1.out; have c_g6_0 : w1.cell? ⟨g6, 0, none⟩ = some (.int .i64 Ya) := cell_of_row w1 g6 0 _ _ _ HR_g6.out; have c_g6_1 : w1.cell? ⟨g6, 1, none⟩ = some (.int .i64 Ma) := cell_of_row w1 g6 1 _ _ _ HR_g6.out; have c_g6_2 : w1.cell? ⟨g6, 2, none⟩ = some (.int .i64 Da) := cell_of_row w1 g6 2 _ _ _ HR_g6.out; clear hb))
  clear c_g6_0 c_g6_1 c_g6_2 f_g6_0 f_g6_1 f_g6_2 HR_g6 HG_g6 HNE_g1_g6 HO1 HD1 HP1 HP2 HDH
  have CR0 := Lib.hid c_g1_0
  have CR1 := Lib.hid c_g1_1
  have HGL := Lib.hid (heap_lt HR_g1.out)
  have I1 := Lib.hid i1
  have I2 := Lib.hid i2
  clear c_g1_0 c_g1_1 c_g1_2
  refine Roll.region_f 10 107 Drd7 Lrd7 [(3, .pointer (some ⟨g1, 0, none⟩))] (fun p => Below w1.heap.size w1 p) (fun p p2 => Below p.heap.size p p2) [fun vv p => vv = .pointer (some ⟨g1, 0, none⟩), fun vv p => vv = .int .i64 A, fun vv p => vv = .int .i64 x, fun vv p => vv = .int .i64 y, fun vv p => vv = .pointer (some ⟨g1, 1, none⟩), fun vv p => vv = .int .i64 B, fun vv p => vv = .int .i64 z, fun vv p => vv = .int .i64 m, fun vv p => vv = .agg #[.int .i64 y, .int .i64 m, .int .i64 0], fun vv p => ∃ r, vv = .pointer (some ⟨r, 0, none⟩) ∧ w1.heap.size ≤ r ∧ p.heap[r]? = some (.cells #[.int .i64 0, .int .i64 0, .int .i64 0] 23 (0, 0))] (by kernel_rfl) (by kernel_rfl) rfl ⟨rfl, trivial⟩ ((Below.refl _ _).drew) ?_ ?_ ?_
  · exact ⟨fun _ _ _ _ h => h, fun _ _ _ _ h => h, fun _ _ _ _ h => h, fun _ _ _ _ h => h, fun _ _ _ _ h => h, fun _ _ _ _ h => h, fun _ _ _ _ h => h, fun _ _ _ _ h => h, fun _ _ _ _ h => h, fun _ _ _ hs h => by obtain ⟨r, e1, e2, e3⟩ := h; exact ⟨r, e1, e2, (Kept.of_below (fun _ => False) hs).heap e3 (fun h => h)⟩, trivial⟩
  · intro b0 hN hlv
    refine ⟨?_, ?_, ?_, ?_, ?_, ?_, ?_, ?_, ?_, ?_, trivial⟩
    · intro vs p hI hp
      have e3 : (Roll.putD Drd7 vs [] b0).eval (.tmp 3) = .pointer (some ⟨g1, 0, none⟩) := (Roll.eval_old rfl).trans (hlv.at 0 (3, .pointer (some ⟨g1, 0, none⟩)) rfl)
      clear hp hlv hN
      unfold Roll.Goes
      simp only [Lrd7, List.getD_cons_zero, List.getD_cons_succ]
      generalize Roll.putD Drd7 vs [] b0 = a1 at *
      refine Roll.goes_val (w' := p) (.pointer (some ⟨g1, 0, none⟩)) rfl ?_ ⟨hI, Below.refl _ _, rfl⟩
      (have ec : ∀ x, a1.eval (.const x) = x := fun _ => rfl); (have ef : ∀ x, a1.eval (.func x) = .func (.func x) #[] #[] := fun _ => rfl); generalize a1.eval = ρ at *
      skip
      go_simp <;> (intros; first | (exfalso; omega) | rfl | omega)
    · intro vs p hI hp
      have h0 : (vs 0) = .pointer (some ⟨g1, 0, none⟩) := hp 0 (by simp [Lrd7])
      have e55 : (Roll.putD Drd7 vs [0] b0).eval (.tmp 55) = .pointer (some ⟨g1, 0, none⟩) := (Roll.eval_new 0 rfl (by decide) (by decide) (by omega)).trans h0
      clear hp hlv hN
      unfold Roll.Goes
      simp only [Lrd7, List.getD_cons_zero, List.getD_cons_succ]
      generalize Roll.putD Drd7 vs [0] b0 = a1 at *
      have cf : p.cell? ⟨g1, 0, none⟩ = some (.int .i64 A) := (hI.cell (p := ⟨g1, 0, none⟩) HGL.out).trans CR0.out
      refine Roll.goes_val (w' := p) (.int .i64 A) rfl ?_ ⟨hI, Below.refl _ _, rfl⟩
      (have ec : ∀ x, a1.eval (.const x) = x := fun _ => rfl); (have ef : ∀ x, a1.eval (.func x) = .func (.func x) #[] #[] := fun _ => rfl); generalize a1.eval = ρ at *
      clear h0
      go_simp <;> (intros; first | (exfalso; omega) | rfl | omega)
    · intro vs p hI hp
      have h1 : (vs 1) = .int .i64 A := hp 1 (by simp [Lrd7])
      have e56 : (Roll.putD Drd7 vs [1] b0).eval (.tmp 56) = .int .i64 A := (Roll.eval_new 1 rfl (by decide) (by decide) (by omega)).trans h1
      clear hp hlv hN
      unfold Roll.Goes
      simp only [Lrd7, List.getD_cons_zero, List.getD_cons_succ]
      generalize Roll.putD Drd7 vs [1] b0 = a1 at *
      refine Roll.goes_call 15 #[.int .i64 A, .int .i64 9999] p rfl (by have ec : ∀ x, a1.eval (.const x) = x := fun _ => rfl; have ef : ∀ x, a1.eval (.func x) = .func (.func x) #[] #[] := fun _ => rfl; generalize a1.eval = ρ at *; go_simp) ?_
      refine (HA1.out p).mono ?_
      rintro q p2 ⟨rfl, rfl⟩
      exact ⟨_, rfl, hI, Below.refl _ _, rfl⟩
    · intro vs p hI hp
      have h2 : (vs 2) = .int .i64 x := hp 2 (by simp [Lrd7])
      have e57 : (Roll.putD Drd7 vs [2] b0).eval (.tmp 57) = .int .i64 x := (Roll.eval_new 2 rfl (by decide) (by decide) (by omega)).trans h2
      clear hp hlv hN
      unfold Roll.Goes
      simp only [Lrd7, List.getD_cons_zero, List.getD_cons_succ]
      generalize Roll.putD Drd7 vs [2] b0 = a1 at *
      have f0 := I1.out
      refine Roll.goes_val (w' := p) (.int .i64 y) rfl ?_ ⟨hI, Below.refl _ _, rfl⟩
      (have ec : ∀ x, a1.eval (.const x) = x := fun _ => rfl); (have ef : ∀ x, a1.eval (.func x) = .func (.func x) #[] #[] := fun _ => rfl); generalize a1.eval = ρ at *
      clear h2
      go_simp <;> (intros; first | (exfalso; omega) | rfl | omega)
    · intro vs p hI hp
      have e3 : (Roll.putD Drd7 vs [] b0).eval (.tmp 3) = .pointer (some ⟨g1, 0, none⟩) := (Roll.eval_old rfl).trans (hlv.at 0 (3, .pointer (some ⟨g1, 0, none⟩)) rfl)
      clear hp hlv hN
      unfold Roll.Goes
      simp only [Lrd7, List.getD_cons_zero, List.getD_cons_succ]
      generalize Roll.putD Drd7 vs [] b0 = a1 at *
      refine Roll.goes_val (w' := p) (.pointer (some ⟨g1, 1, none⟩)) rfl ?_ ⟨hI, Below.refl _ _, rfl⟩
      (have ec : ∀ x, a1.eval (.const x) = x := fun _ => rfl); (have ef : ∀ x, a1.eval (.func x) = .func (.func x) #[] #[] := fun _ => rfl); generalize a1.eval = ρ at *
      skip
      go_simp <;> (intros; first | (exfalso; omega) | rfl | omega)
    · intro vs p hI hp
      have h4 : (vs 4) = .pointer (some ⟨g1, 1, none⟩) := hp 4 (by simp [Lrd7])
      have e59 : (Roll.putD Drd7 vs [4] b0).eval (.tmp 59) = .pointer (some ⟨g1, 1, none⟩) := (Roll.eval_new 4 rfl (by decide) (by decide) (by omega)).trans h4
      clear hp hlv hN
      unfold Roll.Goes
      simp only [Lrd7, List.getD_cons_zero, List.getD_cons_succ]
      generalize Roll.putD Drd7 vs [4] b0 = a1 at *
      have cf : p.cell? ⟨g1, 1, none⟩ = some (.int .i64 B) := (hI.cell (p := ⟨g1, 1, none⟩) HGL.out).trans CR1.out
      refine Roll.goes_val (w' := p) (.int .i64 B) rfl ?_ ⟨hI, Below.refl _ _, rfl⟩
      (have ec : ∀ x, a1.eval (.const x) = x := fun _ => rfl); (have ef : ∀ x, a1.eval (.func x) = .func (.func x) #[] #[] := fun _ => rfl); generalize a1.eval = ρ at *
      clear h4
      go_simp <;> (intros; first | (exfalso; omega) | rfl | omega)
    · intro vs p hI hp
      have h5 : (vs 5) = .int .i64 B := hp 5 (by simp [Lrd7])
      have e60 : (Roll.putD Drd7 vs [5] b0).eval (.tmp 60) = .int .i64 B := (Roll.eval_new 5 rfl (by decide) (by decide) (by omega)).trans h5
      clear hp hlv hN
      unfold Roll.Goes
      simp only [Lrd7, List.getD_cons_zero, List.getD_cons_succ]
      generalize Roll.putD Drd7 vs [5] b0 = a1 at *
      refine Roll.goes_call 15 #[.int .i64 B, .int .i64 12] p rfl (by have ec : ∀ x, a1.eval (.const x) = x := fun _ => rfl; have ef : ∀ x, a1.eval (.func x) = .func (.func x) #[] #[] := fun _ => rfl; generalize a1.eval = ρ at *; go_simp) ?_
      refine (HA2.out p).mono ?_
      rintro q p2 ⟨rfl, rfl⟩
      exact ⟨_, rfl, hI, Below.refl _ _, rfl⟩
    · intro vs p hI hp
      have h6 : (vs 6) = .int .i64 z := hp 6 (by simp [Lrd7])
      have e61 : (Roll.putD Drd7 vs [6] b0).eval (.tmp 61) = .int .i64 z := (Roll.eval_new 6 rfl (by decide) (by decide) (by omega)).trans h6
      clear hp hlv hN
      unfold Roll.Goes
      simp only [Lrd7, List.getD_cons_zero, List.getD_cons_succ]
      generalize Roll.putD Drd7 vs [6] b0 = a1 at *
      have f0 := I2.out
      refine Roll.goes_val (w' := p) (.int .i64 m) rfl ?_ ⟨hI, Below.refl _ _, rfl⟩
      (have ec : ∀ x, a1.eval (.const x) = x := fun _ => rfl); (have ef : ∀ x, a1.eval (.func x) = .func (.func x) #[] #[] := fun _ => rfl); generalize a1.eval = ρ at *
      clear h6
      go_simp <;> (intros; first | (exfalso; omega) | rfl | omega)
    · intro vs p hI hp
      have h3 : (vs 3) = .int .i64 y := hp 3 (by simp [Lrd7])
      have h7 : (vs 7) = .int .i64 m := hp 7 (by simp [Lrd7])
      have e58 : (Roll.putD Drd7 vs [3, 7] b0).eval (.tmp 58) = .int .i64 y := (Roll.eval_new 3 rfl (by decide) (by decide) (by omega)).trans h3
      have e62 : (Roll.putD Drd7 vs [3, 7] b0).eval (.tmp 62) = .int .i64 m := (Roll.eval_new 7 rfl (by decide) (by decide) (by omega)).trans h7
      clear hp hlv hN
      unfold Roll.Goes
      simp only [Lrd7, List.getD_cons_zero, List.getD_cons_succ]
      generalize Roll.putD Drd7 vs [3, 7] b0 = a1 at *
      refine Roll.goes_val (w' := p) (.agg #[.int .i64 y, .int .i64 m, .int .i64 0]) rfl ?_ ⟨hI, Below.refl _ _, rfl⟩
      (have ec : ∀ x, a1.eval (.const x) = x := fun _ => rfl); (have ef : ∀ x, a1.eval (.func x) = .func (.func x) #[] #[] := fun _ => rfl); generalize a1.eval = ρ at *
      clear h3 h7
      go_simp <;> (intros; first | (exfalso; omega) | rfl | omega)
    · intro vs p hI hp
      clear hp hlv hN
      unfold Roll.Goes
      simp only [Lrd7, List.getD_cons_zero, List.getD_cons_succ]
      generalize Roll.putD Drd7 vs [] b0 = a1 at *
      have hal : Below p.heap.size p (p.alloc (.cells #[.int .i64 0, .int .i64 0, .int .i64 0] 23)) := (Below.refl _ _).alloc (Nat.le_refl _) _
      refine Roll.goes_val (w' := p.alloc (.cells #[.int .i64 0, .int .i64 0, .int .i64 0] 23)) (.pointer (some ⟨p.heap.size, 0, none⟩)) rfl (by have ec : ∀ x, a1.eval (.const x) = x := fun _ => rfl; have ef : ∀ x, a1.eval (.func x) = .func (.func x) #[] #[] := fun _ => rfl; have hbs := run_allocD; generalize a1.eval = ρ at *; go_simp <;> (intros; first | (exfalso; omega) | rfl)) ⟨hI.trans (hal.mono hI.size), hal, p.heap.size, rfl, hI.size, heap_new0⟩
  · intro vs p hI hR
    have h0 : (vs 0) = .pointer (some ⟨g1, 0, none⟩) := hR 0 (by omega)
    have h1 : (vs 1) = .int .i64 A := hR 1 (by omega)
    have h2 : (vs 2) = .int .i64 x := hR 2 (by omega)
    have h3 : (vs 3) = .int .i64 y := hR 3 (by omega)
    have h4 : (vs 4) = .pointer (some ⟨g1, 1, none⟩) := hR 4 (by omega)
    have h5 : (vs 5) = .int .i64 B := hR 5 (by omega)
    have h6 : (vs 6) = .int .i64 z := hR 6 (by omega)
    have h7 : (vs 7) = .int .i64 m := hR 7 (by omega)
    have h8 : (vs 8) = .agg #[.int .i64 y, .int .i64 m, .int .i64 0] := hR 8 (by omega)
    have h9 : ∃ r, (vs 9) = .pointer (some ⟨r, 0, none⟩) ∧ w1.heap.size ≤ r ∧ p.heap[r]? = some (.cells #[.int .i64 0, .int .i64 0, .int .i64 0] 23 (0, 0)) := hR 9 (by omega)
    clear hR
    simp only [List.range_succ, List.range_zero, List.nil_append, List.cons_append, Roll.putD, Act.put, List.getD_cons_zero, List.getD_cons_succ, List.setIfInBounds_toArray, List.set_cons_zero, List.set_cons_succ, List.drop_succ_cons, List.drop_zero, Drd7]
    simp only [h0, h1, h2, h3, h4, h5, h6, h7, h8]
    clear h0 h1 h2 h3 h4 h5 h6 h7 h8
    generalize vs 9 = v9 at *
    obtain ⟨g3, rfl, hr1, hh1⟩ := h9
    have HI := Lib.hid hI
    have HR1 := Lib.hid hr1
    have HH1 := Lib.hid hh1
    have pd : DB p g3 := ⟨0, 0, 0, hh1⟩
    clear hI hr1 hh1
    go_upto_region 8 with fail
    obtain ⟨w3, hw⟩ : ∃ w3, w3 = p.setRow g3 #[.int .i64 y, .int .i64 m, .int .i64 0] := ⟨_, rfl⟩
    have hrow : w3.heap[g3]? = some (.cells #[.int .i64 y, .int .i64 m, .int .i64 0] 23 (0, 0)) := by rw [hw]; exact setRow_heap _ _ _ _ _ _ HH1.out
    have hb : Below w1.heap.size w1 w3 := by rw [hw]; exact ((Kept.of_below (fun _ => False) HI.out).setRow (fun h => absurd h (by have := HR1.out; omega)) _).below (Nat.le_refl _) (fun _ _ h => h)
    have HG_g3 : Hid (w.heap.size ≤ g3) := Lib.hid (Nat.le_trans HBP.out.size HR1.out)
    have HNE_g1_g3 : Hid (g1 ≠ g3) := Lib.hid (by have := heap_lt HR_g1.out; have := HR1.out; omega)
    have HRN := Lib.hid ((hb.block g1 (heap_lt HR_g1.out)).trans HR_g1.out)
    clear HR_g1
    have HR_g1 := HRN
    clear HRN
    have HR_g3 := Lib.hid hrow
    have HTN := Tab_stepD HTP hb
    have HBN := Bel_stepD HBP hb
    clear HTP HBP
    have HTP := HTN
    have HBP := HBN
    clear HTN HBN
    rw [← hw]
    clear hw hrow hb pd HI HR1 HH1 CR0 CR1 HGL I1 I2
    have c_g1_0 : w3.cell? ⟨g1, 0, none⟩ = some (.int .i64 A) := cell_of_row w3 g1 0 _ _ _ HR_g1.out
    have c_g1_1 : w3.cell? ⟨g1, 1, none⟩ = some (.int .i64 B) := cell_of_row w3 g1 1 _ _ _ HR_g1.out
    have c_g1_2 : w3.cell? ⟨g1, 2, none⟩ = some (.int .i64 C) := cell_of_row w3 g1 2 _ _ _ HR_g1.out
    have c_g3_0 : w3.cell? ⟨g3, 0, none⟩ = some (.int .i64 y) := cell_of_row w3 g3 0 _ _ _ HR_g3.out
    have c_g3_1 : w3.cell? ⟨g3, 1, none⟩ = some (.int .i64 m) := cell_of_row w3 g3 1 _ _ _ HR_g3.out
    have c_g3_2 : w3.cell? ⟨g3, 2, none⟩ = some (.int .i64 0) := cell_of_row w3 g3 2 _ _ _ HR_g3.out
    have f_g3_0 : w3.frozen? ⟨g3, 0, none⟩ = false := frozen_of_row w3 g3 0 _ _ HR_g3.out
    have f_g3_1 : w3.frozen? ⟨g3, 1, none⟩ = false := frozen_of_row w3 g3 1 _ _ HR_g3.out
    have f_g3_2 : w3.frozen? ⟨g3, 2, none⟩ = false := frozen_of_row w3 g3 2 _ _ HR_g3.out
    have HLN3 := Lib.hid (HLN.out w3.drew (HTP.out.below (Below.refl _ _).drew))
    go_still_tail 11, (by kernel_rfl)
    still_call (HLN3.out)
    repeat still_step
    still_call (HA3.out _)
    repeat still_step
    refine wpStill_nil ?_
    change wpList _ _ _ _ _ w3.drew
    go_upto_region 9 with fail
    obtain ⟨w4, hw⟩ : ∃ w4, w4 = (w3.setCell ⟨g3, 2, none⟩ (.int .i64 d)).drew := ⟨_, rfl⟩
    have hrow : w4.heap[g3]? = some (.cells #[.int .i64 y, .int .i64 m, .int .i64 d] 23 (0, 0)) := by rw [hw]; exact heap_setCell_same _ _ _ _ _ _ HR_g3.out
    have hb : Below w.heap.size w w4 := by rw [hw]; exact ((((Kept.of_below (fun _ => False) HBP.out).setCell (fun h => absurd (show g3 < w.heap.size from h) (by have := HG_g3.out; omega)) _).below (Nat.le_refl _) (fun _ _ h => h))).drew
    have HTN : Hid (Tabs w4) := Lib.hid (HT0.out.below hb)
    have HBN : Hid (Below w.heap.size w w4) := Lib.hid hb
    have HRN : Hid (w4.heap[g1]? = some (.cells #[.int .i64 A, .int .i64 B, .int .i64 C] 23 (0, 0))) := Lib.hid (by rw [hw]; exact (heap_setCell_other _ _ _ _ HNE_g1_g3.out).trans HR_g1.out)
    clear HR_g1
    have HR_g1 := HRN
    clear HRN
    clear HTP HBP HR_g3 c_g1_0 c_g1_1 c_g1_2 c_g3_0 c_g3_1 c_g3_2 f_g3_0 f_g3_1 f_g3_2
    have HTP := HTN
    have HBP := HBN
    have HR_g3 := Lib.hid hrow
    rw [← hw]
    clear HTN HBN hw hrow hb
    have c_g1_0 : w4.cell? ⟨g1, 0, none⟩ = some (.int .i64 A) := cell_of_row w4 g1 0 _ _ _ HR_g1.out
    have c_g1_1 : w4.cell? ⟨g1, 1, none⟩ = some (.int .i64 B) := cell_of_row w4 g1 1 _ _ _ HR_g1.out
    have c_g1_2 : w4.cell? ⟨g1, 2, none⟩ = some (.int .i64 C) := cell_of_row w4 g1 2 _ _ _ HR_g1.out
    have c_g3_0 : w4.cell? ⟨g3, 0, none⟩ = some (.int .i64 y) := cell_of_row w4 g3 0 _ _ _ HR_g3.out
    have c_g3_1 : w4.cell? ⟨g3, 1, none⟩ = some (.int .i64 m) := cell_of_row w4 g3 1 _ _ _ HR_g3.out
    have c_g3_2 : w4.cell? ⟨g3, 2, none⟩ = some (.int .i64 d) := cell_of_row w4 g3 2 _ _ _ HR_g3.out
    have f_g3_0 : w4.frozen? ⟨g3, 0, none⟩ = false := frozen_of_row w4 g3 0 _ _ HR_g3.out
    have f_g3_1 : w4.frozen? ⟨g3, 1, none⟩ = false := frozen_of_row w4 g3 1 _ _ HR_g3.out
    have f_g3_2 : w4.frozen? ⟨g3, 2, none⟩ = false := frozen_of_row w4 g3 2 _ _ HR_g3.out
    go_upto_region 10 with (go_at_call 16; refine (HK.out _ HTP.out).mono ?_; rintro e v5 ⟨rfl, hb⟩; have HTN := Tab_stepD HTP hb; have HBN := Bel_stepD HBP hb; clear HTP HBP; have HTP := HTN; have HBP := HBN; clear HTN HBN; have HRN := Lib.hid ((hb.block g1 (heap_lt HR_g1.out)).trans HR_g1.out); clear HR_g1; have HR_g1 := HRN; clear HRN; have HRN := Lib.hid ((hb.block g3 (heap_lt HR_g3.out)).trans HR_g3.out); clear HR_g3; have HR_g3 := HRN; clear HRN; clear c_g1_0 c_g1_1 c_g1_2 c_g3_0 c_g3_1 c_g3_2; have c_g1_0 : v5.cell? ⟨g1, 0, none⟩ = some (.int .i64 A) := cell_of_row v5 g1 0 _ _ _ HR_g1.out; have c_g1_1 : v5.cell? ⟨g1, 1, none⟩ = some (.int .i64 B) := cell_of_row v5 g1 1 _ _ _ HR_g1.out; have c_g1_2 : v5.cell? ⟨g1, 2, none⟩ = some (.int .i64 C) := cell_of_row v5 g1 2 _ _ _ HR_g1.out; have c_g3_0 : v5.cell? ⟨g3, 0, none⟩ = some (.int .i64 y) := cell_of_row v5 g3 0 _ _ _ HR_g3.out; have c_g3_1 : v5.cell? ⟨g3, 1, none⟩ = some (.int .i64 m) := cell_of_row v5 g3 1 _ _ _ HR_g3.out; have c_g3_2 : v5.cell? ⟨g3, 2, none⟩ = some (.int .i64 d) := cell_of_row v5 g3 2 _ _ _ HR_g3.out; clear hb)
    go_upto_region 11 with (go_at_call 22; refine (HO2.out _ HTP.out).mono ?_; rintro e v6 ⟨rfl, hb⟩; have HTN := Tab_stepD HTP hb; have HBN := Bel_stepD HBP hb; clear HTP HBP; have HTP := HTN; have HBP := HBN; clear HTN HBN; have HRN := Lib.hid ((hb.block g1 (heap_lt HR_g1.out)).trans HR_g1.out); clear HR_g1; have HR_g1 := HRN; clear HRN; have HRN := Lib.hid ((hb.block g3 (heap_lt HR_g3.out)).trans HR_g3.out); clear HR_g3; have HR_g3 := HRN; clear HRN; clear c_g1_0 c_g1_1 c_g1_2 c_g3_0 c_g3_1 c_g3_2; have c_g1_0 : v6.cell? ⟨g1, 0, none⟩ = some (.int .i64 A) := cell_of_row v6 g1 0 _ _ _ HR_g1.out; have c_g1_1 : v6.cell? ⟨g1, 1, none⟩ = some (.int .i64 B) := cell_of_row v6 g1 1 _ _ _ HR_g1.out; have c_g1_2 : v6.cell? ⟨g1, 2, none⟩ = some (.int .i64 C) := cell_of_row v6 g1 2 _ _ _ HR_g1.out; have c_g3_0 : v6.cell? ⟨g3, 0, none⟩ = some (.int .i64 y) := cell_of_row v6 g3 0 _ _ _ HR_g3.out; have c_g3_1 : v6.cell? ⟨g3, 1, none⟩ = some (.int .i64 m) := cell_of_row v6 g3 1 _ _ _ HR_g3.out; have c_g3_2 : v6.cell? ⟨g3, 2, none⟩ = some (.int .i64 d) := cell_of_row v6 g3 2 _ _ _ HR_g3.out; clear hb; have pd : DB (v6.alloc (.cells #[.int .i64 0, .int .i64 0, .int .i64 0] 23)) v6.heap.size := ⟨0, 0, 0, heap_new0⟩)
    obtain ⟨w7, hw⟩ : ∃ w7, w7 = (v6.alloc (.cells #[.int .i64 0, .int .i64 0, .int .i64 0] 23)).setRow v6.heap.size #[.int .i64 y, .int .i64 m, .int .i64 d] := ⟨_, rfl⟩
    obtain ⟨g15, hg⟩ : ∃ g15, g15 = v6.heap.size := ⟨_, rfl⟩
    have hrow : w7.heap[g15]? = some (.cells #[.int .i64 y, .int .i64 m, .int .i64 d] 23 (0, 0)) := by rw [hw, hg]; exact setRow_heap _ _ _ _ _ _ heap_new0
    have hb : Below v6.heap.size v6 w7 := by rw [hw]; exact (((Kept.refl (fun _ => False) v6).alloc _).setRow (fun h => by omega) _).below (Nat.le_refl _) (fun _ _ h => h)
    have HG_g15 : Hid (w.heap.size ≤ g15) := Lib.hid (by rw [hg]; exact HBP.out.size)
    have HNE_g1_g15 : Hid (g1 ≠ g15) := Lib.hid (by have := heap_lt HR_g1.out; omega)
    have HRN := Lib.hid ((hb.block g1 (heap_lt HR_g1.out)).trans HR_g1.out)
    clear HR_g1
    have HR_g1 := HRN
    clear HRN
    have HNE_g3_g15 : Hid (g3 ≠ g15) := Lib.hid (by have := heap_lt HR_g3.out; omega)
    have HRN := Lib.hid ((hb.block g3 (heap_lt HR_g3.out)).trans HR_g3.out)
    clear HR_g3
    have HR_g3 := HRN
    clear HRN
    have HR_g15 := Lib.hid hrow
    have HTN := Tab_stepD HTP hb
    have HBN := Bel_stepD HBP hb
    clear HTP HBP
    have HTP := HTN
    have HBP := HBN
    clear HTN HBN
    rw [← hw]
    rw [← hg]
    clear hw hg hrow hb pd c_g1_0 c_g1_1 c_g1_2 c_g3_0 c_g3_1 c_g3_2
    have c_g1_0 : w7.cell? ⟨g1, 0, none⟩ = some (.int .i64 A) := cell_of_row w7 g1 0 _ _ _ HR_g1.out
    have c_g1_1 : w7.cell? ⟨g1, 1, none⟩ = some (.int .i64 B) := cell_of_row w7 g1 1 _ _ _ HR_g1.out
    have c_g1_2 : w7.cell? ⟨g1, 2, none⟩ = some (.int .i64 C) := cell_of_row w7 g1 2 _ _ _ HR_g1.out
    have c_g3_0 : w7.cell? ⟨g3, 0, none⟩ = some (.int .i64 y) := cell_of_row w7 g3 0 _ _ _ HR_g3.out
    have c_g3_1 : w7.cell? ⟨g3, 1, none⟩ = some (.int .i64 m) := cell_of_row w7 g3 1 _ _ _ HR_g3.out
    have c_g3_2 : w7.cell? ⟨g3, 2, none⟩ = some (.int .i64 d) := cell_of_row w7 g3 2 _ _ _ HR_g3.out
    have c_g15_0 : w7.cell? ⟨g15, 0, none⟩ = some (.int .i64 y) := cell_of_row w7 g15 0 _ _ _ HR_g15.out
    have c_g15_1 : w7.cell? ⟨g15, 1, none⟩ = some (.int .i64 m) := cell_of_row w7 g15 1 _ _ _ HR_g15.out
    have c_g15_2 : w7.cell? ⟨g15, 2, none⟩ = some (.int .i64 d) := cell_of_row w7 g15 2 _ _ _ HR_g15.out
    have f_g15_0 : w7.frozen? ⟨g15, 0, none⟩ = false := frozen_of_row w7 g15 0 _ _ HR_g15.out
    have f_g15_1 : w7.frozen? ⟨g15, 1, none⟩ = false := frozen_of_row w7 g15 1 _ _ HR_g15.out
    have f_g15_2 : w7.frozen? ⟨g15, 2, none⟩ = false := frozen_of_row w7 g15 2 _ _ HR_g15.out
    go_wp2_with (go_at_call 19; refine (lives_any _ HTP.out).mono ?_; rintro e w1 ⟨rfl, hb⟩; have HTN := Tab_stepD HTP hb; have HBN := Bel_stepD HBP hb; clear HTP HBP; have HTP := HTN; have HBP := HBN; clear HTN HBN; clear hb)
    go_ret
    exact ⟨rfl, HBP.out⟩
end Go.Proofs.YtcoijmggfkjcjaaDoor
namespace Go.Proofs.YtcoijmggfkjcjaaDoor
open Go.RowKit
set_option linter.unusedSimpArgs false
set_option linter.unusedVariables false
/-- the order of keys -/
def cmpK (a b : ByteArray) : Int := Lib.compareBytes a.data.toList b.data.toList
theorem cb_bd : ∀ a b : List UInt8, Lib.compareBytes a b = -1 ∨ Lib.compareBytes a b = 0 ∨ Lib.compareBytes a b = 1
  | [], [] => .inr (.inl rfl)
  | [], _ :: _ => .inl rfl
  | _ :: _, [] => .inr (.inr rfl)
  | x :: a, y :: b => by
    unfold Lib.compareBytes
    split
    · exact .inl rfl
    · split
      · exact .inr (.inr rfl)
      · exact cb_bd a b
theorem cb_eq : ∀ a b : List UInt8, Lib.compareBytes a b = 0 ↔ a = b
  | [], [] => by simp [Lib.compareBytes]
  | [], _ :: _ => by simp [Lib.compareBytes]
  | _ :: _, [] => by simp [Lib.compareBytes]
  | x :: a, y :: b => by
    have ih := cb_eq a b
    unfold Lib.compareBytes
    split
    · rename_i h
      constructor
      · intro e; omega
      · intro e
        have := (List.cons.inj e).1
        subst this
        exact absurd h (UInt8.lt_irrefl x)
    · rename_i h
      split
      · rename_i h2
        constructor
        · intro e; omega
        · intro e
          have := (List.cons.inj e).1
          subst this
          exact absurd h2 (UInt8.lt_irrefl x)
      · rename_i h2
        have hxy : x = y := UInt8.le_antisymm (UInt8.not_lt.1 h2) (UInt8.not_lt.1 h)
        subst hxy
        rw [ih]
        simp
theorem cb_flip : ∀ a b : List UInt8, Lib.compareBytes b a = - Lib.compareBytes a b
  | [], [] => rfl
  | [], _ :: _ => rfl
  | _ :: _, [] => rfl
  | x :: a, y :: b => by
    have ih := cb_flip a b
    unfold Lib.compareBytes
    by_cases h : x < y
    · simp [h, UInt8.lt_asymm h]
    · by_cases h2 : y < x
      · simp [h, h2]
      · simp only [if_neg h, if_neg h2]
        exact ih
theorem cb_trans : ∀ a b c : List UInt8, Lib.compareBytes a b < 0 → Lib.compareBytes b c < 0 → Lib.compareBytes a c < 0
  | [], [], _, h, _ => by simp [Lib.compareBytes] at h
  | [], _ :: _, [], _, h => by simp [Lib.compareBytes] at h
  | [], _ :: _, _ :: _, _, _ => by simp [Lib.compareBytes]
  | _ :: _, [], _, h, _ => by simp [Lib.compareBytes] at h
  | _ :: _, _ :: _, [], _, h => by simp [Lib.compareBytes] at h
  | x :: a, y :: b, z :: c, h1, h2 => by
    have ih := cb_trans a b c
    unfold Lib.compareBytes at h1 h2 ⊢
    by_cases e1 : x < y
    · by_cases e2 : y < z
      · rw [if_pos (UInt8.lt_trans e1 e2)]; omega
      · by_cases e3 : z < y
        · rw [if_neg e2, if_pos e3] at h2; omega
        · have : y = z := UInt8.le_antisymm (UInt8.not_lt.1 e3) (UInt8.not_lt.1 e2)
          subst this
          rw [if_pos e1]; omega
    · by_cases e3 : y < x
      · rw [if_neg e1, if_pos e3] at h1; omega
      · have : x = y := UInt8.le_antisymm (UInt8.not_lt.1 e3) (UInt8.not_lt.1 e1)
        subst this
        rw [if_neg e1, if_neg e1] at h1
        by_cases e2 : x < z
        · rw [if_pos e2]; omega
        · by_cases e4 : z < x
          · rw [if_neg e2, if_pos e4] at h2; omega
          · rw [if_neg e2, if_neg e4] at h2 ⊢
            exact ih h1 h2
theorem cmpK_bd (a b : ByteArray) : cmpK a b = -1 ∨ cmpK a b = 0 ∨ cmpK a b = 1 := cb_bd _ _
theorem cmpK_eq (a b : ByteArray) : cmpK a b = 0 ↔ a = b := by
  unfold cmpK
  rw [cb_eq]
  constructor
  · intro h
    obtain ⟨⟨la⟩⟩ := a
    obtain ⟨⟨lb⟩⟩ := b
    simp only at h
    rw [h]
  · intro h; rw [h]
theorem cmpK_flip (a b : ByteArray) : cmpK b a = - cmpK a b := cb_flip _ _
theorem cmpK_trans {a b c : ByteArray} (h : cmpK a b < 0) (h2 : cmpK b c < 0) : cmpK a c < 0 := cb_trans _ _ _ h h2
theorem run_cmpCall (a b : ByteArray) (w : World) :
    (callFunc 108 #[.string a, .string b]).run Tryd.prog w = .ok (.value (.int .i64 (cmpK a b))) w := by
  rw [run_callFunc_extern Tryd.func108 (by kernel_rfl) (by kernel_rfl) (by kernel_rfl) (e := Extern.BytealgCompare.compare) (by kernel_rfl), Lib.run_compareString]
  rfl
attribute [local go_sem] run_cmpCall
set_option maxRecDepth 100000 in
theorem compareStr_any (a b : ByteArray) (w : World) :
    Calls Tryd.prog 91 #[.string a, .string b] w fun e w' => e = .returned (.int .i64 (cmpK a b)) ∧ w = w' := by
  go_enter Tryd.func91, Tryd.ntmps91
  go_wp2_with fail
  go_ret
  exact ⟨rfl, rfl⟩
set_option maxRecDepth 100000 in
theorem compare_any (a b : ByteArray) (w : World) :
    Calls Tryd.prog 75 #[.string a, .string b] w fun e w' => e = .returned (.int .i64 (cmpK a b)) ∧ w = w' := by
  go_enter Tryd.func75, Tryd.ntmps75
  go_wp2_with (go_at_call 91; refine (compareStr_any a b _).mono ?_; rintro e w1 ⟨rfl, rfl⟩)
  go_ret
  exact ⟨rfl, rfl⟩
set_option maxRecDepth 100000 in
theorem findFn_any (a v b : ByteArray) (w : World) :
    Calls Tryd.prog 74 #[.agg #[.string a, .string v], .string b] w fun e w' => e = .returned (.int .i64 (cmpK a b)) ∧ Below w.heap.size w w' := by
  go_enter Tryd.func74, Tryd.ntmps74
  go_wp2_with (go_at_call 75; refine (compare_any a b _).mono ?_; rintro e w1 ⟨rfl, rfl⟩)
  go_ret
  exact ⟨rfl, (Below.refl _ _).alloc (Nat.le_refl _) _⟩
end Go.Proofs.YtcoijmggfkjcjaaDoor
namespace Go.Proofs.YtcoijmggfkjcjaaDoor
open Go.RowKit
set_option linter.unusedSimpArgs false
set_option linter.unusedVariables false
/-- a pair -/
structure KV where
  k : ByteArray
  v : ByteArray
def KV.cells (p : KV) : List Value := [.string p.k, .string p.v]
def pcells (ps : List KV) : List Value := ps.flatMap KV.cells
theorem pcells_len (ps : List KV) : (pcells ps).length = ps.length * 2 := by
  unfold pcells
  induction ps with
  | nil => rfl
  | cons m r ih => rw [List.flatMap_cons, List.length_append, ih, List.length_cons]; show 2 + _ = _; omega
theorem pcells_get (ps : List KV) (i j : Nat) (hi : i < ps.length) (hj : j < 2) : (pcells ps)[i * 2 + j]? = ps[i].cells[j]? := by
  unfold pcells
  induction ps generalizing i with
  | nil => simp at hi
  | cons m r ih =>
    rw [List.flatMap_cons]
    have hl : m.cells.length = 2 := rfl
    cases i with
    | zero =>
      rw [List.getElem?_append_left (by omega), Nat.zero_mul, Nat.zero_add]
      rfl
    | succ i =>
      rw [List.getElem?_append_right (by omega), show (i + 1) * 2 + j - m.cells.length = i * 2 + j by omega, ih i (by simpa using hi)]
      rfl
/-- a slice of pairs -/
def Ps (D : Nat → Prop) (w : World) (a : Option Addr) (n c : Nat) (ps : List KV) : Prop := ps.length = n ∧ Sl D w a n c (pcells ps) 2
theorem Ps.kept {D S : Nat → Prop} {w w' : World} {a : Option Addr} {n c : Nat} {ps : List KV} (h : Ps D w a n c ps) (hk : Kept S w w') (hd : ∀ b, b < w.heap.size → D b → ¬ S b) : Ps D w' a n c ps := ⟨h.1, h.2.kept (by decide) hk hd⟩
theorem Ps.below {D : Nat → Prop} {w w' : World} {a : Option Addr} {n c : Nat} {ps : List KV} (h : Ps D w a n c ps) (hb : Below w.heap.size w w') : Ps D w' a n c ps := h.kept (Kept.of_below (fun _ => False) hb) (fun _ _ _ h => h)
theorem Ps.at {D : Nat → Prop} {w : World} {a : Option Addr} {n c : Nat} {ps : List KV} (h : Ps D w a n c ps) (hp : 0 < n) : ∃ b off, D b ∧ b < w.heap.size ∧ a = some ⟨b, off, none⟩ ∧ ∀ (i : Nat) (hi : i < ps.length), w.rangeAt b (off + i * 2) ps[i].cells := by
  obtain ⟨h1, h2, h3, h4, h5, h6⟩ := h
  obtain ⟨b, off, hD, ha, hr⟩ := h6 hp
  refine ⟨b, off, hD, range_lt hr (by omega), ha, fun i hi j v hv => ?_⟩
  have hj : j < 2 := (List.getElem?_eq_some_iff.1 hv).1
  rw [Nat.add_assoc]
  exact hr (i * 2 + j) v (by rw [pcells_get ps i j hi hj]; exact hv)
def loadPairA (v : Value) : Sem Next := do pure (.value (← Instr.loadAt 54 v))
theorem exec_loadPair (ρ : Operand → Value) (d : Option Tmp) (x : Operand) (ty : TypeId) (pos : String) (af : Array Edge) (gd : Option (Nat × Bool)) :
    execOp ρ { dst := d, op := .load 54 x, type := ty, pos := pos, after := af, guard := gd } = loadPairA (ρ x) := rfl
theorem exec_at_zeroP {ρ : Operand → Value} {o : Oper} {l : List Oper} {h : 0 < (o :: l).toArray.size} : execOp ρ ((o :: l).toArray[0]'h) = execOp ρ o := rfl
theorem exec_at_succP {ρ : Operand → Value} {o : Oper} {l : List Oper} {n : Nat} {h : n + 1 < (o :: l).toArray.size} : execOp ρ ((o :: l).toArray[n + 1]'h) = execOp ρ (l.toArray[n]'(by simpa using h)) := rfl
theorem run_loadPair {w : World} {b o : Nat} {p : KV} (h : w.rangeAt b o p.cells) : (loadPairA (.pointer (some ⟨b, o, none⟩))).run Tryd.prog w = .ok (.value (.agg #[.string p.k, .string p.v])) w := by
  unfold loadPairA
  simp only [Sem.run_bind, Sem.run_pure, Result.andThen_ok, run_loadAt_mid w b o 54 p.cells _ h Tryd.underlying54 rfl (by show _ = some 2; kernel_rfl)]
  rfl
/-- keys grow -/
def Sorted (ps : List KV) : Prop := ps.Pairwise fun a b => cmpK a.k b.k < 0
theorem Sorted.lt {ps : List KV} (h : Sorted ps) {i j : Nat} (hij : i < j) (hj : j < ps.length) : cmpK (ps[i]'(by omega)).k ps[j].k < 0 := List.pairwise_iff_getElem.1 h i j (by omega) hj hij
attribute [local go_sem ↓] exec_loadPair exec_at_zeroP exec_at_succP Go.wp_at_zero Go.wp_at_succ
/-- where a key belongs -/
def Place (ps : List KV) (key : ByteArray) (i : Nat) : Prop := i ≤ ps.length ∧ (∀ t (h : t < ps.length), t < i → cmpK ps[t].k key < 0) ∧ (∀ t (h : t < ps.length), i ≤ t → 0 ≤ cmpK ps[t].k key)
def FN : Value := .func (.func 74) #[] #[]
set_option maxRecDepth 100000 in
set_option maxHeartbeats 1000000 in
theorem search_any (D : Nat → Prop) (a : Option Addr) (n c : Nat) (ps : List KV) (key : ByteArray) (w : World) (hP : Ps D w a n c ps) (hs : Sorted ps) (hn : n ≤ 1000000) :
    Calls Tryd.prog 73 #[.slice a n c, .string key, FN] w fun e w' => ∃ i : Nat, e = .returned (.tuple #[.int .i64 (i : Int), .bool (decide (∃ h : i < ps.length, ps[i].k = key))]) ∧ Place ps key i ∧ Below w.heap.size w w' := by
  have HP := Lib.hid hP
  have HL := Lib.hid hP.1
  have HS := Lib.hid hs
  have hc1 := hP.2.2.1
  have hc2 : c ≤ 9223372036854775807 := hP.2.2.2.1
  clear hP hs
  unfold FN
  go_enter Tryd.func73, Tryd.ntmps73
  go_wp2_with fail
  go_loopw [9, 10, 11] (fun u v x wr => ∃ (i j : Nat), u = .int .i64 (i : Int) ∧ v = .int .i64 (j : Int) ∧ i ≤ j ∧ j ≤ n ∧ (∀ t (h : t < ps.length), t < i → cmpK ps[t].k key < 0) ∧ (∀ t (h : t < ps.length), j ≤ t → 0 ≤ cmpK ps[t].k key) ∧ Below w.heap.size w wr) (fun u v _ _ => (intOf v).toNat - (intOf u).toNat)
  case atStart => exact ⟨0, n, rfl, rfl, Nat.zero_le _, Nat.le_refl _, fun t h h2 => absurd h2 (by omega), fun t h h2 => absurd h2 (by have := HL.out; omega), Below.refl _ _⟩
  case round =>
    obtain ⟨i, j, rfl, rfl, hij, hjn, h1, h2, hb⟩ := hrel
    have H1 := Lib.hid h1
    have H2 := Lib.hid h2
    have HB := Lib.hid hb
    clear h1 h2 hb
    by_cases hlt : i < j
    · have hlt2 : (i : Int) < (j : Int) := by omega
      have hwr : IntKind.i64.wrap ((i : Int) + (j : Int)) = ((i + j : Nat) : Int) := by rw [IntKind.wrap_i64]; omega
      obtain ⟨h, hh⟩ : ∃ h, h = (i + j) / 2 := ⟨_, rfl⟩
      have hh1 : ((i : Int) + (j : Int)) / 2 = (h : Int) := by omega
      have hhj : h < j := by omega
      have hhi : i ≤ h := by omega
      have hhn : (h : Int) < (n : Int) := by omega
      have hhl : h < ps.length := by rw [HL.out]; omega
      have hwh : IntKind.i64.wrap ((h : Int) + 1) = (h : Int) + 1 := i64_id _ (by omega) (by omega)
      obtain ⟨b, off, -, hbs, rfl, hcell⟩ := (HP.out.below HB.out).at (by omega)
      have hr := hcell h hhl
      obtain ⟨kv, hkv⟩ : ∃ kv, kv = ps[h]'hhl := ⟨_, rfl⟩
      rw [← hkv] at hr
      obtain ⟨ob, hob⟩ : ∃ ob, ob = off + h * 2 := ⟨_, rfl⟩
      rw [← hob] at hr
      have hob2 : off + h * 2 = ob := hob.symm
      have ld0 := run_loadPair hr
      have HKV := Lib.hid hkv
      have HHL := Lib.hid hhl
      have HHH := Lib.hid hh
      clear hcell hr hkv hob hh
      obtain ⟨X, hX⟩ : ∃ X, X = cmpK kv.k key := ⟨_, rfl⟩
      have HX := Lib.hid hX
      have HCF : Hid (∀ u, Calls Tryd.prog 74 #[.agg #[.string kv.k, .string kv.v], .string key] u fun e w' => e = .returned (.int .i64 X) ∧ Below u.heap.size u w') := Lib.hid (fun u => by rw [hX]; exact findFn_any _ _ _ u)
      clear hX
      by_cases hX0 : X < 0
      · go_wp2_with (go_at_call 74; refine (HCF.out _).mono ?_; rintro e w2 ⟨rfl, hb2⟩; have HB2 := Lib.hid (HB.out.trans (hb2.mono HB.out.size)); clear hb2)
        go_roundw
        case rel => exact ⟨h + 1, j, by go_num, rfl, by omega, hjn, fun t ht h3 => by
          have h5 := HHL.out
          have h6 : cmpK ps[h].k key < 0 := by rw [← HKV.out, ← HX.out]; exact hX0
          by_cases e : t = h
          · subst e; exact h6
          · exact cmpK_trans (HS.out.lt (i := t) (j := h) (by omega) h5) h6, H2.out, HB2.out⟩
        case measure => simp [intOf]; omega
      · go_wp2_with (go_at_call 74; refine (HCF.out _).mono ?_; rintro e w2 ⟨rfl, hb2⟩; have HB2 := Lib.hid (HB.out.trans (hb2.mono HB.out.size)); clear hb2)
        go_roundw
        case rel => exact ⟨i, h, rfl, rfl, by omega, by omega, H1.out, fun t ht h3 => by
          have h5 := HHL.out
          have h6 : 0 ≤ cmpK ps[h].k key := by rw [← HKV.out, ← HX.out]; omega
          by_cases e : t = h
          · subst e; exact h6
          · rcases Int.lt_or_le (cmpK ps[t].k key) 0 with h7 | h7
            · have := cmpK_trans (HS.out.lt (i := h) (j := t) (by omega) ht) h7; omega
            · exact h7, HB2.out⟩
        case measure => simp [intOf]; omega
    · obtain rfl : i = j := by omega
      by_cases hin : i < n
      · have hin2 : (i : Int) < (n : Int) := by omega
        have hil : i < ps.length := by rw [HL.out]; exact hin
        obtain ⟨b, off, -, hbs, rfl, hcell⟩ := (HP.out.below HB.out).at (by omega)
        have hr := hcell i hil
        obtain ⟨kv, hkv⟩ : ∃ kv, kv = ps[i]'hil := ⟨_, rfl⟩
        rw [← hkv] at hr
        obtain ⟨ob, hob⟩ : ∃ ob, ob = off + i * 2 := ⟨_, rfl⟩
        rw [← hob] at hr
        have hob2 : off + i * 2 = ob := hob.symm
        have ld0 := run_loadPair hr
        have HKV := Lib.hid hkv
        have HHL := Lib.hid hil
        clear hcell hr hkv hob
        obtain ⟨X, hX⟩ : ∃ X, X = cmpK kv.k key := ⟨_, rfl⟩
        have HX := Lib.hid hX
        have HCF : Hid (∀ u, Calls Tryd.prog 74 #[.agg #[.string kv.k, .string kv.v], .string key] u fun e w' => e = .returned (.int .i64 X) ∧ Below u.heap.size u w') := Lib.hid (fun u => by rw [hX]; exact findFn_any _ _ _ u)
        clear hX
        have hfd : ∀ B : Bool, (B = true ↔ X = 0) → B = decide (∃ h : i < ps.length, ps[i].k = key) := fun B hB => by
          have h5 := HHL.out
          have e1 : (∃ h : i < ps.length, ps[i].k = key) ↔ X = 0 := ⟨fun ⟨_, e⟩ => by rw [HX.out, HKV.out]; exact (cmpK_eq _ _).2 e, fun e => ⟨h5, by rw [HX.out, HKV.out] at e; exact (cmpK_eq _ _).1 e⟩⟩
          rw [Bool.eq_iff_iff, hB, decide_eq_true_iff, e1]
        have HFD := Lib.hid hfd
        clear hfd
        by_cases hX0 : X = 0
        · have HX0 := Lib.hid hX0
          have hx1 : (X == 0) = true := by rw [hX0]; rfl
          clear hX0
          go_wp2_with (go_at_call 74; refine (HCF.out _).mono ?_; rintro e w2 ⟨rfl, hb2⟩; have HB2 := Lib.hid (HB.out.trans (hb2.mono HB.out.size)); clear hb2)
          go_ret2
          exact ⟨i, congrArg (fun B => Ending.returned (.tuple #[.int .i64 (i : Int), .bool B])) (HFD.out true (by simp [HX0.out])), ⟨by have := HL.out; omega, H1.out, H2.out⟩, HB2.out⟩
        · have HX0 := Lib.hid hX0
          have hx1 : (X == 0) = false := by simpa using hX0
          clear hX0
          go_wp2_with (go_at_call 74; refine (HCF.out _).mono ?_; rintro e w2 ⟨rfl, hb2⟩; have HB2 := Lib.hid (HB.out.trans (hb2.mono HB.out.size)); clear hb2)
          go_ret2
          exact ⟨i, congrArg (fun B => Ending.returned (.tuple #[.int .i64 (i : Int), .bool B])) (HFD.out false (by simp [HX0.out])), ⟨by have := HL.out; omega, H1.out, H2.out⟩, HB2.out⟩
      · have hin2 : (n : Int) ≤ (i : Int) := by omega
        have hfd : decide (∃ h : i < ps.length, ps[i].k = key) = false := decide_eq_false (fun ⟨h, _⟩ => by have := HL.out; omega)
        have HFD := Lib.hid hfd
        clear hfd
        go_wp2_with fail
        go_ret2
        exact ⟨i, congrArg (fun B => Ending.returned (.tuple #[.int .i64 (i : Int), .bool B])) HFD.out.symm, ⟨by have := HL.out; omega, H1.out, H2.out⟩, HB.out⟩
end Go.Proofs.YtcoijmggfkjcjaaDoor
namespace Go.Proofs.YtcoijmggfkjcjaaDoor
open Go.RowKit
set_option linter.unusedSimpArgs false
set_option linter.unusedVariables false
/-- a tree of nodes, each with the block in which it lies -/
inductive BT where
  | mk (g : Nat) (ps : List KV) (ks : List BT)
def BT.g : BT → Nat
  | .mk g _ _ => g
def BT.ps : BT → List KV
  | .mk _ ps _ => ps
def BT.ks : BT → List BT
  | .mk _ _ ks => ks
theorem BT.eta (t : BT) : t = .mk t.g t.ps t.ks := by cases t; rfl
/-- pointers to nodes -/
def pnts (gs : List Nat) : List Value := gs.map fun g => .pointer (some ⟨g, 0, none⟩)
theorem pnts_len (gs : List Nat) : (pnts gs).length = gs.length := by simp [pnts]
def Ks (D : Nat → Prop) (w : World) (a : Option Addr) (n c : Nat) (gs : List Nat) : Prop := gs.length = n ∧ Sl D w a n c (pnts gs) 1
theorem Ks.kept {D S : Nat → Prop} {w w' : World} {a : Option Addr} {n c : Nat} {gs : List Nat} (h : Ks D w a n c gs) (hk : Kept S w w') (hd : ∀ b, b < w.heap.size → D b → ¬ S b) : Ks D w' a n c gs := ⟨h.1, h.2.kept (by decide) hk hd⟩
theorem Ks.below {D : Nat → Prop} {w w' : World} {a : Option Addr} {n c : Nat} {gs : List Nat} (h : Ks D w a n c gs) (hb : Below w.heap.size w w') : Ks D w' a n c gs := h.kept (Kept.of_below (fun _ => False) hb) (fun _ _ _ h => h)
theorem Ks.cells {D : Nat → Prop} {w : World} {a : Option Addr} {n c : Nat} {gs : List Nat} (h : Ks D w a n c gs) (hn : 0 < n) : ∃ b off, D b ∧ b < w.heap.size ∧ a = some ⟨b, off, none⟩ ∧ ∀ i (hi : i < gs.length), w.cell? ⟨b, off + i, none⟩ = some (.pointer (some ⟨gs[i], 0, none⟩)) := by
  obtain ⟨h1, h2, h3, h4, h5, h6⟩ := h
  obtain ⟨b, off, hD, ha, hr⟩ := h6 hn
  exact ⟨b, off, hD, range_lt hr (by rw [pnts_len]; omega), ha, fun i hi => hr i _ (by simp [pnts, hi])⟩
theorem Ks.dom {D D' : Nat → Prop} {w : World} {a : Option Addr} {n c : Nat} {gs : List Nat} (h : Ks D w a n c gs) (hd : ∀ b, D b → D' b) : Ks D' w a n c gs := ⟨h.1, h.2.dom hd⟩
theorem Ps.dom {D D' : Nat → Prop} {w : World} {a : Option Addr} {n c : Nat} {ps : List KV} (h : Ps D w a n c ps) (hd : ∀ b, D b → D' b) : Ps D' w a n c ps := ⟨h.1, h.2.dom hd⟩
/-- a tree lies in blocks of D -/
inductive NdD (D : Nat → Prop) (w : World) : BT → Prop
  | mk {g : Nat} {a b : Option Addr} {n c m e : Nat} {ps : List KV} {ks : List BT} (h0 : D g) (h1 : w.heap[g]? = some (.cells #[.slice a n c, .slice b m e] 69 (0, 0))) (h2 : Ps D w a n c ps) (h3 : Ks D w b m e (ks.map BT.g)) (h5 : ∀ k, k ∈ ks → NdD D w k) : NdD D w (.mk g ps ks)
theorem NdD.kept {D S : Nat → Prop} {w w' : World} (hk : Kept S w w') (hd : ∀ b, b < w.heap.size → D b → ¬ S b) {t : BT} (h : NdD D w t) : NdD D w' t := by
  induction h with
  | mk h0 h1 h2 h3 h5 ih => exact .mk h0 (hk.heap h1 (hd _ (Array.getElem?_eq_some_iff.1 h1).1 h0)) (h2.kept hk hd) (h3.kept hk hd) ih
theorem NdD.under {D : Nat → Prop} {w w' : World} (hb : Below w.heap.size w w') {t : BT} (h : NdD D w t) : NdD D w' t := h.kept (Kept.of_below (fun _ => False) hb) (fun _ _ _ h => h)
theorem NdD.dom {D D' : Nat → Prop} {w : World} (hd : ∀ b, D b → D' b) {t : BT} (h : NdD D w t) : NdD D' w t := by
  induction h with
  | mk h0 h1 h2 h3 h5 ih => exact .mk (hd _ h0) h1 (h2.dom hd) (h3.dom hd) ih
theorem Sl.in {D : Nat → Prop} {w : World} {a : Option Addr} {n c : Nat} {xs : List Value} {size : Nat} (h : Sl D w a n c xs size) (hz : 0 < size) : Sl (fun b => D b ∧ b < w.heap.size) w a n c xs size := by
  obtain ⟨h1, h2, h3, h4, h5⟩ := h
  refine ⟨h1, h2, h3, h4, fun hn => ?_⟩
  obtain ⟨b, off, hD, ha, hr⟩ := h5 hn
  exact ⟨b, off, ⟨hD, range_lt hr (by rw [h1]; exact Nat.mul_pos hn hz)⟩, ha, hr⟩
theorem NdD.in {D : Nat → Prop} {w : World} {t : BT} (h : NdD D w t) : NdD (fun b => D b ∧ b < w.heap.size) w t := by
  induction h with
  | mk h0 h1 h2 h3 h5 ih => exact .mk ⟨h0, (Array.getElem?_eq_some_iff.1 h1).1⟩ h1 ⟨h2.1, h2.2.in (by decide)⟩ ⟨h3.1, h3.2.in (by decide)⟩ ih
theorem NdD.facts {D : Nat → Prop} {w : World} {t : BT} (h : NdD D w t) : ∃ a n c b m e, D t.g ∧ w.heap[t.g]? = some (.cells #[.slice a n c, .slice b m e] 69 (0, 0)) ∧ w.cell? ⟨t.g, 0, none⟩ = some (.slice a n c) ∧ w.cell? ⟨t.g, 1, none⟩ = some (.slice b m e) ∧ Ps D w a n c t.ps ∧ Ks D w b m e (t.ks.map BT.g) ∧ ∀ k, k ∈ t.ks → NdD D w k := by
  cases h with
  | mk h0 h1 h2 h3 h5 => exact ⟨_, _, _, _, _, _, h0, h1, cell_of_row w _ 0 _ _ _ h1, cell_of_row w _ 1 _ _ _ h1, h2, h3, h5⟩
/-- what lies in the block g is the tree t -/
def Nd (w : World) (g : Nat) (t : BT) : Prop := t.g = g ∧ NdD (fun _ => True) w t
theorem NdD.nd {D : Nat → Prop} {w : World} {t : BT} (h : NdD D w t) : Nd w t.g t := ⟨rfl, h.dom (fun _ _ => trivial)⟩
theorem Nd.under {w w' : World} (hb : Below w.heap.size w w') {g : Nat} {t : BT} (h : Nd w g t) : Nd w' g t := ⟨h.1, h.2.under hb⟩
theorem Nd.lt {w : World} {g : Nat} {t : BT} (h : Nd w g t) : g < w.heap.size := by
  obtain ⟨rfl, h⟩ := h
  obtain ⟨_, _, _, _, _, _, -, h1, -⟩ := h.facts
  exact (Array.getElem?_eq_some_iff.1 h1).1
theorem Nd.facts {w : World} {g : Nat} {t : BT} (h : Nd w g t) : ∃ a n c b m e gs, w.heap[g]? = some (.cells #[.slice a n c, .slice b m e] 69 (0, 0)) ∧ w.cell? ⟨g, 0, none⟩ = some (.slice a n c) ∧ w.cell? ⟨g, 1, none⟩ = some (.slice b m e) ∧ Ps (fun _ => True) w a n c t.ps ∧ Ks (fun _ => True) w b m e gs ∧ gs.length = t.ks.length ∧ ∀ i (hi : i < gs.length) (hk : i < t.ks.length), Nd w gs[i] t.ks[i] := by
  obtain ⟨rfl, h⟩ := h
  obtain ⟨a, n, c, b, m, e, -, h1, h2, h3, h4, h5, h6⟩ := h.facts
  exact ⟨a, n, c, b, m, e, t.ks.map BT.g, h1, h2, h3, h4, h5, by simp, fun i hi hk => ⟨by simp, h6 _ (List.getElem_mem hk)⟩⟩
set_option maxRecDepth 100000 in
theorem find_any {w : World} {g : Nat} {t : BT} (h : Nd w g t) (key : ByteArray) (hs : Sorted t.ps) (hn : t.ps.length ≤ 1000000) :
    Calls Tryd.prog 60 #[.pointer (some ⟨g, 0, none⟩), .string key] w fun e w' => ∃ i : Nat, e = .returned (.tuple #[.int .i64 (i : Int), .bool (decide (∃ h : i < t.ps.length, t.ps[i].k = key))]) ∧ Place t.ps key i ∧ Below w.heap.size w w' := by
  obtain ⟨a, n, c, b, m, e, gs, -, c0, -, hp, -, -, -⟩ := h.facts
  have HC := Lib.hid (search_any _ a n c t.ps key w hp hs (by have := hp.1; omega))
  clear hp h hs
  unfold FN at HC
  go_enter Tryd.func60, Tryd.ntmps60
  go_wp2_with (go_at_call 73; refine HC.out.mono ?_; rintro e w2 ⟨i, rfl, hpl, hb⟩; have HPL := Lib.hid hpl; have HB := Lib.hid hb; clear hpl hb)
  go_ret2
  exact ⟨i, rfl, HPL.out, HB.out⟩
set_option maxRecDepth 100000 in
theorem leaf_any {w : World} {g : Nat} {t : BT} (h : Nd w g t) :
    Calls Tryd.prog 67 #[.pointer (some ⟨g, 0, none⟩)] w fun e w' => e = .returned (.bool (decide (t.ks.length = 0))) ∧ w = w' := by
  obtain ⟨a, n, c, b, m, e, gs, -, -, c1, -, hk, hl, -⟩ := h.facts
  have hm : m = t.ks.length := by rw [← hl]; exact hk.1.symm
  rw [← hm]
  clear hk hl h hm
  go_enter Tryd.func67, Tryd.ntmps67
  go_wp2_with fail
  go_ret
  refine ⟨congrArg (fun B => Ending.returned (Value.bool B)) (?_ : ((m : Int) == 0) = decide (m = 0)), rfl⟩
  rw [Bool.eq_iff_iff]
  simp
set_option maxRecDepth 100000 in
theorem kid_leaf {w : World} {g : Nat} {t : BT} (h : Nd w g t) (hk : t.ks.length = 0) (i : Int) :
    Calls Tryd.prog 61 #[.pointer (some ⟨g, 0, none⟩), .int .i64 i] w fun e w' => e = .returned (.pointer none) ∧ w = w' := by
  have HC := leaf_any h
  rw [decide_eq_true hk] at HC
  have HC := Lib.hid HC
  clear h hk
  go_enter Tryd.func61, Tryd.ntmps61
  go_wp2_with (go_at_call 67; refine HC.out.mono ?_; rintro e w2 ⟨rfl, rfl⟩)
  go_ret
  exact ⟨rfl, rfl⟩
set_option maxRecDepth 100000 in
theorem kid_any {w : World} {g : Nat} {t : BT} (h : Nd w g t) (i : Nat) (hi : i < t.ks.length) :
    Calls Tryd.prog 61 #[.pointer (some ⟨g, 0, none⟩), .int .i64 (i : Int)] w fun e w' => ∃ gk, e = .returned (.pointer (some ⟨gk, 0, none⟩)) ∧ Nd w gk t.ks[i] ∧ w = w' := by
  have HC := leaf_any h
  rw [decide_eq_false (by omega)] at HC
  have HC := Lib.hid HC
  obtain ⟨a, n, c, b, m, e, gs, -, -, c1, -, hk, hl, hn⟩ := h.facts
  have hig : i < gs.length := by rw [hl]; exact hi
  have hm := hk.1
  have hle : m ≤ e := hk.2.2.1
  have hle2 : e ≤ 9223372036854775807 := hk.2.2.2.1
  obtain ⟨bb, off, -, hbb, rfl, hcell⟩ := hk.cells (by omega)
  have ci := hcell i hig
  have HN := Lib.hid (hn i hig hi)
  obtain ⟨gk, hgk⟩ : ∃ gk, gk = gs[i]'hig := ⟨_, rfl⟩
  rw [← hgk] at ci HN
  have him : (i : Int) < (m : Int) := by omega
  clear h hk hl hn hcell hgk hm
  go_enter Tryd.func61, Tryd.ntmps61
  go_wp2_with (go_at_call 67; refine HC.out.mono ?_; rintro e w2 ⟨rfl, rfl⟩)
  go_ret
  exact ⟨gk, rfl, HN.out, rfl⟩
set_option maxRecDepth 100000 in
/-- as kid_any, in a later world: the child lies where it lay -/
theorem kid_under {w u : World} {g : Nat} {t : BT} (h : Nd w g t) (hb : Below w.heap.size w u) (i : Nat) (hi : i < t.ks.length) :
    Calls Tryd.prog 61 #[.pointer (some ⟨g, 0, none⟩), .int .i64 (i : Int)] u fun e w' => ∃ gk, e = .returned (.pointer (some ⟨gk, 0, none⟩)) ∧ Nd w gk t.ks[i] ∧ u = w' := by
  have HC := leaf_any (h.under hb)
  rw [decide_eq_false (by omega)] at HC
  have HC := Lib.hid HC
  have hgl := h.lt
  obtain ⟨a, n, c, b, m, e, gs, -, -, c1, -, hk, hl, hn⟩ := h.facts
  have hig : i < gs.length := by rw [hl]; exact hi
  have hm := hk.1
  have hle : m ≤ e := hk.2.2.1
  have hle2 : e ≤ 9223372036854775807 := hk.2.2.2.1
  obtain ⟨bb, off, -, hbb, rfl, hcell⟩ := hk.cells (by omega)
  have ci := (hb.cell (p := ⟨bb, off + i, none⟩) hbb).trans (hcell i hig)
  have c1 := (hb.cell (p := ⟨g, 1, none⟩) hgl).trans c1
  have HN := Lib.hid (hn i hig hi)
  obtain ⟨gk, hgk⟩ : ∃ gk, gk = gs[i]'hig := ⟨_, rfl⟩
  rw [← hgk] at ci HN
  have him : (i : Int) < (m : Int) := by omega
  clear h hk hl hn hcell hgk hm
  go_enter Tryd.func61, Tryd.ntmps61
  go_wp2_with (go_at_call 67; refine HC.out.mono ?_; rintro e w2 ⟨rfl, rfl⟩)
  go_ret
  exact ⟨gk, rfl, HN.out, rfl⟩
end Go.Proofs.YtcoijmggfkjcjaaDoor
namespace Go.Proofs.YtcoijmggfkjcjaaDoor
set_option linter.unusedSimpArgs false
set_option linter.unusedVariables false
mutual
/-- the pairs of a tree, in order -/
def BT.toL : BT → List KV
  | .mk _ ps ks => toLs ps ks
def toLs : List KV → List BT → List KV
  | ps, [] => ps
  | [], k :: ks => k.toL ++ toLs [] ks
  | p :: ps, k :: ks => k.toL ++ p :: toLs ps ks
end
theorem toL_mk (g : Nat) (ps : List KV) (ks : List BT) : (BT.mk g ps ks).toL = toLs ps ks := by rw [BT.toL]
theorem toL_eq (t : BT) : t.toL = toLs t.ps t.ks := by cases t; rw [BT.toL]; rfl
theorem toLs_leaf (ps : List KV) : toLs ps [] = ps := by unfold toLs; rfl
/-- what stands before the child i, and behind it -/
def preL : List KV → List BT → Nat → List KV
  | p :: ps, k :: ks, i + 1 => k.toL ++ p :: preL ps ks i
  | _, _, _ => []
def sufL : List KV → List BT → List KV
  | p :: ps, k :: ks => p :: (k.toL ++ sufL ps ks)
  | _, _ => []
theorem toLs_one (ps : List KV) (k : BT) (ks : List BT) (h : ks.length = ps.length) : toLs ps (k :: ks) = k.toL ++ sufL ps ks := by
  induction ks generalizing ps k with
  | nil =>
    have : ps = [] := List.eq_nil_of_length_eq_zero (by simpa using h.symm)
    subst this
    rw [toLs, toLs_leaf]
    rfl
  | cons k2 ks ih =>
    cases ps with
    | nil => simp at h
    | cons p ps =>
      rw [toLs, ih ps k2 (by simpa using h)]
      rfl
theorem toLs_split : ∀ (ps : List KV) (ks : List BT) (i : Nat) (hi : i < ks.length), ks.length = ps.length + 1 → toLs ps ks = preL ps ks i ++ (ks[i].toL ++ sufL (ps.drop i) (ks.drop (i + 1)))
  | ps, k :: ks, 0, _, h => by
    rw [toLs_one ps k ks (by simpa using h)]
    cases ps <;> simp [preL]
  | [], k :: ks, i + 1, hi, h => by exfalso; simp only [List.length_cons, List.length_nil] at h hi; omega
  | p :: ps, k :: ks, i + 1, hi, h => by
    have hi2 : i < ks.length := by simpa using hi
    rw [toLs, toLs_split ps ks i hi2 (by simpa using h)]
    simp [preL]
  | _, [], i, hi, _ => absurd hi (by simp)
/-- a node of a tree of height h: at most 8 pairs, children of one height, at least 3 pairs in each -/
def BT.Wf : Nat → BT → Prop
  | 0, _ => False
  | h + 1, t => t.ps.length ≤ 8 ∧ ((h = 0 ∧ t.ks = []) ∨ (h ≠ 0 ∧ t.ks.length = t.ps.length + 1 ∧ ∀ k ∈ t.ks, k.Wf h ∧ 3 ≤ k.ps.length))
theorem sorted_app {a b : List KV} : Sorted (a ++ b) ↔ Sorted a ∧ Sorted b ∧ ∀ x ∈ a, ∀ y ∈ b, cmpK x.k y.k < 0 := List.pairwise_append
theorem sorted_cons {x : KV} {b : List KV} : Sorted (x :: b) ↔ (∀ y ∈ b, cmpK x.k y.k < 0) ∧ Sorted b := List.pairwise_cons
theorem mem_pre : ∀ (ps : List KV) (ks : List BT) (i t : Nat) (ht : t < ps.length), t < i → i < ks.length → ps[t] ∈ preL ps ks i
  | p :: ps, k :: ks, i + 1, 0, _, _, _ => by simp [preL]
  | p :: ps, k :: ks, i + 1, t + 1, ht, hti, hi => by
    have := mem_pre ps ks i t (by simpa using ht) (by omega) (by simpa using hi)
    simp [preL, this]
  | p :: ps, [], i, t, _, _, hi => absurd hi (by simp)
  | [], _, _, t, ht, _, _ => absurd ht (by simp)
  | p :: ps, k :: ks, 0, t, _, h, _ => absurd h (by omega)
/-- the pairs of a node are among those of the tree, in order -/
theorem ps_sub : ∀ (ps : List KV) (ks : List BT), ks.length = ps.length + 1 → ps.Sublist (toLs ps ks)
  | [], _, _ => List.nil_sublist _
  | p :: ps, k :: ks, h => by
    rw [toLs]
    exact List.Sublist.trans ((ps_sub ps ks (by simpa using h)).cons_cons p) (List.sublist_append_right _ _)
  | p :: ps, [], h => by simp at h
theorem Sorted.ps {t : BT} {h : Nat} (hw : t.Wf h) (hs : Sorted t.toL) : Sorted t.ps := by
  cases h with
  | zero => exact hw.elim
  | succ h =>
    rw [toL_eq] at hs
    rcases hw.2 with ⟨-, e⟩ | ⟨-, e, -⟩
    · rw [e, toLs_leaf] at hs; exact hs
    · exact hs.sublist (ps_sub _ _ e)
end Go.Proofs.YtcoijmggfkjcjaaDoor
namespace Go.Proofs.YtcoijmggfkjcjaaDoor
open Go.RowKit
set_option linter.unusedSimpArgs false
set_option linter.unusedVariables false
/-- the last pair whose key is at most a key -/
def floorL (l : List KV) (key : ByteArray) : Option KV := (l.filter fun p => decide (cmpK p.k key ≤ 0)).getLast?
theorem floorL_app (a b : List KV) (key : ByteArray) : floorL (a ++ b) key = (floorL b key).or (floorL a key) := by
  unfold floorL
  rw [List.filter_append, List.getLast?_append]
theorem floorL_none (b : List KV) (key : ByteArray) (h : ∀ p ∈ b, 0 < cmpK p.k key) : floorL b key = none := by
  unfold floorL
  have : b.filter (fun p => decide (cmpK p.k key ≤ 0)) = [] := by
    rw [List.filter_eq_nil_iff]
    intro p hp
    have := h p hp
    simp
    omega
  rw [this]
  rfl
theorem floorL_all (a : List KV) (key : ByteArray) (h : ∀ p ∈ a, cmpK p.k key ≤ 0) : floorL a key = a.getLast? := by
  unfold floorL
  have : a.filter (fun p => decide (cmpK p.k key ≤ 0)) = a := by
    rw [List.filter_eq_self]
    intro p hp
    simpa using h p hp
  rw [this]
theorem cmpK_le {a b c : ByteArray} (h : cmpK a b < 0) (h2 : cmpK b c ≤ 0) : cmpK a c < 0 := by
  by_cases e : cmpK b c = 0
  · rw [(cmpK_eq b c).1 e] at h; exact h
  · exact cmpK_trans h (by omega)
theorem cmpK_ge {a b c : ByteArray} (h : 0 ≤ cmpK a c) (h2 : cmpK a b < 0) : 0 < cmpK b c := by
  have h3 := cmpK_flip b c
  have h4 := cmpK_flip a c
  have h5 := cmpK_flip a b
  by_cases e : 0 < cmpK b c
  · exact e
  · have := cmpK_le (a := a) h2 (by omega : cmpK b c ≤ 0)
    omega
/-- a leaf -/
theorem floor_leaf {ps : List KV} {key : ByteArray} {i : Nat} (hs : Sorted ps) (hp : Place ps key i) (hf : ¬ ∃ h : i < ps.length, ps[i].k = key) : floorL ps key = if i = 0 then none else ps[i - 1]? := by
  obtain ⟨hi, h1, h2⟩ := hp
  have e : ps = ps.take i ++ ps.drop i := (List.take_append_drop i ps).symm
  have hd : ∀ p ∈ ps.drop i, 0 < cmpK p.k key := by
    intro p hp
    obtain ⟨t, ht, rfl⟩ := List.mem_iff_getElem.1 hp
    rw [List.length_drop] at ht
    rw [List.getElem_drop]
    have h3 := h2 (i + t) (by omega) (by omega)
    by_cases h4 : cmpK ps[i + t].k key = 0
    · exfalso
      have h5 := (cmpK_eq _ _).1 h4
      by_cases h6 : t = 0
      · subst h6; exact hf ⟨by omega, h5⟩
      · have h7 := hs.lt (i := i) (j := i + t) (by omega) (by omega)
        rw [h5] at h7
        have h8 := h2 i (by omega) (Nat.le_refl _)
        omega
    · omega
  have ht : ∀ p ∈ ps.take i, cmpK p.k key ≤ 0 := by
    intro p hp
    obtain ⟨t, ht, rfl⟩ := List.mem_iff_getElem.1 hp
    rw [List.length_take] at ht
    rw [List.getElem_take]
    have := h1 t (by omega) (by omega)
    omega
  rw [e, floorL_app, floorL_none _ _ hd, Option.none_or, floorL_all _ _ ht, List.getLast?_eq_getElem?, List.length_take]
  by_cases h0 : i = 0
  · subst h0; simp
  · rw [if_neg h0, show min i ps.length - 1 = i - 1 by omega, List.take_append_drop, List.getElem?_take, if_pos (by omega)]
/-- what a place in a tree's block says of a root -/
def RootAt (w : World) (v : Value) : Option BT → Prop
  | none => v = .pointer none
  | some t => ∃ g, v = .pointer (some ⟨g, 0, none⟩) ∧ Nd w g t
def treeL : Option BT → List KV
  | none => []
  | some t => t.toL
/-- a Tree -/
def Tr (w : World) (g : Nat) (t : Option BT) : Prop := ∃ v, w.heap[g]? = some (.cells #[v, .int .i64 ((treeL t).length : Int)] 66 (0, 0)) ∧ RootAt w v t
theorem RootAt.under {w w' : World} (hb : Below w.heap.size w w') {v : Value} {t : Option BT} (h : RootAt w v t) : RootAt w' v t := by
  cases t with
  | none => exact h
  | some t => obtain ⟨g, h1, h2⟩ := h; exact ⟨g, h1, h2.under hb⟩
theorem Tr.under {w w' : World} (hb : Below w.heap.size w w') {g : Nat} {t : Option BT} (h : Tr w g t) : Tr w' g t := by
  obtain ⟨v, h1, h2⟩ := h
  exact ⟨v, (hb.block _ (Array.getElem?_eq_some_iff.1 h1).1).trans h1, h2.under hb⟩
theorem Tr.facts {w : World} {g : Nat} {t : Option BT} (h : Tr w g t) : ∃ v, w.cell? ⟨g, 0, none⟩ = some v ∧ w.cell? ⟨g, 1, none⟩ = some (.int .i64 ((treeL t).length : Int)) ∧ RootAt w v t := by
  obtain ⟨v, h1, h2⟩ := h
  exact ⟨v, cell_of_row w g 0 _ _ _ h1, cell_of_row w g 1 _ _ _ h1, h2⟩
/-- a tree that keeps the rules: its height -/
def TOk (t : Option BT) (h : Nat) : Prop := match t with
  | none => h = 0
  | some b => b.Wf h ∧ 1 ≤ b.ps.length
end Go.Proofs.YtcoijmggfkjcjaaDoor
namespace Go.Proofs.YtcoijmggfkjcjaaDoor
open Go.RowKit
set_option linter.unusedSimpArgs false
set_option linter.unusedVariables false
theorem dgt_lt {a b : Nat} (ha : a < 10) (hb : b < 10) (h : a < b) : dgt a < dgt b := by
  have : ∀ x y : Fin 10, x.val < y.val → dgt x.val < dgt y.val := by decide
  exact this ⟨a, ha⟩ ⟨b, hb⟩ h
theorem cb_same (x : UInt8) (a b : List UInt8) : Lib.compareBytes (x :: a) (x :: b) = Lib.compareBytes a b := by
  have h : ¬ x < x := by exact UInt8.lt_irrefl x
  simp [Lib.compareBytes, h]
theorem cb_less {x y : UInt8} (h : x < y) (a b : List UInt8) : Lib.compareBytes (x :: a) (y :: b) = -1 := by simp [Lib.compareBytes, h]
theorem cb_p2 {m n : Nat} (hm : m < 100) (hn : n < 100) (h : m < n) (a b : List UInt8) : Lib.compareBytes (p2 m ++ a) (p2 n ++ b) = -1 := by
  unfold p2
  simp only [List.cons_append, List.nil_append]
  by_cases h1 : m / 10 = n / 10
  · rw [h1, cb_same]
    exact cb_less (dgt_lt (by omega) (by omega) (by omega)) _ _
  · exact cb_less (dgt_lt (by omega) (by omega) (by omega)) _ _
theorem cb_p2e (m : Nat) (a b : List UInt8) : Lib.compareBytes (p2 m ++ a) (p2 m ++ b) = Lib.compareBytes a b := by
  unfold p2
  simp only [List.cons_append, List.nil_append, cb_same]
theorem cb_p4 {m n : Nat} (hm : m < 10000) (hn : n < 10000) (h : m < n) (a b : List UInt8) : Lib.compareBytes (p4 m ++ a) (p4 n ++ b) = -1 := by
  unfold p4
  simp only [List.cons_append, List.nil_append]
  by_cases h1 : m / 1000 = n / 1000
  · rw [h1, cb_same]
    by_cases h2 : m / 100 % 10 = n / 100 % 10
    · rw [h2, cb_same]
      by_cases h3 : m / 10 % 10 = n / 10 % 10
      · rw [h3, cb_same]
        exact cb_less (dgt_lt (by omega) (by omega) (by omega)) _ _
      · exact cb_less (dgt_lt (by omega) (by omega) (by omega)) _ _
    · exact cb_less (dgt_lt (by omega) (by omega) (by omega)) _ _
  · exact cb_less (dgt_lt (by omega) (by omega) (by omega)) _ _
theorem cb_p4e (m : Nat) (a b : List UInt8) : Lib.compareBytes (p4 m ++ a) (p4 m ++ b) = Lib.compareBytes a b := by
  unfold p4
  simp only [List.cons_append, List.nil_append, cb_same]
/-- a later day has a later date -/
theorem date_lt {a b : Int} (ha : okN a) (hb : okN b) (h : a < b) : yearN a < yearN b ∨ (yearN a = yearN b ∧ (monthN a < monthN b ∨ (monthN a = monthN b ∧ mdayN a < mdayN b))) := by
  obtain ⟨va, ea⟩ := of_ok a ha.1 ha.2
  obtain ⟨vb, eb⟩ := of_ok b hb.1 hb.2
  have ia := day_in va
  have ib := day_in vb
  have ma := valid_m va
  have mb := valid_m vb
  rw [ea] at ia
  rw [eb] at ib
  generalize yearN a = ya at *
  generalize monthN a = ma' at *
  generalize mdayN a = da at *
  generalize yearN b = yb at *
  generalize monthN b = mb' at *
  generalize mdayN b = db at *
  rcases Int.lt_trichotomy ya yb with h1 | rfl | h1
  · exact .inl h1
  · right
    refine ⟨rfl, ?_⟩
    rcases Int.lt_trichotomy ma' mb' with h2 | rfl | h2
    · exact .inl h2
    · right
      refine ⟨rfl, ?_⟩
      unfold dayN at ea eb
      omega
    · exfalso
      have := cum_le ya (show mb'.toNat + 1 ≤ ma'.toNat by omega)
      omega
  · exfalso
    have h2 := new_le (show yb + 1 ≤ ya by omega)
    have h3 := new_succ yb
    omega
theorem print_lt {a b : Int} (ha : okN a) (hb : okN b) (h : a < b) : cmpK (printB a) (printB b) = -1 := by
  have va := valid_sm (of_ok a ha.1 ha.2).1
  have vb := valid_sm (of_ok b hb.1 hb.2).1
  unfold cmpK
  rw [printB_list ha, printB_list hb]
  have hl := date_lt ha hb h
  unfold printL
  rcases hl with h1 | ⟨h1, h2 | ⟨h2, h3⟩⟩
  · exact cb_p4 (by omega) (by omega) (by omega) _ _
  · rw [h1, cb_p4e, cb_same]
    exact cb_p2 (by omega) (by omega) (by omega) _ _
  · rw [h1, h2, cb_p4e, cb_same, cb_p2e, cb_same]
    have := cb_p2 (m := (mdayN a).toNat) (n := (mdayN b).toNat) (by omega) (by omega) (by omega) [] []
    simpa using this
theorem print_inj {a b : Int} (ha : okN a) (hb : okN b) (h : printB a = printB b) : a = b := by
  rcases Int.lt_trichotomy a b with h1 | h1 | h1
  · have := print_lt ha hb h1
    rw [(cmpK_eq _ _).2 h] at this
    omega
  · exact h1
  · have := print_lt hb ha h1
    rw [(cmpK_eq _ _).2 h.symm] at this
    omega
theorem print_cmp {a b : Int} (ha : okN a) (hb : okN b) : cmpK (printB a) (printB b) < 0 ↔ a < b := by
  constructor
  · intro h
    rcases Int.lt_trichotomy a b with h1 | h1 | h1
    · exact h1
    · rw [h1, (cmpK_eq _ _).2 rfl] at h; omega
    · have := print_lt hb ha h1
      have h2 := cmpK_flip (printB b) (printB a)
      omega
  · intro h
    have := print_lt ha hb h
    omega
theorem print_le {a b : Int} (ha : okN a) (hb : okN b) : cmpK (printB a) (printB b) ≤ 0 ↔ a ≤ b := by
  have h1 := print_cmp hb ha
  have h2 := cmpK_flip (printB b) (printB a)
  constructor
  · intro h
    rcases Int.lt_or_le b a with h3 | h3
    · have := h1.2 h3; omega
    · exact h3
  · intro h
    rcases Int.lt_or_le 0 (cmpK (printB a) (printB b)) with h3 | h3
    · have := h1.1 (by omega); omega
    · exact h3
end Go.Proofs.YtcoijmggfkjcjaaDoor
namespace Go.Proofs.YtcoijmggfkjcjaaDoor
set_option linter.unusedSimpArgs false
set_option linter.unusedVariables false
theorem preL_zero (ps : List KV) (ks : List BT) : preL ps ks 0 = [] := by cases ps <;> cases ks <;> rfl
theorem preL_snoc : ∀ (ps : List KV) (ks : List BT) (i : Nat) (hi : i < ps.length), i + 1 < ks.length → ∃ A, preL ps ks (i + 1) = A ++ [ps[i]]
  | p :: ps, k :: ks, 0, _, _ => ⟨k.toL, by rw [preL, preL_zero]; rfl⟩
  | p :: ps, k :: ks, i + 1, hi, hk => by
    obtain ⟨A, hA⟩ := preL_snoc ps ks i (by simpa using hi) (by simpa using hk)
    exact ⟨k.toL ++ p :: A, by rw [preL, hA]; simp⟩
  | [], _, _, hi, _ => absurd hi (by simp)
  | _ :: _, [], _, _, hk => absurd hk (by simp)
theorem sufL_cons (ps : List KV) (ks : List BT) (i : Nat) (hi : i < ps.length) (hk : ks.length = ps.length + 1) : ∃ B, sufL (ps.drop i) (ks.drop (i + 1)) = ps[i] :: B := by
  have e1 : ps.drop i = ps[i] :: ps.drop (i + 1) := List.drop_eq_getElem_cons hi
  have e2 : ks.drop (i + 1) = ks[i + 1]'(by omega) :: ks.drop (i + 2) := List.drop_eq_getElem_cons (by omega)
  rw [e1, e2]
  exact ⟨_, rfl⟩
theorem sufL_nil (ps : List KV) (ks : List BT) (i : Nat) (hi : ps.length ≤ i) : sufL (ps.drop i) (ks.drop (i + 1)) = [] := by
  rw [List.drop_eq_nil_of_le hi]
  rfl
theorem floor_inner {ps : List KV} {ks : List BT} {key : ByteArray} {i : Nat} (hl : ks.length = ps.length + 1) (hs : Sorted (toLs ps ks)) (hp : Place ps key i) (hik : i < ks.length) (hf : ¬ ∃ h : i < ps.length, ps[i].k = key) :
    floorL (toLs ps ks) key = (floorL ks[i].toL key).or (if i = 0 then none else ps[i - 1]?) ∧ Sorted ks[i].toL := by
  obtain ⟨hi, h1, h2⟩ := hp
  have e := toLs_split ps ks i hik hl
  rw [e] at hs ⊢
  obtain ⟨s1, s2, s3⟩ := sorted_app.1 hs
  obtain ⟨s4, s5, s6⟩ := sorted_app.1 s2
  have hd : ∀ p ∈ sufL (ps.drop i) (ks.drop (i + 1)), 0 < cmpK p.k key := by
    intro p hpp
    by_cases hip : i < ps.length
    · obtain ⟨B, hB⟩ := sufL_cons ps ks i hip hl
      rw [hB] at hpp s5
      have h3 := h2 i hip (Nat.le_refl _)
      have h4 : 0 < cmpK ps[i].k key := by
        by_cases h5 : cmpK ps[i].k key = 0
        · exact absurd ⟨hip, (cmpK_eq _ _).1 h5⟩ hf
        · omega
      rcases List.mem_cons.1 hpp with rfl | hpp
      · exact h4
      · exact cmpK_ge (by omega) ((sorted_cons.1 s5).1 p hpp)
    · rw [sufL_nil ps ks i (by omega)] at hpp
      cases hpp
  refine ⟨?_, s4⟩
  rw [floorL_app, floorL_app, floorL_none _ _ hd, Option.none_or]
  congr 1
  by_cases h0 : i = 0
  · subst h0
    rw [preL_zero, if_pos rfl]
    rfl
  · obtain ⟨j, rfl⟩ : ∃ j, i = j + 1 := ⟨i - 1, by omega⟩
    obtain ⟨A, hA⟩ := preL_snoc ps ks j (by omega) hik
    rw [hA] at s1 ⊢
    have h5 := h1 j (by omega) (by omega)
    rw [floorL_all, List.getLast?_append, if_neg h0]
    · rw [show j + 1 - 1 = j by omega, List.getElem?_eq_getElem (by omega)]
      rfl
    · intro p hpp
      rcases List.mem_append.1 hpp with hpp | hpp
      · have := (sorted_app.1 s1).2.2 p hpp ps[j] (by simp)
        have := cmpK_trans this h5
        omega
      · rw [List.mem_singleton.1 hpp]; omega
theorem floor_found {ps : List KV} {ks : List BT} {i : Nat} (hl : ks = [] ∨ ks.length = ps.length + 1) (hs : Sorted (toLs ps ks)) (hi : i < ps.length) : floorL (toLs ps ks) ps[i].k = some ps[i] := by
  have key : ∃ A B, toLs ps ks = A ++ ps[i] :: B := by
    rcases hl with rfl | hl
    · rw [toLs_leaf]
      exact ⟨ps.take i, ps.drop (i + 1), by rw [← List.drop_eq_getElem_cons hi, List.take_append_drop]⟩
    · have e := toLs_split ps ks i (by omega) hl
      obtain ⟨B, hB⟩ := sufL_cons ps ks i hi hl
      rw [hB] at e
      exact ⟨preL ps ks i ++ (ks[i]'(by omega)).toL, B, by rw [e]; simp⟩
  obtain ⟨A, B, e⟩ := key
  rw [e] at hs ⊢
  obtain ⟨s1, s2, s3⟩ := sorted_app.1 hs
  have s4 := (sorted_cons.1 s2).1
  have e2 : A ++ ps[i] :: B = (A ++ [ps[i]]) ++ B := by simp
  rw [e2, floorL_app, floorL_none B, Option.none_or, floorL_all, List.getLast?_append]
  · rfl
  · intro p hp
    rcases List.mem_append.1 hp with hp | hp
    · have := s3 p hp ps[i] (by simp); omega
    · rw [List.mem_singleton.1 hp, (cmpK_eq _ _).2 rfl]; omega
  · intro p hp
    have h1 := s4 p hp
    have h2 := cmpK_flip ps[i].k p.k
    omega
end Go.Proofs.YtcoijmggfkjcjaaDoor
namespace Go.Proofs.YtcoijmggfkjcjaaDoor
open Go.RowKit
set_option linter.unusedSimpArgs false
set_option linter.unusedVariables false
/-- a subtree of height k, or none -/
def Sub (s : Option BT) (k : Nat) : Prop := (s = none ∧ k = 0) ∨ ∃ b, s = some b ∧ b.Wf k
theorem TOk.sub {t : Option BT} {h : Nat} (ht : TOk t h) : Sub t h := by
  cases t with
  | none => exact .inl ⟨rfl, ht⟩
  | some b => exact .inr ⟨b, rfl, ht.1⟩
end Go.Proofs.YtcoijmggfkjcjaaDoor
namespace Go.Proofs.YtcoijmggfkjcjaaDoor
open Go.RowKit
set_option linter.unusedSimpArgs false
set_option linter.unusedVariables false
attribute [local go_sem ↓] exec_loadPair exec_at_zeroP exec_at_succP Go.wp_at_zero Go.wp_at_succ
def emptyS : ByteArray := ⟨#[]⟩
/-- the cells of a pair, or of none -/
def fkv : Option KV → KV
  | none => ⟨emptyS, emptyS⟩
  | some p => p
def kcells (p : KV) : Array Value := #[.string p.k, .string p.v]
theorem range_kv {w : World} {g : Nat} {p : KV} {t : TypeId} (h : w.heap[g]? = some (.cells (kcells p) t (0, 0))) : w.rangeAt g 0 p.cells := fun j u hu => by
  rw [Nat.zero_add, cell_of_row w g j _ _ _ h]
  simpa [kcells, KV.cells] using hu
theorem kcells_info : (Tryd.prog.info? 54).map (·.size) = some 2 := by kernel_rfl
/-- a block that holds a pair -/
def PB (w : World) (g : Nat) : Prop := ∃ p : KV, w.heap[g]? = some (.cells (kcells p) 54 (0, 0))
def storePairA (v x : Value) : Sem Next := do Instr.storeAt 54 v x; pure .skip
theorem exec_storePair (ρ : Operand → Value) (d : Option Tmp) (x y : Operand) (ty : TypeId) (pos : String) (af : Array Edge) (gd : Option (Nat × Bool)) :
    execOp ρ { dst := d, op := .store 54 x y, type := ty, pos := pos, after := af, guard := gd } = storePairA (ρ x) (ρ y) := rfl
theorem run_storePair (w : World) (g : Nat) (k v : ByteArray) (h : PB w g) : (storePairA (.pointer (some ⟨g, 0, none⟩)) (.agg #[.string k, .string v])).run Tryd.prog w = .ok .skip (w.setRow g #[.string k, .string v]) := by
  obtain ⟨old, hg⟩ := h
  unfold storePairA
  simp only [Instr.storeAt, Instr.sureAddr, Sem.run_bind, Sem.run_pure, Result.andThen_ok, run_storeVar_row w g 54 54 _ #[.string k, .string v] hg kcells_info rfl (by simp [Value.oneCell'])]
theorem results_floor (tmps : Array Value) (w : World) (g : Nat) (x y : Value) (b : Bool) (hp : tmps.getD 4 undef = .pointer (some ⟨g, 0, none⟩)) (hb : tmps.getD 5 undef = .bool b) (hg : w.heap[g]? = some (.cells #[x, y] 54 (0, 0))) :
    (results Tryd.f42 tmps).run Tryd.prog w = .ok (.tuple #[.agg #[x, y], .bool b]) w := by
  rw [results_cell_tmp (p := 4) (u := 5) (ty := 54) rfl, hp, hb]
  simp only [asAddr, Sem.run_pure, Result.andThen_ok]
  rw [run_loadVar_row w g 54 54 #[x, y] (0, 0) _ hg Tryd.underlying54 rfl kcells_info]
  rfl
attribute [local go_sem ↓] exec_storePair
attribute [local go_sem] run_storePair
set_option maxRecDepth 100000 in
set_option maxHeartbeats 2000000 in
theorem floor_any {w : World} {g : Nat} {t : Option BT} {H : Nat} (h : Tr w g t) (ht : TOk t H) (hs : Sorted (treeL t)) (key : ByteArray) :
    Calls Tryd.prog 42 #[.pointer (some ⟨g, 0, none⟩), .string key] w fun e w' => e = .returned (.tuple #[.agg (kcells (fkv (floorL (treeL t) key))), .bool (floorL (treeL t) key).isSome]) ∧ Below w.heap.size w w' := by
  obtain ⟨v, c0, -, hr⟩ := h.facts
  have hgl : g < w.heap.size := by obtain ⟨_, h1, _⟩ := h; exact (Array.getElem?_eq_some_iff.1 h1).1
  have HR := Lib.hid hr
  have HS := Lib.hid ht.sub
  have HSO := Lib.hid hs
  obtain ⟨F, hF⟩ : ∃ F, F = floorL (treeL t) key := ⟨_, rfl⟩
  rw [← hF]
  have HF := Lib.hid hF
  clear h hr ht hs hF
  go_enter Tryd.func42, Tryd.ntmps42
  go_upto_region 2 with fail
  obtain ⟨w1, hw1⟩ : ∃ w1, w1 = (w.alloc (.cells #[.string ⟨#[]⟩, .string ⟨#[]⟩] 54)).alloc (.cells #[.string ⟨#[]⟩, .string ⟨#[]⟩] 54) := ⟨_, rfl⟩
  obtain ⟨g4, hg4⟩ : ∃ g4, g4 = w.heap.size := ⟨_, rfl⟩
  obtain ⟨g6, hg6⟩ : ∃ g6, g6 = g4 + 1 := ⟨_, rfl⟩
  have hb1 : Below w.heap.size w w1 := by rw [hw1]; exact ((Below.refl _ _).alloc (Nat.le_refl _) _).alloc (by simp) _
  have h4 : w1.heap[g4]? = some (.cells (kcells (fkv none)) 54 (0, 0)) := by rw [hw1, hg4]; exact heap_old (heap_new rfl)
  have h6 : w1.heap[g6]? = some (.cells (kcells (fkv none)) 54 (0, 0)) := by rw [hw1, hg6, hg4]; exact heap_new (by simp)
  have hz : w.heap.size ≤ g4 ∧ w.heap.size ≤ g6 ∧ g4 ≠ g6 := by omega
  rw [← hw1]
  rw [← hg4, ← hg6]
  have c01 : w1.cell? ⟨g, 0, none⟩ = some v := (hb1.cell (p := ⟨g, 0, none⟩) hgl).trans c0
  have HB1 := Lib.hid hb1
  have H4 := Lib.hid h4
  have H6 := Lib.hid h6
  have HZ := Lib.hid hz
  clear hw1 hg4 hg6 hb1 h4 h6 hz c0
  go_upto_region 3 with fail
  go_wp2_with fail
  go_loopg [7, 8, 9, 10] H (fun k u7 u8 u9 u10 wr => ∃ (s : Option BT) (x : Value) (f : Option KV), x = u8 ∧ u7 = .bool f.isSome ∧ RootAt w x s ∧ Sub s k ∧ Sorted (treeL s) ∧ F = (floorL (treeL s) key).or f ∧ Below w.heap.size w wr ∧ wr.heap[g4]? = some (.cells (kcells (fkv none)) 54 (0, 0)) ∧ wr.heap[g6]? = some (.cells (kcells (fkv f)) 54 (0, 0)))
  case atStart => exact ⟨t, v, none, rfl, rfl, HR.out, HS.out, HSO.out, by rw [HF.out]; cases floorL (treeL t) key <;> rfl, HB1.out, H4.out, H6.out⟩
  case round =>
    clear HB1 H4 H6 HR HS HSO HF c01
    obtain ⟨s, x, f, hx, rfl, hr, hs, hso, hF, hb, h4, h6⟩ := hrel
    subst hx
    have HF := Lib.hid hF
    have HB := Lib.hid hb
    have H4 := Lib.hid h4
    have H6 := Lib.hid h6
    rcases hs with ⟨rfl, rfl⟩ | ⟨b, rfl, hw⟩
    · have hx : x = .pointer none := hr
      subst hx
      have ld6 := run_loadPair (range_kv h6)
      clear hb hr hF h4 h6
      have p4 : PB wr g4 := ⟨_, H4.out⟩
      go_wp2_with fail
      refine bodyPost_ret (results_floor _ _ g4 _ _ f.isSome rfl rfl (setRow_heap _ _ _ _ _ _ H4.out)) rfl ⟨?_, ((Kept.of_below (fun _ => False) HB.out).setRow (fun h => by have := HZ.out; omega) _).below (Nat.le_refl _) (fun _ _ h => h)⟩
      have e : F = f := by rw [HF.out]; rfl
      rw [e]
      rfl
    · obtain ⟨g1, rfl, hn⟩ := hr
      cases gk with
      | zero => exact hw.elim
      | succ k =>
      have HN := Lib.hid hn
      have HSP := Lib.hid (hso : Sorted b.toL)
      have HWF := Lib.hid hw
      have HFI : Hid (∀ u, Below w.heap.size w u → Calls Tryd.prog 60 #[.pointer (some ⟨g1, 0, none⟩), .string key] u fun e w' => ∃ i : Nat, e = .returned (.tuple #[.int .i64 (i : Int), .bool (decide (∃ h : i < b.ps.length, b.ps[i].k = key))]) ∧ Place b.ps key i ∧ Below u.heap.size u w') := Lib.hid (fun u hu => find_any (hn.under hu) key (Sorted.ps hw hso) (by have := hw.1; omega))
      clear hn hso hw hb hF h4 h6
      go_upto_region 6 with (go_at_call 60; refine (HFI.out _ HB.out).mono ?_; rintro e w2 ⟨i, rfl, hpl, hb2⟩; have HPL := Lib.hid hpl; have HB2 := Lib.hid (HB.out.trans (hb2.mono HB.out.size)); have H42 := Lib.hid ((hb2.block _ (heap_lt H4.out)).trans H4.out); have H62 := Lib.hid ((hb2.block _ (heap_lt H6.out)).trans H6.out); clear hpl hb2)
      obtain ⟨a, n, c, b2, m, e, gs, -, c0, c1, hps, -, -, -⟩ := (HN.out.under HB2.out).facts
      have hpsl := hps.1
      have hnc : n ≤ c := hps.2.2.1
      have hnm : c ≤ 9223372036854775807 := hps.2.2.2.1
      have hpl := HPL.out
      have h4b := H42.out
      have h6b := H62.out
      have hw := HWF.out
      have hi8 : i ≤ 8 := by have := hw.1; have := hpl.1; omega
      have hi1 : (i : Int) ≤ 8 := by omega
      by_cases hfd : ∃ h : i < b.ps.length, b.ps[i].k = key
      · have hd1 : decide (∃ h : i < b.ps.length, b.ps[i].k = key) = true := decide_eq_true hfd
        rw [hd1]
        obtain ⟨hib, hik⟩ := hfd
        have hin : (i : Int) < (n : Int) := by omega
        obtain ⟨bb, off, -, hbb, rfl, hcell⟩ := hps.at (by omega)
        have hr := hcell i hib
        obtain ⟨kv, hkv⟩ : ∃ kv, kv = b.ps[i]'hib := ⟨_, rfl⟩
        rw [← hkv] at hr
        obtain ⟨ob, hob⟩ : ∃ ob, ob = off + i * 2 := ⟨_, rfl⟩
        rw [← hob] at hr
        have hob2 : off + i * 2 = ob := hob.symm
        have ld0 := run_loadPair hr
        have p4 : PB w2 g4 := ⟨_, h4b⟩
        have HFV : Hid (F = some kv) := Lib.hid (by
          rw [HF.out]
          have hl : b.ks = [] ∨ b.ks.length = b.ps.length + 1 := by
            rcases hw.2 with ⟨-, e1⟩ | ⟨-, e1, -⟩
            · exact .inl e1
            · exact .inr e1
          have := floor_found hl (by rw [← toL_eq]; exact HSP.out) hib
          rw [← toL_eq, hik] at this
          show (floorL b.toL key).or f = _
          rw [this, hkv]
          rfl)
        clear hcell hr hkv hob hps h4b h6b hpl hd1 hik hw
        go_wp2_with fail
        refine bodyPost_ret (results_floor _ _ g4 _ _ true rfl rfl (setRow_heap _ _ _ _ _ _ H42.out)) rfl ⟨?_, ((Kept.of_below (fun _ => False) HB2.out).setRow (fun h => by have := HZ.out; omega) _).below (Nat.le_refl _) (fun _ _ h => h)⟩
        rw [HFV.out]
        rfl
      · have hd1 : decide (∃ h : i < b.ps.length, b.ps[i].k = key) = false := decide_eq_false hfd
        rw [hd1]
        rcases hw.2 with ⟨e0, e1⟩ | ⟨e0, e1, e2⟩
        · subst e0
          have HE1 := Lib.hid e1
          have hfl : F = (if i = 0 then none else b.ps[i - 1]?).or f := by
            rw [HF.out]
            show (floorL b.toL key).or f = _
            rw [toL_eq, e1, toLs_leaf, floor_leaf (Sorted.ps hw HSP.out) hpl hfd]
          clear hw e1 hd1
          by_cases hi0 : i = 0
          · have HFF : Hid (F = (floorL (treeL none) key).or f) := Lib.hid (by rw [hfl, if_pos hi0]; rfl)
            clear hfl hfd
            subst hi0
            have HB3 := HB2
            have H63 := Lib.hid h6b
            have H43 := Lib.hid h4b
            clear hps h4b h6b hpl
            go_upto_region 10 with fail
            obtain ⟨w3, hw3⟩ : ∃ w3, w3 = w2 := ⟨_, rfl⟩
            rw [← hw3] at HB3 H63 H43 ⊢
            clear hw3
            have HK := Lib.hid (kid_leaf (HN.out.under HB3.out) (by rw [HE1.out]; rfl) (0 : Int))
            go_wp2_with (go_at_call 61; refine HK.out.mono ?_; rintro e w4 ⟨rfl, rfl⟩)
            go_roundg 0
            case measure => omega
            case rel => exact ⟨none, _, f, rfl, by first | rfl | simp, rfl, .inl ⟨rfl, rfl⟩, List.Pairwise.nil, HFF.out, HB3.out, H43.out, H63.out⟩
          · have hfl2 : F = (b.ps[i - 1]?).or f := by rw [hfl, if_neg hi0]
            have HF3 := Lib.hid hfl2
            clear hfl hfl2 hfd
            have hi0 : (0 : Int) < (i : Int) := by omega
            have him : i - 1 < b.ps.length := by have := hpl.1; omega
            have hwm : IntKind.i64.wrap ((i : Int) - 1) = ((i - 1 : Nat) : Int) := by rw [i64_id _ (by omega) (by omega)]; omega
            obtain ⟨j, hj⟩ : ∃ j, j = i - 1 := ⟨_, rfl⟩
            rw [← hj] at him hwm
            have hjn : (j : Int) < (n : Int) := by omega
            obtain ⟨bb, off, -, hbb, rfl, hcell⟩ := hps.at (by omega)
            have hr := hcell j him
            obtain ⟨kv, hkv⟩ : ∃ kv, kv = b.ps[j]'him := ⟨_, rfl⟩
            rw [← hkv] at hr
            obtain ⟨ob, hob⟩ : ∃ ob, ob = off + j * 2 := ⟨_, rfl⟩
            rw [← hob] at hr
            have hob2 : off + j * 2 = ob := hob.symm
            have ld0 := run_loadPair hr
            have HKV := Lib.hid hkv
            have HJ := Lib.hid hj
            have HFF : Hid (F = (floorL (treeL none) key).or (some kv)) := Lib.hid (by rw [HF3.out, ← HJ.out, List.getElem?_eq_getElem (by have := HPL.out.1; omega), ← HKV.out]; rfl)
            have p6 : PB w2 g6 := ⟨_, h6b⟩
            have HB3 : Hid (Below w.heap.size w (w2.setRow g6 #[.string kv.k, .string kv.v])) := Lib.hid (((Kept.of_below (fun _ => False) HB2.out).setRow (fun h => by have := HZ.out; omega) _).below (Nat.le_refl _) (fun _ _ h => h))
            have H63 : Hid ((w2.setRow g6 #[.string kv.k, .string kv.v]).heap[g6]? = some (.cells (kcells (fkv (some kv))) 54 (0, 0))) := Lib.hid (setRow_heap _ _ _ _ _ _ h6b)
            have H43 : Hid ((w2.setRow g6 #[.string kv.k, .string kv.v]).heap[g4]? = some (.cells (kcells (fkv none)) 54 (0, 0))) := Lib.hid ((setRow_other _ _ _ _ (by have := HZ.out; omega)).trans h4b)
            clear hcell hr hkv hob hj hps h4b h6b hpl
            go_upto_region 10 with fail
            obtain ⟨w3, hw3⟩ : ∃ w3, w3 = w2.setRow g6 #[.string kv.k, .string kv.v] := ⟨_, rfl⟩
            rw [← hw3] at HB3 H63 H43 ⊢
            clear hw3 ld0 p6
            have HK := Lib.hid (kid_leaf (HN.out.under HB3.out) (by rw [HE1.out]; rfl) (i : Int))
            go_wp2_with (go_at_call 61; refine HK.out.mono ?_; rintro e w4 ⟨rfl, rfl⟩)
            go_roundg 0
            case measure => omega
            case rel => exact ⟨none, _, some kv, rfl, by first | rfl | simp, rfl, .inl ⟨rfl, rfl⟩, List.Pairwise.nil, HFF.out, HB3.out, H43.out, H63.out⟩
        · have hik : i < b.ks.length := by have := hpl.1; omega
          have hfl := floor_inner e1 (by rw [← toL_eq]; exact HSP.out) hpl hik hfd
          have HSK := Lib.hid hfl.2
          have HWK := Lib.hid (e2 _ (List.getElem_mem hik)).1
          have hfl : F = (floorL (b.ks[i]'hik).toL key).or ((if i = 0 then none else b.ps[i - 1]?).or f) := by
            rw [HF.out]
            show (floorL b.toL key).or f = _
            rw [toL_eq, hfl.1, Option.or_assoc]
          clear hw e1 e2 hd1 e0
          by_cases hi0 : i = 0
          · have hfl2 : F = (floorL (b.ks[i]'hik).toL key).or f := by rw [hfl, if_pos hi0]; rfl
            have HFF0 := Lib.hid hfl2
            clear hfl hfl2 hfd
            subst hi0
            have HFF : Hid (F = (floorL (treeL (some (b.ks[0]'hik))) key).or f) := Lib.hid HFF0.out
            have HB3 := HB2
            have H63 := Lib.hid h6b
            have H43 := Lib.hid h4b
            clear hps h4b h6b hpl
            go_upto_region 10 with fail
            obtain ⟨w3, hw3⟩ : ∃ w3, w3 = w2 := ⟨_, rfl⟩
            rw [← hw3] at HB3 H63 H43 ⊢
            clear hw3
            have HK := Lib.hid (kid_under HN.out HB3.out 0 hik)
            go_wp2_with (go_at_call 61; refine HK.out.mono ?_; rintro e w4 ⟨gq, rfl, hnq, rfl⟩; have HNQ := Lib.hid hnq; clear hnq)
            go_roundg k
            case measure => omega
            case rel => exact ⟨some (b.ks[0]'hik), _, f, rfl, by first | rfl | simp, ⟨gq, rfl, HNQ.out⟩, .inr ⟨_, rfl, HWK.out⟩, HSK.out, HFF.out, HB3.out, H43.out, H63.out⟩
          · have hfl2 : F = (floorL (b.ks[i]'hik).toL key).or ((b.ps[i - 1]?).or f) := by rw [hfl, if_neg hi0]
            have HF3 := Lib.hid hfl2
            clear hfl hfl2 hfd
            have hi0 : (0 : Int) < (i : Int) := by omega
            have him : i - 1 < b.ps.length := by have := hpl.1; omega
            have hwm : IntKind.i64.wrap ((i : Int) - 1) = ((i - 1 : Nat) : Int) := by rw [i64_id _ (by omega) (by omega)]; omega
            obtain ⟨j, hj⟩ : ∃ j, j = i - 1 := ⟨_, rfl⟩
            rw [← hj] at him hwm
            have hjn : (j : Int) < (n : Int) := by omega
            obtain ⟨bb, off, -, hbb, rfl, hcell⟩ := hps.at (by omega)
            have hr := hcell j him
            obtain ⟨kv, hkv⟩ : ∃ kv, kv = b.ps[j]'him := ⟨_, rfl⟩
            rw [← hkv] at hr
            obtain ⟨ob, hob⟩ : ∃ ob, ob = off + j * 2 := ⟨_, rfl⟩
            rw [← hob] at hr
            have hob2 : off + j * 2 = ob := hob.symm
            have ld0 := run_loadPair hr
            have HKV := Lib.hid hkv
            have HJ := Lib.hid hj
            have HFF : Hid (F = (floorL (treeL (some (b.ks[i]'hik))) key).or (some kv)) := Lib.hid (by rw [HF3.out, ← HJ.out, List.getElem?_eq_getElem (by have := HPL.out.1; omega), ← HKV.out]; rfl)
            have p6 : PB w2 g6 := ⟨_, h6b⟩
            have HB3 : Hid (Below w.heap.size w (w2.setRow g6 #[.string kv.k, .string kv.v])) := Lib.hid (((Kept.of_below (fun _ => False) HB2.out).setRow (fun h => by have := HZ.out; omega) _).below (Nat.le_refl _) (fun _ _ h => h))
            have H63 : Hid ((w2.setRow g6 #[.string kv.k, .string kv.v]).heap[g6]? = some (.cells (kcells (fkv (some kv))) 54 (0, 0))) := Lib.hid (setRow_heap _ _ _ _ _ _ h6b)
            have H43 : Hid ((w2.setRow g6 #[.string kv.k, .string kv.v]).heap[g4]? = some (.cells (kcells (fkv none)) 54 (0, 0))) := Lib.hid ((setRow_other _ _ _ _ (by have := HZ.out; omega)).trans h4b)
            clear hcell hr hkv hob hj hps h4b h6b hpl
            go_upto_region 10 with fail
            obtain ⟨w3, hw3⟩ : ∃ w3, w3 = w2.setRow g6 #[.string kv.k, .string kv.v] := ⟨_, rfl⟩
            rw [← hw3] at HB3 H63 H43 ⊢
            clear hw3 ld0 p6
            have HK := Lib.hid (kid_under HN.out HB3.out i hik)
            go_wp2_with (go_at_call 61; refine HK.out.mono ?_; rintro e w4 ⟨gq, rfl, hnq, rfl⟩; have HNQ := Lib.hid hnq; clear hnq)
            go_roundg k
            case measure => omega
            case rel => exact ⟨some (b.ks[i]'hik), _, some kv, rfl, by first | rfl | simp, ⟨gq, rfl, HNQ.out⟩, .inr ⟨_, rfl, HWK.out⟩, HSK.out, HFF.out, HB3.out, H43.out, H63.out⟩
end Go.Proofs.YtcoijmggfkjcjaaDoor
namespace Go.Proofs.YtcoijmggfkjcjaaDoor
open Go.RowKit
set_option linter.unusedSimpArgs false
set_option linter.unusedVariables false
attribute [local go_sem ↓] exec_loadPair exec_storePair exec_at_zeroP exec_at_succP Go.wp_at_zero Go.wp_at_succ
attribute [local go_sem] run_storePair
theorem str_beq (a b : ByteArray) : (a.toList == b.toList) = decide (a = b) := by
  rw [ByteArray.toList_eq, ByteArray.toList_eq, Bool.eq_iff_iff]
  simp only [beq_iff_eq, decide_eq_true_eq]
  constructor
  · intro h
    obtain ⟨⟨la⟩⟩ := a
    obtain ⟨⟨lb⟩⟩ := b
    simp only at h
    rw [h]
  · intro h; rw [h]
/-- the value of a key, off the greatest pair up to it -/
def gotF (F : Option KV) (key : ByteArray) : Option ByteArray := match F with
  | some p => if p.k = key then some p.v else none
  | none => none
def strO : Option ByteArray → ByteArray
  | some s => s
  | none => emptyS
set_option maxRecDepth 100000 in
set_option maxHeartbeats 1000000 in
theorem get_any {w : World} {g : Nat} {t : Option BT} {H : Nat} (h : Tr w g t) (ht : TOk t H) (hs : Sorted (treeL t)) (key : ByteArray) :
    Calls Tryd.prog 56 #[.pointer (some ⟨g, 0, none⟩), .string key] w fun e w' => e = .returned (.tuple #[.string (strO (gotF (floorL (treeL t) key) key)), .bool (gotF (floorL (treeL t) key) key).isSome]) ∧ Below w.heap.size w w' := by
  have HC := Lib.hid (floor_any h ht hs key)
  obtain ⟨F, hF⟩ : ∃ F, F = floorL (treeL t) key := ⟨_, rfl⟩
  rw [← hF] at HC ⊢
  clear hF h ht hs
  cases F with
  | none =>
    have HC2 : Hid (Calls Tryd.prog 42 #[.pointer (some ⟨g, 0, none⟩), .string key] w fun e w' => e = .returned (.tuple #[.agg #[.string ⟨#[]⟩, .string ⟨#[]⟩], .bool false]) ∧ Below w.heap.size w w') := HC
    clear HC
    go_enter Tryd.func56, Tryd.ntmps56
    go_wp2_with (first
      | (go_at_call 42; refine HC2.out.mono ?_; rintro e w2 ⟨rfl, hb⟩; have p6 : PB (w2.alloc (.cells #[.string ⟨#[]⟩, .string ⟨#[]⟩] 54)) w2.heap.size := ⟨⟨⟨#[]⟩, ⟨#[]⟩⟩, heap_new rfl⟩; have HB := Lib.hid hb; clear hb))
    go_ret2
    exact ⟨rfl, ((((Kept.of_below (fun _ => False) HB.out).alloc _).setRow (fun h => by have := HB.out.size; omega) _).below (Nat.le_refl _) (fun _ _ h => h))⟩
  | some p =>
    obtain ⟨pk, pv⟩ := p
    have HC2 : Hid (Calls Tryd.prog 42 #[.pointer (some ⟨g, 0, none⟩), .string key] w fun e w' => e = .returned (.tuple #[.agg #[.string pk, .string pv], .bool true]) ∧ Below w.heap.size w w') := HC
    clear HC
    go_enter Tryd.func56, Tryd.ntmps56
    go_upto_region 2 with (first
      | (go_at_call 42; refine HC2.out.mono ?_; rintro e w2 ⟨rfl, hb⟩; have p6 : PB (w2.alloc (.cells #[.string ⟨#[]⟩, .string ⟨#[]⟩] 54)) w2.heap.size := ⟨⟨⟨#[]⟩, ⟨#[]⟩⟩, heap_new rfl⟩; have HB := Lib.hid hb; clear hb))
    obtain ⟨w3, hw3⟩ : ∃ w3, w3 = (w2.alloc (.cells #[.string ⟨#[]⟩, .string ⟨#[]⟩] 54)).setRow w2.heap.size #[.string pk, .string pv] := ⟨_, rfl⟩
    obtain ⟨g6, hg6⟩ : ∃ g6, g6 = w2.heap.size := ⟨_, rfl⟩
    have hrow : w3.heap[g6]? = some (.cells #[.string pk, .string pv] 54 (0, 0)) := by rw [hw3, hg6]; exact setRow_heap _ _ _ _ _ _ (heap_new rfl)
    have hb3 : Below w.heap.size w w3 := by
      rw [hw3]
      exact ((((Kept.of_below (fun _ => False) HB.out).alloc _).setRow (fun h => by have := HB.out.size; omega) _).below (Nat.le_refl _) (fun _ _ h => h))
    have c0 : w3.cell? ⟨g6, 0, none⟩ = some (.string pk) := cell_of_row w3 g6 0 _ _ _ hrow
    have c1 : w3.cell? ⟨g6, 1, none⟩ = some (.string pv) := cell_of_row w3 g6 1 _ _ _ hrow
    rw [← hw3, ← hg6]
    have HB3 := Lib.hid hb3
    clear hw3 hg6 hrow hb3 p6
    by_cases hk : pk = key
    · subst hk
      go_wp2_with fail
      go_ret2
      exact ⟨by simp [gotF, strO], HB3.out⟩
    · have hk2 : (pk.toList == key.toList) = false := by rw [str_beq]; exact decide_eq_false hk
      go_wp2_with fail
      go_ret2
      exact ⟨by simp [gotF, strO, hk, emptyS], HB3.out⟩
end Go.Proofs.YtcoijmggfkjcjaaDoor

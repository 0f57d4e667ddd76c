/-
  AddMonths, the program's and the reference's (written by gen_IF.py).
-/
import Derived.Test.YtcoijmggfkjcjaaDoorI5
import Derived.StillTailTactics
namespace Go.Proofs.YtcoijmggfkjcjaaDoor
open Go.RowKit
set_option linter.unusedSimpArgs false
set_option linter.unusedVariables false
attribute [local go_sem ↓] exec_storeDate
attribute [local go_sem] run_storeDate
def amM (n k : Int) : Int := 12 * (yearN n - 1) + monthN n - 1 + k
def amY (n k : Int) : Int := amM n k / 12 + 1
def amMo (n k : Int) : Int := amM n k % 12 + 1
def amD (n k : Int) : Int := min (mdayN n) (lenD (amY n k) (amMo n k))
def amE (n k : Int) : Int := if k < -200000 ∨ 200000 < k then 2 else if okN n ∧ 0 ≤ amM n k ∧ amY n k ≤ 9999 then 0 else 5
def amR (n k : Int) : Int := if amE n k = 0 then dayN (amY n k) (amMo n k) (amD n k) else 0
theorem am_lim {n k : Int} (h : k < -200000 ∨ 200000 < k) : amR n k = 0 ∧ amE n k = 2 := by
  have e : amE n k = 2 := by unfold amE; rw [if_pos h]
  exact ⟨by unfold amR; rw [e]; rfl, e⟩
theorem am_bad {n k : Int} (h1 : -200000 ≤ k) (h2 : k ≤ 200000) (h : ¬ okN n ∨ amM n k < 0 ∨ 9999 < amY n k) : amR n k = 0 ∧ amE n k = 5 := by
  have e : amE n k = 5 := by
    unfold amE
    rw [if_neg (by omega), if_neg]
    rintro ⟨a, b, c⟩
    rcases h with h | h | h
    · exact h a
    · omega
    · omega
  exact ⟨by unfold amR; rw [e]; rfl, e⟩
theorem am_good {n k : Int} (h1 : -200000 ≤ k) (h2 : k ≤ 200000) (h : okN n) (hm : 0 ≤ amM n k) (hy : amY n k ≤ 9999) : amR n k = dayN (amY n k) (amMo n k) (amD n k) ∧ amE n k = 0 ∧ validD (amY n k) (amMo n k) (amD n k) := by
  have e : amE n k = 0 := by
    unfold amE
    rw [if_neg (by omega), if_pos ⟨h, hm, hy⟩]
  have hv := valid_sm (of_ok n h.1 h.2).1
  have hl := len_pos (amY n k) (amMo n k) (by unfold amMo; omega) (by unfold amMo; omega)
  refine ⟨by unfold amR; rw [if_pos e], e, by unfold amY; omega, hy, ?_, ?_⟩
  · unfold amD; omega
  · unfold amD; omega
set_option maxRecDepth 100000 in
set_option maxHeartbeats 2000000 in
theorem addMonths_any (n k : Int) (w : World) (hT : Tabs w) : Calls Tryd.prog 34 #[.int .i64 n, .int .i64 k] w fun e w' => e = .returned (.tuple #[.int .i64 (amR n k), .int .i64 (amE n k)]) ∧ Below w.heap.size w w' := by
  by_cases h1 : k < -200000
  · have HR : Hid (amR n k = 0 ∧ amE n k = 2) := Lib.hid (am_lim (.inl h1))
    clear hT
    go_enter Tryd.func34, Tryd.ntmps34
    go_wp2_with fail
    go_ret2
    rw [HR.out.1, HR.out.2]
    exact ⟨rfl, Below.refl _ _⟩
  by_cases h2 : 200000 < k
  · have HR : Hid (amR n k = 0 ∧ amE n k = 2) := Lib.hid (am_lim (.inr h2))
    clear hT
    go_enter Tryd.func34, Tryd.ntmps34
    go_wp2_with fail
    go_ret2
    rw [HR.out.1, HR.out.2]
    exact ⟨rfl, Below.refl _ _⟩
  have HO := Lib.hid (of_any n w hT)
  by_cases hn : okN n
  rotate_left
  · obtain ⟨e1, e2, e3, e4⟩ := of_no hn
    rw [e1, e2, e3, e4] at HO
    have HR : Hid (amR n k = 0 ∧ amE n k = 5) := Lib.hid (am_bad (by omega) (by omega) (.inl hn))
    clear hn e1 e2 e3 e4 hT
    go_enter Tryd.func34, Tryd.ntmps34
    go_wp2_with (go_at_call 22; refine HO.out.mono ?_; rintro e w2 ⟨rfl, hb⟩; have p6 : DB (w2.alloc (.cells #[.int .i64 0, .int .i64 0, .int .i64 0] 23)) w2.heap.size := ⟨0, 0, 0, heap_new0⟩; have HB := Lib.hid hb; clear hb)
    go_ret2
    rw [HR.out.1, HR.out.2]
    exact ⟨rfl, ((((Kept.of_below (fun _ => False) HB.out).alloc _).setRow (fun h => by have := HB.out.size; omega) _).below (Nat.le_refl _) (fun _ _ h => h))⟩
  have HOK := Lib.hid hn
  obtain ⟨e1, e2, e3, e4⟩ := of_yes hn
  have hv := (of_ok n hn.1 hn.2).1
  have hs := valid_sm hv
  rw [e1, e2, e3, e4] at HO
  obtain ⟨a, ha⟩ : ∃ a, a = yearN n := ⟨_, rfl⟩
  obtain ⟨b, hb⟩ : ∃ b, b = monthN n := ⟨_, rfl⟩
  obtain ⟨c, hc⟩ : ∃ c, c = mdayN n := ⟨_, rfl⟩
  rw [← ha, ← hb, ← hc] at HO hs
  have hM : amM n k = 12 * (a - 1) + b - 1 + k := by unfold amM; rw [ha, hb]
  obtain ⟨M, hMM⟩ : ∃ M, M = 12 * (a - 1) + b - 1 + k := ⟨_, rfl⟩
  rw [← hMM] at hM
  have hMb : -400000 ≤ M ∧ M ≤ 400000 := by omega
  have i1 : IntKind.i64.wrap (a - 1) = a - 1 := i64_id _ (by omega) (by omega)
  have i2 : IntKind.i64.wrap (12 * (a - 1)) = 12 * (a - 1) := i64_id _ (by omega) (by omega)
  have i3 : IntKind.i64.wrap (12 * (a - 1) + b) = 12 * (a - 1) + b := i64_id _ (by omega) (by omega)
  have i4 : IntKind.i64.wrap (12 * (a - 1) + b - 1) = 12 * (a - 1) + b - 1 := i64_id _ (by omega) (by omega)
  have i5 : IntKind.i64.wrap (12 * (a - 1) + b - 1 + k) = M := by rw [← hMM]; exact i64_id _ (by omega) (by omega)
  have HMM := Lib.hid hMM
  have HM := Lib.hid hM
  have HC := Lib.hid hc
  have HT := Lib.hid hT
  clear hn e1 e2 e3 e4 hv ha hb hc hM hMM hT
  go_enter Tryd.func34, Tryd.ntmps34
  go_upto_region 4 with (go_at_call 22; refine HO.out.mono ?_; rintro e w2 ⟨rfl, hb⟩; have p6 : DB (w2.alloc (.cells #[.int .i64 0, .int .i64 0, .int .i64 0] 23)) w2.heap.size := ⟨0, 0, 0, heap_new0⟩; have HB := Lib.hid hb; clear hb)
  obtain ⟨w3, hw3⟩ : ∃ w3, w3 = (w2.alloc (.cells #[.int .i64 0, .int .i64 0, .int .i64 0] 23)).setRow w2.heap.size #[.int .i64 a, .int .i64 b, .int .i64 c] := ⟨_, rfl⟩
  obtain ⟨g6, hg6⟩ : ∃ g6, g6 = w2.heap.size := ⟨_, rfl⟩
  have hrow : w3.heap[g6]? = some (.cells (dc a b c) 23 (0, 0)) := by rw [hw3, hg6]; exact setRow_heap _ _ _ _ _ _ heap_new0
  have hb3 : Below w.heap.size w w3 := by rw [hw3]; exact ((((Kept.of_below (fun _ => False) HB.out).alloc _).setRow (fun h => by have := HB.out.size; omega) _).below (Nat.le_refl _) (fun _ _ h => h))
  have HG : Hid (w.heap.size ≤ g6) := Lib.hid (by rw [hg6]; exact HB.out.size)
  have c0 : w3.cell? ⟨g6, 0, none⟩ = some (.int .i64 a) := cell_of_row w3 g6 0 _ _ _ hrow
  have c1 : w3.cell? ⟨g6, 1, none⟩ = some (.int .i64 b) := cell_of_row w3 g6 1 _ _ _ hrow
  have c2 : w3.cell? ⟨g6, 2, none⟩ = some (.int .i64 c) := cell_of_row w3 g6 2 _ _ _ hrow
  have f0 : w3.frozen? ⟨g6, 0, none⟩ = false := frozen_of_row w3 g6 0 _ _ hrow
  have f1 : w3.frozen? ⟨g6, 1, none⟩ = false := frozen_of_row w3 g6 1 _ _ hrow
  have HROW := Lib.hid hrow
  have HB3 := Lib.hid hb3
  rw [← hw3]
  rw [← hg6]
  clear hw3 hg6 hrow hb3 p6 HB
  by_cases hneg : M < 0
  · have HR : Hid (amR n k = 0 ∧ amE n k = 5) := Lib.hid (am_bad (by omega) (by omega) (.inr (.inl (by rw [HM.out]; exact hneg))))
    go_wp2_with fail
    go_ret2
    rw [HR.out.1, HR.out.2]
    exact ⟨rfl, HB3.out⟩
  obtain ⟨q, hq⟩ : ∃ q, M / 12 = q := ⟨_, rfl⟩
  obtain ⟨r, hr⟩ : ∃ r, M % 12 = r := ⟨_, rfl⟩
  have hM0 : 0 ≤ M := by omega
  have hqb : 0 ≤ q ∧ q ≤ 400000 := by omega
  have hrb : 0 ≤ r ∧ r ≤ 11 := by omega
  obtain ⟨Y, hY⟩ : ∃ Y, Y = 1 + q := ⟨_, rfl⟩
  obtain ⟨Mo, hMo⟩ : ∃ Mo, Mo = 1 + r := ⟨_, rfl⟩
  have i6 : IntKind.i64.wrap (1 + q) = Y := by rw [hY]; exact i64_id _ (by omega) (by omega)
  have i7 : IntKind.i64.wrap (1 + r) = Mo := by rw [hMo]; exact i64_id _ (by omega) (by omega)
  have HY : Hid (amY n k = Y) := Lib.hid (by unfold amY; rw [HM.out]; omega)
  have HMO : Hid (amMo n k = Mo) := Lib.hid (by unfold amMo; rw [HM.out]; omega)
  have HYB : Hid (1 ≤ Y ∧ Y ≤ 400001 ∧ 1 ≤ Mo ∧ Mo ≤ 12) := Lib.hid (by omega)
  clear hY hMo
  go_upto_region 10 with fail
  obtain ⟨w4, hw4⟩ : ∃ w4, w4 = (w3.setCell ⟨g6, 0, none⟩ (.int .i64 Y)).setCell ⟨g6, 1, none⟩ (.int .i64 Mo) := ⟨_, rfl⟩
  have hrow : w4.heap[g6]? = some (.cells (dc Y Mo c) 23 (0, 0)) := by rw [hw4]; exact heap_setCell_same _ _ _ _ _ _ (heap_setCell_same _ _ _ _ _ _ HROW.out)
  have hb4 : Below w.heap.size w w4 := by rw [hw4]; exact ((((Kept.of_below (fun _ => False) HB3.out).setCell (fun h => absurd (show g6 < w.heap.size from h) (by have := HG.out; omega)) _).setCell (fun h => absurd (show g6 < w.heap.size from h) (by have := HG.out; omega)) _).below (Nat.le_refl _) (fun _ _ h => h))
  rw [← hw4]
  clear hw4 c0 c1 c2 f0 f1
  have c0 : w4.cell? ⟨g6, 0, none⟩ = some (.int .i64 Y) := cell_of_row w4 g6 0 _ _ _ hrow
  have c1 : w4.cell? ⟨g6, 1, none⟩ = some (.int .i64 Mo) := cell_of_row w4 g6 1 _ _ _ hrow
  have c2 : w4.cell? ⟨g6, 2, none⟩ = some (.int .i64 c) := cell_of_row w4 g6 2 _ _ _ hrow
  have f2 : w4.frozen? ⟨g6, 2, none⟩ = false := frozen_of_row w4 g6 2 _ _ hrow
  have HROW4 := Lib.hid hrow
  have HB4 := Lib.hid hb4
  clear hrow hb4 HROW HB3
  obtain ⟨L, hL⟩ : ∃ L, L = lenD Y Mo := ⟨_, rfl⟩
  have HLEN : Hid (Calls Tryd.prog 30 #[.int .i64 Y, .int .i64 Mo] w4.drew fun e w' => e = .returned (.int .i64 L) ∧ w' = w4.drew) := Lib.hid (by rw [hL]; exact (length_any Y Mo w4.drew (HT.out.below HB4.out.drew)).mono fun e w' h => ⟨h.1, h.2.symm⟩)
  obtain ⟨D, hD⟩ : ∃ D, D = min c L := ⟨_, rfl⟩
  have HDD : Hid (D = min c (lenD Y Mo)) := Lib.hid (by rw [hD, hL])
  have hmin : (if L < c then L else c) = D := by rw [hD, Int.min_def]; split <;> split <;> omega
  clear hL hD
  go_still_tail 9, (by kernel_rfl)
  still_call (HLEN.out)
  repeat still_step
  refine wpStill_nil ?_
  change wpList _ _ _ _ _ w4.drew
  obtain ⟨w5, hw5⟩ : ∃ w5, w5 = (w4.setCell ⟨g6, 2, none⟩ (.int .i64 D)).drew := ⟨_, rfl⟩
  have hrow : w5.heap[g6]? = some (.cells (dc Y Mo D) 23 (0, 0)) := by rw [hw5]; exact heap_setCell_same _ _ _ _ _ _ HROW4.out
  have hb5 : Below w.heap.size w w5 := by rw [hw5]; exact (((Kept.of_below (fun _ => False) HB4.out).setCell (fun h => absurd (show g6 < w.heap.size from h) (by have := HG.out; omega)) _).below (Nat.le_refl _) (fun _ _ h => h)).drew
  go_upto_region 11 with fail
  rw [← hw5]
  have d0 : w5.cell? ⟨g6, 0, none⟩ = some (.int .i64 Y) := cell_of_row w5 g6 0 _ _ _ hrow
  have d1 : w5.cell? ⟨g6, 1, none⟩ = some (.int .i64 Mo) := cell_of_row w5 g6 1 _ _ _ hrow
  have d2 : w5.cell? ⟨g6, 2, none⟩ = some (.int .i64 D) := cell_of_row w5 g6 2 _ _ _ hrow
  have HB5 := Lib.hid hb5
  have HAD : Hid (amD n k = D) := Lib.hid (by unfold amD; rw [HY.out, HMO.out, HDD.out, HC.out])
  clear hw5 hrow hb5 HROW4 hmin c0 c1 c2 f2
  have HDAY := Lib.hid (day_any Y Mo D w5 (HT.out.below HB5.out))
  have HR : Hid (amR n k = dayR Y Mo D ∧ amE n k = chk Y Mo D) := Lib.hid (by
    by_cases hy : Y ≤ 9999
    · obtain ⟨q1, q2, q3⟩ := am_good (n := n) (k := k) (by omega) (by omega) HOK.out (by rw [HM.out]; exact hM0) (by rw [HY.out]; exact hy)
      rw [HY.out, HMO.out, HAD.out] at q1 q3
      rw [q1, q2, chk_ok q3]
      unfold dayR
      rw [if_pos q3]
      exact ⟨rfl, rfl⟩
    · obtain ⟨q1, q2⟩ := am_bad (n := n) (k := k) (by omega) (by omega) (.inr (.inr (by rw [HY.out]; omega)))
      have hnv : ¬ validD Y Mo D := fun h => hy h.2.1
      rw [q1, q2, chk_no hnv]
      unfold dayR
      rw [if_neg hnv]
      exact ⟨rfl, rfl⟩)
  go_wp2_with (go_at_call 16; refine HDAY.out.mono ?_; rintro e w6 ⟨rfl, hb⟩; have HB6 := Lib.hid hb; clear hb)
  go_ret2
  rw [HR.out.1, HR.out.2]
  exact ⟨rfl, HB5.out.trans (HB6.out.mono HB5.out.size)⟩
theorem floor_any12 (m : Int) (w : World) (h1 : -1000000 ≤ m) (h2 : m ≤ 1000000) : Calls Tryd.prog 52 #[.int .i64 m, .int .i64 12] w fun e w' => e = .returned (.int .i64 (m / 12)) ∧ w = w' := by
  by_cases hm : m < 0
  · obtain ⟨p, hp⟩ : ∃ p, p = -m := ⟨_, rfl⟩
    have e : m = -p := by omega
    have t1 : m.tdiv 12 = -(p / 12) := by rw [e, Int.neg_tdiv, Int.tdiv_eq_ediv_of_nonneg (by omega)]
    have t2 : m.tmod 12 = -(p % 12) := by rw [e, Int.neg_tmod, Int.tmod_eq_emod_of_nonneg (by omega)]
    obtain ⟨q, hq⟩ : ∃ q, q = -(p / 12) := ⟨_, rfl⟩
    obtain ⟨r, hr⟩ : ∃ r, r = -(p % 12) := ⟨_, rfl⟩
    rw [← hq] at t1
    rw [← hr] at t2
    have i1 : IntKind.i64.wrap q = q := i64_id _ (by omega) (by omega)
    have i2 : IntKind.i64.wrap r = r := i64_id _ (by omega) (by omega)
    by_cases hr0 : r < 0
    · have HF : Hid (m / 12 = q - 1) := Lib.hid (by omega)
      have i3 : IntKind.i64.wrap (q - 1) = q - 1 := i64_id _ (by omega) (by omega)
      clear hp e hq hr
      go_enter Tryd.func52, Tryd.ntmps52
      go_wp2
      go_ret
      exact ⟨ret_intD HF.out.symm, rfl⟩
    · have HF : Hid (m / 12 = q) := Lib.hid (by omega)
      clear hp e hq hr
      go_enter Tryd.func52, Tryd.ntmps52
      go_wp2
      go_ret
      exact ⟨ret_intD HF.out.symm, rfl⟩
  · have h0 : 0 ≤ m := by omega
    obtain ⟨q, hq⟩ : ∃ q, m / 12 = q := ⟨_, rfl⟩
    obtain ⟨r, hr⟩ : ∃ r, m % 12 = r := ⟨_, rfl⟩
    have hr0 : 0 ≤ r := by omega
    have HQ := Lib.hid hq
    go_enter Tryd.func52, Tryd.ntmps52
    go_wp2
    go_ret
    exact ⟨ret_intD (by have := HQ.out; omega), rfl⟩
set_option maxRecDepth 100000 in
set_option maxHeartbeats 2000000 in
theorem refAddMonths_any (n k : Int) (w : World) (hT : Tabs w) : Calls Tryd.prog 35 #[.int .i64 n, .int .i64 k] w fun e w' => e = .returned (.tuple #[.int .i64 (amR n k), .int .i64 (amE n k)]) ∧ Below w.heap.size w w' := by
  by_cases h1 : k < -200000
  · have HR : Hid (amR n k = 0 ∧ amE n k = 2) := Lib.hid (am_lim (.inl h1))
    clear hT
    go_enter Tryd.func35, Tryd.ntmps35
    go_wp2_with fail
    go_ret2
    rw [HR.out.1, HR.out.2]
    exact ⟨rfl, Below.refl _ _⟩
  by_cases h2 : 200000 < k
  · have HR : Hid (amR n k = 0 ∧ amE n k = 2) := Lib.hid (am_lim (.inr h2))
    clear hT
    go_enter Tryd.func35, Tryd.ntmps35
    go_wp2_with fail
    go_ret2
    rw [HR.out.1, HR.out.2]
    exact ⟨rfl, Below.refl _ _⟩
  have HO := Lib.hid (refOf_any n w hT)
  by_cases hn : okN n
  rotate_left
  · obtain ⟨e1, e2, e3, e4⟩ := of_no hn
    rw [e1, e2, e3, e4] at HO
    have HR : Hid (amR n k = 0 ∧ amE n k = 5) := Lib.hid (am_bad (by omega) (by omega) (.inl hn))
    clear hn e1 e2 e3 e4 hT
    go_enter Tryd.func35, Tryd.ntmps35
    go_wp2_with (go_at_call 23; refine HO.out.mono ?_; rintro e w2 ⟨rfl, hb⟩; have p6 : DB (w2.alloc (.cells #[.int .i64 0, .int .i64 0, .int .i64 0] 23)) w2.heap.size := ⟨0, 0, 0, heap_new0⟩; have HB := Lib.hid hb; clear hb)
    go_ret2
    rw [HR.out.1, HR.out.2]
    exact ⟨rfl, ((((Kept.of_below (fun _ => False) HB.out).alloc _).setRow (fun h => by have := HB.out.size; omega) _).below (Nat.le_refl _) (fun _ _ h => h))⟩
  have HOK := Lib.hid hn
  obtain ⟨e1, e2, e3, e4⟩ := of_yes hn
  have hv := (of_ok n hn.1 hn.2).1
  have hs := valid_sm hv
  rw [e1, e2, e3, e4] at HO
  obtain ⟨a, ha⟩ : ∃ a, a = yearN n := ⟨_, rfl⟩
  obtain ⟨b, hb⟩ : ∃ b, b = monthN n := ⟨_, rfl⟩
  obtain ⟨c, hc⟩ : ∃ c, c = mdayN n := ⟨_, rfl⟩
  rw [← ha, ← hb, ← hc] at HO hs
  have hM : amM n k = 12 * (a - 1) + b - 1 + k := by unfold amM; rw [ha, hb]
  obtain ⟨M, hMM⟩ : ∃ M, M = 12 * (a - 1) + b - 1 + k := ⟨_, rfl⟩
  rw [← hMM] at hM
  have hMb : -400000 ≤ M ∧ M ≤ 400000 := by omega
  obtain ⟨m2, hm2⟩ : ∃ m2, m2 = 12 * a + b - 1 + k := ⟨_, rfl⟩
  have i2 : IntKind.i64.wrap (12 * a) = 12 * a := i64_id _ (by omega) (by omega)
  have i3 : IntKind.i64.wrap (12 * a + b) = 12 * a + b := i64_id _ (by omega) (by omega)
  have i4 : IntKind.i64.wrap (12 * a + b - 1) = 12 * a + b - 1 := i64_id _ (by omega) (by omega)
  have i5 : IntKind.i64.wrap (12 * a + b - 1 + k) = m2 := by rw [← hm2]; exact i64_id _ (by omega) (by omega)
  obtain ⟨Y, hY⟩ : ∃ Y, Y = m2 / 12 := ⟨_, rfl⟩
  have HFL : Hid (∀ u, Calls Tryd.prog 52 #[.int .i64 m2, .int .i64 12] u fun e w' => e = .returned (.int .i64 Y) ∧ u = w') := Lib.hid (fun u => by rw [hY]; exact floor_any12 m2 u (by omega) (by omega))
  have HY : Hid (amY n k = Y) := Lib.hid (by unfold amY; rw [hM]; omega)
  obtain ⟨Mo, hMo⟩ : ∃ Mo, Mo = m2 - 12 * Y + 1 := ⟨_, rfl⟩
  have HMO : Hid (amMo n k = Mo) := Lib.hid (by unfold amMo; rw [hM]; omega)
  have hYb : -40000 ≤ Y ∧ Y ≤ 40000 ∧ 1 ≤ Mo ∧ Mo ≤ 12 := by omega
  have hm2b : -1000000 ≤ m2 ∧ m2 ≤ 1000000 := by omega
  have HM0 : Hid (0 ≤ amM n k ↔ 1 ≤ Y) := Lib.hid (by rw [hM]; omega)
  have j1 : IntKind.i64.wrap (12 * Y) = 12 * Y := i64_id _ (by omega) (by omega)
  have j2 : IntKind.i64.wrap (m2 - 12 * Y) = m2 - 12 * Y := i64_id _ (by omega) (by omega)
  have j3 : IntKind.i64.wrap (m2 - 12 * Y + 1) = Mo := by rw [← hMo]; exact i64_id _ (by omega) (by omega)
  have HC := Lib.hid hc
  have HT := Lib.hid hT
  clear hn e1 e2 e3 e4 hv ha hb hc hM hMM hT hm2 hY hMo
  go_enter Tryd.func35, Tryd.ntmps35
  go_upto_region 4 with (go_at_call 23; refine HO.out.mono ?_; rintro e w2 ⟨rfl, hb⟩; have p6 : DB (w2.alloc (.cells #[.int .i64 0, .int .i64 0, .int .i64 0] 23)) w2.heap.size := ⟨0, 0, 0, heap_new0⟩; have HB := Lib.hid hb; clear hb)
  obtain ⟨w3, hw3⟩ : ∃ w3, w3 = (w2.alloc (.cells #[.int .i64 0, .int .i64 0, .int .i64 0] 23)).setRow w2.heap.size #[.int .i64 a, .int .i64 b, .int .i64 c] := ⟨_, rfl⟩
  obtain ⟨g6, hg6⟩ : ∃ g6, g6 = w2.heap.size := ⟨_, rfl⟩
  have hrow : w3.heap[g6]? = some (.cells (dc a b c) 23 (0, 0)) := by rw [hw3, hg6]; exact setRow_heap _ _ _ _ _ _ heap_new0
  have hb3 : Below w.heap.size w w3 := by rw [hw3]; exact ((((Kept.of_below (fun _ => False) HB.out).alloc _).setRow (fun h => by have := HB.out.size; omega) _).below (Nat.le_refl _) (fun _ _ h => h))
  have HG : Hid (w.heap.size ≤ g6) := Lib.hid (by rw [hg6]; exact HB.out.size)
  have c0 : w3.cell? ⟨g6, 0, none⟩ = some (.int .i64 a) := cell_of_row w3 g6 0 _ _ _ hrow
  have c1 : w3.cell? ⟨g6, 1, none⟩ = some (.int .i64 b) := cell_of_row w3 g6 1 _ _ _ hrow
  have c2 : w3.cell? ⟨g6, 2, none⟩ = some (.int .i64 c) := cell_of_row w3 g6 2 _ _ _ hrow
  have f0 : w3.frozen? ⟨g6, 0, none⟩ = false := frozen_of_row w3 g6 0 _ _ hrow
  have f1 : w3.frozen? ⟨g6, 1, none⟩ = false := frozen_of_row w3 g6 1 _ _ hrow
  have HROW := Lib.hid hrow
  have HB3 := Lib.hid hb3
  rw [← hw3]
  rw [← hg6]
  clear hw3 hg6 hrow hb3 p6 HB
  by_cases hlo : Y < 1
  · have HR : Hid (amR n k = 0 ∧ amE n k = 5) := Lib.hid (am_bad (by omega) (by omega) (.inr (.inl (by have := HM0.out; omega))))
    go_wp2_with (go_at_call 52; refine (HFL.out _).mono ?_; rintro e w9 ⟨rfl, rfl⟩)
    go_ret2
    rw [HR.out.1, HR.out.2]
    exact ⟨rfl, HB3.out⟩
  by_cases hhi : 9999 < Y
  · have HR : Hid (amR n k = 0 ∧ amE n k = 5) := Lib.hid (am_bad (by omega) (by omega) (.inr (.inr (by rw [HY.out]; exact hhi))))
    go_wp2_with (go_at_call 52; refine (HFL.out _).mono ?_; rintro e w9 ⟨rfl, rfl⟩)
    go_ret2
    rw [HR.out.1, HR.out.2]
    exact ⟨rfl, HB3.out⟩
  go_upto_region 12 with (go_at_call 52; refine (HFL.out _).mono ?_; rintro e w9 ⟨rfl, rfl⟩)
  obtain ⟨w4, hw4⟩ : ∃ w4, w4 = (w3.setCell ⟨g6, 0, none⟩ (.int .i64 Y)).setCell ⟨g6, 1, none⟩ (.int .i64 Mo) := ⟨_, rfl⟩
  have hrow : w4.heap[g6]? = some (.cells (dc Y Mo c) 23 (0, 0)) := by rw [hw4]; exact heap_setCell_same _ _ _ _ _ _ (heap_setCell_same _ _ _ _ _ _ HROW.out)
  have hb4 : Below w.heap.size w w4 := by rw [hw4]; exact ((((Kept.of_below (fun _ => False) HB3.out).setCell (fun h => absurd (show g6 < w.heap.size from h) (by have := HG.out; omega)) _).setCell (fun h => absurd (show g6 < w.heap.size from h) (by have := HG.out; omega)) _).below (Nat.le_refl _) (fun _ _ h => h))
  rw [← hw4]
  clear hw4 c0 c1 c2 f0 f1
  have c0 : w4.cell? ⟨g6, 0, none⟩ = some (.int .i64 Y) := cell_of_row w4 g6 0 _ _ _ hrow
  have c1 : w4.cell? ⟨g6, 1, none⟩ = some (.int .i64 Mo) := cell_of_row w4 g6 1 _ _ _ hrow
  have c2 : w4.cell? ⟨g6, 2, none⟩ = some (.int .i64 c) := cell_of_row w4 g6 2 _ _ _ hrow
  have f2 : w4.frozen? ⟨g6, 2, none⟩ = false := frozen_of_row w4 g6 2 _ _ hrow
  have HROW4 := Lib.hid hrow
  have HB4 := Lib.hid hb4
  clear hrow hb4 HROW HB3
  obtain ⟨L, hL⟩ : ∃ L, L = lenD Y Mo := ⟨_, rfl⟩
  have HLEN : Hid (Calls Tryd.prog 31 #[.int .i64 Y, .int .i64 Mo] w4.drew fun e w' => e = .returned (.int .i64 L) ∧ w' = w4.drew) := Lib.hid (by rw [hL]; exact (refLength_any Y Mo w4.drew).mono fun e w' h => ⟨h.1, h.2.symm⟩)
  obtain ⟨D, hD⟩ : ∃ D, D = min c L := ⟨_, rfl⟩
  have HDD : Hid (D = min c (lenD Y Mo)) := Lib.hid (by rw [hD, hL])
  have hmin : (if L < c then L else c) = D := by rw [hD, Int.min_def]; split <;> split <;> omega
  clear hL hD
  go_still_tail 9, (by kernel_rfl)
  still_call (HLEN.out)
  repeat still_step
  refine wpStill_nil ?_
  change wpList _ _ _ _ _ w4.drew
  obtain ⟨w5, hw5⟩ : ∃ w5, w5 = (w4.setCell ⟨g6, 2, none⟩ (.int .i64 D)).drew := ⟨_, rfl⟩
  have hrow : w5.heap[g6]? = some (.cells (dc Y Mo D) 23 (0, 0)) := by rw [hw5]; exact heap_setCell_same _ _ _ _ _ _ HROW4.out
  have hb5 : Below w.heap.size w w5 := by rw [hw5]; exact (((Kept.of_below (fun _ => False) HB4.out).setCell (fun h => absurd (show g6 < w.heap.size from h) (by have := HG.out; omega)) _).below (Nat.le_refl _) (fun _ _ h => h)).drew
  go_upto_region 13 with fail
  rw [← hw5]
  have d0 : w5.cell? ⟨g6, 0, none⟩ = some (.int .i64 Y) := cell_of_row w5 g6 0 _ _ _ hrow
  have d1 : w5.cell? ⟨g6, 1, none⟩ = some (.int .i64 Mo) := cell_of_row w5 g6 1 _ _ _ hrow
  have d2 : w5.cell? ⟨g6, 2, none⟩ = some (.int .i64 D) := cell_of_row w5 g6 2 _ _ _ hrow
  have HB5 := Lib.hid hb5
  have HAD : Hid (amD n k = D) := Lib.hid (by unfold amD; rw [HY.out, HMO.out, HDD.out, HC.out])
  clear hw5 hrow hb5 HROW4 hmin c0 c1 c2 f2
  obtain ⟨q1, q2, q3⟩ := am_good (n := n) (k := k) (by omega) (by omega) HOK.out (HM0.out.2 (by omega)) (by rw [HY.out]; omega)
  rw [HY.out, HMO.out, HAD.out] at q1 q3
  have HN := Lib.hid (number_any Y Mo D w5 q3)
  have HQ1 := Lib.hid q1
  have HQ2 := Lib.hid q2
  clear q1 q2 q3
  go_wp2_with (go_at_call 45; refine HN.out.mono ?_; rintro e w6 ⟨rfl, hb⟩; have HB6 := Lib.hid hb; clear hb)
  go_ret2
  rw [HQ1.out, HQ2.out]
  exact ⟨rfl, HB5.out.trans (HB6.out.mono HB5.out.size)⟩
end Go.Proofs.YtcoijmggfkjcjaaDoor

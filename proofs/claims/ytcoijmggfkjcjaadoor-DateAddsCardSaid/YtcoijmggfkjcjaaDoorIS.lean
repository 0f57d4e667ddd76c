/-
  The law DateAdds (written by gen_IS.py).
-/
import Derived.Test.YtcoijmggfkjcjaaDoorIR
namespace Go.Proofs.YtcoijmggfkjcjaaDoor
open Go.RowKit
set_option linter.unusedSimpArgs false
set_option linter.unusedVariables false
attribute [local go_sem ↓] exec_storeDate
attribute [local go_sem] run_storeDate
/-- what AddMonths leaves, of a day whose day of the month is at most 28 -/
theorem am_date {n k : Int} (h1 : -200000 ≤ k) (h2 : k ≤ 200000) (h : okN n) (hd : mdayN n ≤ 28) (he : amE n k = 0) :
    okN (amR n k) ∧ yearN (amR n k) = amY n k ∧ monthN (amR n k) = amMo n k ∧ mdayN (amR n k) = mdayN n := by
  have hc : 0 ≤ amM n k ∧ amY n k ≤ 9999 := by
    by_cases hc : 0 ≤ amM n k ∧ amY n k ≤ 9999
    · exact hc
    · exfalso
      have := (am_bad (n := n) (k := k) h1 h2 (by omega)).2
      omega
  obtain ⟨q1, -, q3⟩ := am_good h1 h2 h hc.1 hc.2
  have hD : amD n k = mdayN n := by
    have hl := len_pos (amY n k) (amMo n k) (by unfold amMo; omega) (by unfold amMo; omega)
    unfold amD
    omega
  have hr := day_rng q3
  have ho := of_day q3
  rw [← q1, hD] at ho
  exact ⟨by rw [q1]; exact hr, ho⟩
theorem am_mon {n k : Int} (h1 : -200000 ≤ k) (h2 : k ≤ 200000) (h : okN n) (hd : mdayN n ≤ 28) (he : amE n k = 0) (j : Int) : amM (amR n k) j = amM n (k + j) := by
  obtain ⟨-, e1, e2, -⟩ := am_date h1 h2 h hd he
  unfold amM
  rw [e1, e2]
  unfold amY amMo
  have : amM n k = 12 * (yearN n - 1) + monthN n - 1 + k := rfl
  omega
theorem amE_in {n k : Int} (h1 : -200000 ≤ k) (h2 : k ≤ 200000) : amE n k = if okN n ∧ 0 ≤ amM n k ∧ amY n k ≤ 9999 then 0 else 5 := by
  unfold amE
  rw [if_neg (by omega)]
theorem amR_eq (n k : Int) : amR n k = if amE n k = 0 then dayN (amY n k) (amMo n k) (amD n k) else 0 := rfl
theorem am_ok_of {n k : Int} (h1 : -200000 ≤ k) (h2 : k ≤ 200000) (h : okN n) (he : amE n k = 0) : 0 ≤ amM n k ∧ amY n k ≤ 9999 := by
  by_cases hc : 0 ≤ amM n k ∧ amY n k ≤ 9999
  · exact hc
  · exfalso
    have := (am_bad (n := n) (k := k) h1 h2 (by omega)).2
    omega
/-- a later day does not lead to an earlier result -/
theorem am_mono {n k : Int} (h1 : -200000 ≤ k) (h2 : k ≤ 200000) (h : okN n) (h' : okN (n + 1)) (he : amE n k = 0) (he' : amE (n + 1) k = 0) : amR n k ≤ amR (n + 1) k := by
  have c1 := am_ok_of h1 h2 h he
  have c2 := am_ok_of h1 h2 h' he'
  obtain ⟨q1, -, q3⟩ := am_good h1 h2 h c1.1 c1.2
  obtain ⟨r1, -, r3⟩ := am_good h1 h2 h' c2.1 c2.2
  rw [q1, r1]
  have next : amM (n + 1) k = amM n k + 1 → dayN (amY n k) (amMo n k) (amD n k) ≤ dayN (amY (n + 1) k) (amMo (n + 1) k) (amD (n + 1) k) := fun hM => by
    have a := day_in q3
    have b := day_in r3
    have hb1 : 1 ≤ amMo n k ∧ amMo n k ≤ 12 := by unfold amMo; omega
    by_cases h12 : amMo n k < 12
    · have eY : amY (n + 1) k = amY n k := by unfold amY; unfold amMo at h12; omega
      have eMo : amMo (n + 1) k = amMo n k + 1 := by unfold amMo at h12 ⊢; omega
      rw [eY, eMo] at b ⊢
      rw [show (amMo n k + 1).toNat = (amMo n k).toNat + 1 by omega] at b
      omega
    · have eY : amY (n + 1) k = amY n k + 1 := by unfold amY; unfold amMo at h12 hb1; omega
      have eMo : amMo (n + 1) k = 1 := by unfold amMo at h12 hb1 ⊢; omega
      rw [eY, eMo] at b ⊢
      rw [show (1 : Int).toNat = 1 from rfl, cum_one, new_succ] at b
      omega
  rcases of_succ h h' with ⟨hc, k1, k2, k3⟩ | ⟨hc, hM, k1, k2, k3⟩ | ⟨hc, hM, k1, k2, k3⟩
  · have eM : amM (n + 1) k = amM n k := by unfold amM; rw [k1, k2]
    have eY : amY (n + 1) k = amY n k := by unfold amY; rw [eM]
    have eMo : amMo (n + 1) k = amMo n k := by unfold amMo; rw [eM]
    have eD : amD n k ≤ amD (n + 1) k := by unfold amD; rw [eY, eMo, k3]; omega
    rw [eY, eMo]
    unfold dayN
    omega
  · exact next (by unfold amM; rw [k1, k2]; omega)
  · exact next (by unfold amM; rw [k1, k2, hM]; omega)
/-- adding months one after the other -/
theorem am_comp {n k j : Int} (h1 : -100000 ≤ k) (h2 : k ≤ 100000) (j1 : -100000 ≤ j) (j2 : j ≤ 100000) (h : okN n) (hd : mdayN n ≤ 28) (he : amE n k = 0) : amE (amR n k) j = amE n (k + j) ∧ amR (amR n k) j = amR n (k + j) := by
  obtain ⟨ho, e1, e2, e3⟩ := am_date (by omega) (by omega) h hd he
  have hm := am_mon (n := n) (k := k) (by omega) (by omega) h hd he j
  have hY : amY (amR n k) j = amY n (k + j) := by unfold amY; rw [hm]
  have hMo : amMo (amR n k) j = amMo n (k + j) := by unfold amMo; rw [hm]
  have hD : amD (amR n k) j = amD n (k + j) := by unfold amD; rw [hY, hMo, e3]
  have hE : amE (amR n k) j = amE n (k + j) := by
    rw [amE_in (by omega) (by omega), amE_in (by omega) (by omega), hm, hY]
    simp only [ho, h, true_and]
  refine ⟨hE, ?_⟩
  rw [amR_eq (amR n k) j, amR_eq n (k + j), hE, hY, hMo, hD]
theorem am_zero {n : Int} (h : okN n) (hd : mdayN n ≤ 28) : amE n 0 = 0 ∧ amR n 0 = n := by
  obtain ⟨hv, hn⟩ := of_ok n h.1 h.2
  have hs := valid_sm hv
  have eM : amM n 0 = 12 * (yearN n - 1) + monthN n - 1 := by unfold amM; omega
  have eY : amY n 0 = yearN n := by unfold amY; omega
  have eMo : amMo n 0 = monthN n := by unfold amMo; omega
  obtain ⟨q1, q2, q3⟩ := am_good (n := n) (k := 0) (by omega) (by omega) h (by omega) (by omega)
  refine ⟨q2, ?_⟩
  have eD : amD n 0 = mdayN n := by
    have := hv.2.2.2
    unfold amD
    rw [eY, eMo]
    omega
  rw [q1, eY, eMo, eD, hn]
set_option maxRecDepth 100000 in
set_option maxHeartbeats 4000000 in
theorem adds_bad1 (n m k a a2 x y xr yr Ya Ma Da b eb c ec t et o eo q eq : Int) (w : World) (hT : Tabs w)
    (cDH : ∀ u, Calls Tryd.prog 21 #[.int .i64 n] u fun e w' => e = .returned (.int .i64 a) ∧ u = w')
    (cX : ∀ u, Calls Tryd.prog 15 #[.int .i64 m, .int .i64 1201] u fun e w' => e = .returned (.int .i64 xr) ∧ u = w')
    (cY : ∀ u, Calls Tryd.prog 15 #[.int .i64 k, .int .i64 1201] u fun e w' => e = .returned (.int .i64 yr) ∧ u = w')
    (cO : ∀ u, Tabs u → Calls Tryd.prog 22 #[.int .i64 a] u fun e w' => e = .returned (.tuple #[.agg #[.int .i64 Ya, .int .i64 Ma, .int .i64 Da], .int .i64 0]) ∧ Below u.heap.size u w')
    (c1 : ∀ u, Tabs u → Calls Tryd.prog 34 #[.int .i64 a, .int .i64 x] u fun e w' => e = .returned (.tuple #[.int .i64 b, .int .i64 eb]) ∧ Below u.heap.size u w')
    (c2 : ∀ u, Tabs u → Calls Tryd.prog 34 #[.int .i64 a2, .int .i64 x] u fun e w' => e = .returned (.tuple #[.int .i64 c, .int .i64 ec]) ∧ Below u.heap.size u w')
    (c3 : ∀ u, Tabs u → Calls Tryd.prog 34 #[.int .i64 b, .int .i64 y] u fun e w' => e = .returned (.tuple #[.int .i64 t, .int .i64 et]) ∧ Below u.heap.size u w')
    (c4 : ∀ u, Tabs u → Calls Tryd.prog 34 #[.int .i64 a, .int .i64 (x + y)] u fun e w' => e = .returned (.tuple #[.int .i64 o, .int .i64 eo]) ∧ Below u.heap.size u w')
    (c5 : ∀ u, Tabs u → Calls Tryd.prog 34 #[.int .i64 b, .int .i64 (-x)] u fun e w' => e = .returned (.tuple #[.int .i64 q, .int .i64 eq]) ∧ Below u.heap.size u w')
    (bx : -600 ≤ x ∧ x ≤ 600) (by_ : -600 ≤ y ∧ y ≤ 600) (i1 : IntKind.i64.wrap (xr - 600) = x) (i2 : IntKind.i64.wrap (yr - 600) = y) (i3 : IntKind.i64.wrap (a + 1) = a + 1) (i4 : IntKind.i64.wrap (x + y) = x + y) (i5 : IntKind.i64.wrap (-x) = -x) (i6 : min (a + 1) 3652058 = a2) (e1 : ¬ eb = 0) (e2 : 28 < Da) : Calls Tryd.prog 13 #[.int .i64 n, .int .i64 m, .int .i64 k] w fun e w' => e = .returned (.bool true) ∧ Below w.heap.size w w' := by
  have f1 : (eb == 0) = false := by simpa using e1
  have f2 : decide (eb = 0) = false := decide_eq_false e1
  have f3 : (eb != 0) = true := by simpa using e1
  have HDH := Lib.hid cDH
  have HX := Lib.hid cX
  have HY := Lib.hid cY
  have HO1 := Lib.hid cO
  have H1 := Lib.hid c1
  have H2 := Lib.hid c2
  have H3 := Lib.hid c3
  have H4 := Lib.hid c4
  have H5 := Lib.hid c5
  have HTP := Lib.hid hT
  have HT0 := HTP
  have HBP : Hid (Below w.heap.size w w) := Lib.hid (Below.refl _ _)
  clear hT cDH cX cY cO c1 c2 c3 c4 c5
  go_enter Tryd.func13, Tryd.ntmps13
  go_upto_region 2 with (go_at_call 21; refine (HDH.out _).mono ?_; rintro e w1 ⟨rfl, rfl⟩)
  go_upto_region 3 with (go_at_call 15; refine (HX.out _).mono ?_; rintro e w1 ⟨rfl, rfl⟩)
  go_upto_region 4 with (go_at_call 15; refine (HY.out _).mono ?_; rintro e w1 ⟨rfl, rfl⟩)
  go_upto_region 5 with (go_at_call 22; refine (HO1.out _ HTP.out).mono ?_; rintro e v1 ⟨rfl, hb⟩; have HTN := Tab_stepD HTP hb; have HBN := Bel_stepD HBP hb; clear HTP HBP; have HTP := HTN; have HBP := HBN; clear HTN HBN; clear hb; have pd : DB (v1.alloc (.cells #[.int .i64 0, .int .i64 0, .int .i64 0] 23)) v1.heap.size := ⟨0, 0, 0, heap_new0⟩)
  obtain ⟨w2, hw⟩ : ∃ w2, w2 = (v1.alloc (.cells #[.int .i64 0, .int .i64 0, .int .i64 0] 23)).setRow v1.heap.size #[.int .i64 Ya, .int .i64 Ma, .int .i64 Da] := ⟨_, rfl⟩
  obtain ⟨g10, hg⟩ : ∃ g10, g10 = v1.heap.size := ⟨_, rfl⟩
  have hrow : w2.heap[g10]? = some (.cells #[.int .i64 Ya, .int .i64 Ma, .int .i64 Da] 23 (0, 0)) := by rw [hw, hg]; exact setRow_heap _ _ _ _ _ _ heap_new0
  have hb : Below v1.heap.size v1 w2 := by rw [hw]; exact (((Kept.refl (fun _ => False) v1).alloc _).setRow (fun h => by omega) _).below (Nat.le_refl _) (fun _ _ h => h)
  have HG_g10 : Hid (w.heap.size ≤ g10) := Lib.hid (by rw [hg]; exact HBP.out.size)
  have HR_g10 := Lib.hid hrow
  have HTN := Tab_stepD HTP hb
  have HBN := Bel_stepD HBP hb
  clear HTP HBP
  have HTP := HTN
  have HBP := HBN
  clear HTN HBN
  rw [← hw]
  rw [← hg]
  clear hw hg hrow hb pd
  have c_g10_0 : w2.cell? ⟨g10, 0, none⟩ = some (.int .i64 Ya) := cell_of_row w2 g10 0 _ _ _ HR_g10.out
  have c_g10_1 : w2.cell? ⟨g10, 1, none⟩ = some (.int .i64 Ma) := cell_of_row w2 g10 1 _ _ _ HR_g10.out
  have c_g10_2 : w2.cell? ⟨g10, 2, none⟩ = some (.int .i64 Da) := cell_of_row w2 g10 2 _ _ _ HR_g10.out
  have f_g10_0 : w2.frozen? ⟨g10, 0, none⟩ = false := frozen_of_row w2 g10 0 _ _ HR_g10.out
  have f_g10_1 : w2.frozen? ⟨g10, 1, none⟩ = false := frozen_of_row w2 g10 1 _ _ HR_g10.out
  have f_g10_2 : w2.frozen? ⟨g10, 2, none⟩ = false := frozen_of_row w2 g10 2 _ _ HR_g10.out
  go_upto_region 6 with (go_at_call 34; refine (H1.out _ HTP.out).mono ?_; rintro e v2 ⟨rfl, hb⟩; have HTN := Tab_stepD HTP hb; have HBN := Bel_stepD HBP hb; clear HTP HBP; have HTP := HTN; have HBP := HBN; clear HTN HBN; have HRN := Lib.hid ((hb.block g10 (heap_lt HR_g10.out)).trans HR_g10.out); clear HR_g10; have HR_g10 := HRN; clear HRN; clear c_g10_0 c_g10_1 c_g10_2; have c_g10_0 : v2.cell? ⟨g10, 0, none⟩ = some (.int .i64 Ya) := cell_of_row v2 g10 0 _ _ _ HR_g10.out; have c_g10_1 : v2.cell? ⟨g10, 1, none⟩ = some (.int .i64 Ma) := cell_of_row v2 g10 1 _ _ _ HR_g10.out; have c_g10_2 : v2.cell? ⟨g10, 2, none⟩ = some (.int .i64 Da) := cell_of_row v2 g10 2 _ _ _ HR_g10.out; clear hb)
  go_upto_region 7 with (go_at_call 34; refine (H2.out _ HTP.out).mono ?_; rintro e v3 ⟨rfl, hb⟩; have HTN := Tab_stepD HTP hb; have HBN := Bel_stepD HBP hb; clear HTP HBP; have HTP := HTN; have HBP := HBN; clear HTN HBN; have HRN := Lib.hid ((hb.block g10 (heap_lt HR_g10.out)).trans HR_g10.out); clear HR_g10; have HR_g10 := HRN; clear HRN; clear c_g10_0 c_g10_1 c_g10_2; have c_g10_0 : v3.cell? ⟨g10, 0, none⟩ = some (.int .i64 Ya) := cell_of_row v3 g10 0 _ _ _ HR_g10.out; have c_g10_1 : v3.cell? ⟨g10, 1, none⟩ = some (.int .i64 Ma) := cell_of_row v3 g10 1 _ _ _ HR_g10.out; have c_g10_2 : v3.cell? ⟨g10, 2, none⟩ = some (.int .i64 Da) := cell_of_row v3 g10 2 _ _ _ HR_g10.out; clear hb)
  go_upto_region 10 with (go_at_call 34; refine (H3.out _ HTP.out).mono ?_; rintro e v4 ⟨rfl, hb⟩; have HTN := Tab_stepD HTP hb; have HBN := Bel_stepD HBP hb; clear HTP HBP; have HTP := HTN; have HBP := HBN; clear HTN HBN; have HRN := Lib.hid ((hb.block g10 (heap_lt HR_g10.out)).trans HR_g10.out); clear HR_g10; have HR_g10 := HRN; clear HRN; clear c_g10_0 c_g10_1 c_g10_2; have c_g10_0 : v4.cell? ⟨g10, 0, none⟩ = some (.int .i64 Ya) := cell_of_row v4 g10 0 _ _ _ HR_g10.out; have c_g10_1 : v4.cell? ⟨g10, 1, none⟩ = some (.int .i64 Ma) := cell_of_row v4 g10 1 _ _ _ HR_g10.out; have c_g10_2 : v4.cell? ⟨g10, 2, none⟩ = some (.int .i64 Da) := cell_of_row v4 g10 2 _ _ _ HR_g10.out; clear hb)
  go_upto_region 11 with (go_at_call 34; refine (H4.out _ HTP.out).mono ?_; rintro e v5 ⟨rfl, hb⟩; have HTN := Tab_stepD HTP hb; have HBN := Bel_stepD HBP hb; clear HTP HBP; have HTP := HTN; have HBP := HBN; clear HTN HBN; have HRN := Lib.hid ((hb.block g10 (heap_lt HR_g10.out)).trans HR_g10.out); clear HR_g10; have HR_g10 := HRN; clear HRN; clear c_g10_0 c_g10_1 c_g10_2; have c_g10_0 : v5.cell? ⟨g10, 0, none⟩ = some (.int .i64 Ya) := cell_of_row v5 g10 0 _ _ _ HR_g10.out; have c_g10_1 : v5.cell? ⟨g10, 1, none⟩ = some (.int .i64 Ma) := cell_of_row v5 g10 1 _ _ _ HR_g10.out; have c_g10_2 : v5.cell? ⟨g10, 2, none⟩ = some (.int .i64 Da) := cell_of_row v5 g10 2 _ _ _ HR_g10.out; clear hb)
  go_upto_region 12 with (go_at_call 34; refine (H5.out _ HTP.out).mono ?_; rintro e v6 ⟨rfl, hb⟩; have HTN := Tab_stepD HTP hb; have HBN := Bel_stepD HBP hb; clear HTP HBP; have HTP := HTN; have HBP := HBN; clear HTN HBN; have HRN := Lib.hid ((hb.block g10 (heap_lt HR_g10.out)).trans HR_g10.out); clear HR_g10; have HR_g10 := HRN; clear HRN; clear c_g10_0 c_g10_1 c_g10_2; have c_g10_0 : v6.cell? ⟨g10, 0, none⟩ = some (.int .i64 Ya) := cell_of_row v6 g10 0 _ _ _ HR_g10.out; have c_g10_1 : v6.cell? ⟨g10, 1, none⟩ = some (.int .i64 Ma) := cell_of_row v6 g10 1 _ _ _ HR_g10.out; have c_g10_2 : v6.cell? ⟨g10, 2, none⟩ = some (.int .i64 Da) := cell_of_row v6 g10 2 _ _ _ HR_g10.out; clear hb)
  go_wp2_with (go_at_call 19; refine (lives_any _ HTP.out).mono ?_; rintro e w1 ⟨rfl, hb⟩; have HTN := Tab_stepD HTP hb; have HBN := Bel_stepD HBP hb; clear HTP HBP; have HTP := HTN; have HBP := HBN; clear HTN HBN; clear hb)
  all_goals (go_ret; exact ⟨rfl, HBP.out⟩)
set_option maxRecDepth 100000 in
set_option maxHeartbeats 4000000 in
theorem adds_bad2 (n m k a a2 x y xr yr Ya Ma Da b eb c ec t et o eo q eq : Int) (w : World) (hT : Tabs w)
    (cDH : ∀ u, Calls Tryd.prog 21 #[.int .i64 n] u fun e w' => e = .returned (.int .i64 a) ∧ u = w')
    (cX : ∀ u, Calls Tryd.prog 15 #[.int .i64 m, .int .i64 1201] u fun e w' => e = .returned (.int .i64 xr) ∧ u = w')
    (cY : ∀ u, Calls Tryd.prog 15 #[.int .i64 k, .int .i64 1201] u fun e w' => e = .returned (.int .i64 yr) ∧ u = w')
    (cO : ∀ u, Tabs u → Calls Tryd.prog 22 #[.int .i64 a] u fun e w' => e = .returned (.tuple #[.agg #[.int .i64 Ya, .int .i64 Ma, .int .i64 Da], .int .i64 0]) ∧ Below u.heap.size u w')
    (c1 : ∀ u, Tabs u → Calls Tryd.prog 34 #[.int .i64 a, .int .i64 x] u fun e w' => e = .returned (.tuple #[.int .i64 b, .int .i64 eb]) ∧ Below u.heap.size u w')
    (c2 : ∀ u, Tabs u → Calls Tryd.prog 34 #[.int .i64 a2, .int .i64 x] u fun e w' => e = .returned (.tuple #[.int .i64 c, .int .i64 ec]) ∧ Below u.heap.size u w')
    (c3 : ∀ u, Tabs u → Calls Tryd.prog 34 #[.int .i64 b, .int .i64 y] u fun e w' => e = .returned (.tuple #[.int .i64 t, .int .i64 et]) ∧ Below u.heap.size u w')
    (c4 : ∀ u, Tabs u → Calls Tryd.prog 34 #[.int .i64 a, .int .i64 (x + y)] u fun e w' => e = .returned (.tuple #[.int .i64 o, .int .i64 eo]) ∧ Below u.heap.size u w')
    (c5 : ∀ u, Tabs u → Calls Tryd.prog 34 #[.int .i64 b, .int .i64 (-x)] u fun e w' => e = .returned (.tuple #[.int .i64 q, .int .i64 eq]) ∧ Below u.heap.size u w')
    (bx : -600 ≤ x ∧ x ≤ 600) (by_ : -600 ≤ y ∧ y ≤ 600) (i1 : IntKind.i64.wrap (xr - 600) = x) (i2 : IntKind.i64.wrap (yr - 600) = y) (i3 : IntKind.i64.wrap (a + 1) = a + 1) (i4 : IntKind.i64.wrap (x + y) = x + y) (i5 : IntKind.i64.wrap (-x) = -x) (i6 : min (a + 1) 3652058 = a2) (e1 : ¬ eb = 0) (e2 : ¬ 28 < Da) : Calls Tryd.prog 13 #[.int .i64 n, .int .i64 m, .int .i64 k] w fun e w' => e = .returned (.bool true) ∧ Below w.heap.size w w' := by
  have f1 : (eb == 0) = false := by simpa using e1
  have f2 : decide (eb = 0) = false := decide_eq_false e1
  have f3 : (eb != 0) = true := by simpa using e1
  have HDH := Lib.hid cDH
  have HX := Lib.hid cX
  have HY := Lib.hid cY
  have HO1 := Lib.hid cO
  have H1 := Lib.hid c1
  have H2 := Lib.hid c2
  have H3 := Lib.hid c3
  have H4 := Lib.hid c4
  have H5 := Lib.hid c5
  have HTP := Lib.hid hT
  have HT0 := HTP
  have HBP : Hid (Below w.heap.size w w) := Lib.hid (Below.refl _ _)
  clear hT cDH cX cY cO c1 c2 c3 c4 c5
  go_enter Tryd.func13, Tryd.ntmps13
  go_upto_region 2 with (go_at_call 21; refine (HDH.out _).mono ?_; rintro e w1 ⟨rfl, rfl⟩)
  go_upto_region 3 with (go_at_call 15; refine (HX.out _).mono ?_; rintro e w1 ⟨rfl, rfl⟩)
  go_upto_region 4 with (go_at_call 15; refine (HY.out _).mono ?_; rintro e w1 ⟨rfl, rfl⟩)
  go_upto_region 5 with (go_at_call 22; refine (HO1.out _ HTP.out).mono ?_; rintro e v1 ⟨rfl, hb⟩; have HTN := Tab_stepD HTP hb; have HBN := Bel_stepD HBP hb; clear HTP HBP; have HTP := HTN; have HBP := HBN; clear HTN HBN; clear hb; have pd : DB (v1.alloc (.cells #[.int .i64 0, .int .i64 0, .int .i64 0] 23)) v1.heap.size := ⟨0, 0, 0, heap_new0⟩)
  obtain ⟨w2, hw⟩ : ∃ w2, w2 = (v1.alloc (.cells #[.int .i64 0, .int .i64 0, .int .i64 0] 23)).setRow v1.heap.size #[.int .i64 Ya, .int .i64 Ma, .int .i64 Da] := ⟨_, rfl⟩
  obtain ⟨g10, hg⟩ : ∃ g10, g10 = v1.heap.size := ⟨_, rfl⟩
  have hrow : w2.heap[g10]? = some (.cells #[.int .i64 Ya, .int .i64 Ma, .int .i64 Da] 23 (0, 0)) := by rw [hw, hg]; exact setRow_heap _ _ _ _ _ _ heap_new0
  have hb : Below v1.heap.size v1 w2 := by rw [hw]; exact (((Kept.refl (fun _ => False) v1).alloc _).setRow (fun h => by omega) _).below (Nat.le_refl _) (fun _ _ h => h)
  have HG_g10 : Hid (w.heap.size ≤ g10) := Lib.hid (by rw [hg]; exact HBP.out.size)
  have HR_g10 := Lib.hid hrow
  have HTN := Tab_stepD HTP hb
  have HBN := Bel_stepD HBP hb
  clear HTP HBP
  have HTP := HTN
  have HBP := HBN
  clear HTN HBN
  rw [← hw]
  rw [← hg]
  clear hw hg hrow hb pd
  have c_g10_0 : w2.cell? ⟨g10, 0, none⟩ = some (.int .i64 Ya) := cell_of_row w2 g10 0 _ _ _ HR_g10.out
  have c_g10_1 : w2.cell? ⟨g10, 1, none⟩ = some (.int .i64 Ma) := cell_of_row w2 g10 1 _ _ _ HR_g10.out
  have c_g10_2 : w2.cell? ⟨g10, 2, none⟩ = some (.int .i64 Da) := cell_of_row w2 g10 2 _ _ _ HR_g10.out
  have f_g10_0 : w2.frozen? ⟨g10, 0, none⟩ = false := frozen_of_row w2 g10 0 _ _ HR_g10.out
  have f_g10_1 : w2.frozen? ⟨g10, 1, none⟩ = false := frozen_of_row w2 g10 1 _ _ HR_g10.out
  have f_g10_2 : w2.frozen? ⟨g10, 2, none⟩ = false := frozen_of_row w2 g10 2 _ _ HR_g10.out
  go_upto_region 6 with (go_at_call 34; refine (H1.out _ HTP.out).mono ?_; rintro e v2 ⟨rfl, hb⟩; have HTN := Tab_stepD HTP hb; have HBN := Bel_stepD HBP hb; clear HTP HBP; have HTP := HTN; have HBP := HBN; clear HTN HBN; have HRN := Lib.hid ((hb.block g10 (heap_lt HR_g10.out)).trans HR_g10.out); clear HR_g10; have HR_g10 := HRN; clear HRN; clear c_g10_0 c_g10_1 c_g10_2; have c_g10_0 : v2.cell? ⟨g10, 0, none⟩ = some (.int .i64 Ya) := cell_of_row v2 g10 0 _ _ _ HR_g10.out; have c_g10_1 : v2.cell? ⟨g10, 1, none⟩ = some (.int .i64 Ma) := cell_of_row v2 g10 1 _ _ _ HR_g10.out; have c_g10_2 : v2.cell? ⟨g10, 2, none⟩ = some (.int .i64 Da) := cell_of_row v2 g10 2 _ _ _ HR_g10.out; clear hb)
  go_upto_region 7 with (go_at_call 34; refine (H2.out _ HTP.out).mono ?_; rintro e v3 ⟨rfl, hb⟩; have HTN := Tab_stepD HTP hb; have HBN := Bel_stepD HBP hb; clear HTP HBP; have HTP := HTN; have HBP := HBN; clear HTN HBN; have HRN := Lib.hid ((hb.block g10 (heap_lt HR_g10.out)).trans HR_g10.out); clear HR_g10; have HR_g10 := HRN; clear HRN; clear c_g10_0 c_g10_1 c_g10_2; have c_g10_0 : v3.cell? ⟨g10, 0, none⟩ = some (.int .i64 Ya) := cell_of_row v3 g10 0 _ _ _ HR_g10.out; have c_g10_1 : v3.cell? ⟨g10, 1, none⟩ = some (.int .i64 Ma) := cell_of_row v3 g10 1 _ _ _ HR_g10.out; have c_g10_2 : v3.cell? ⟨g10, 2, none⟩ = some (.int .i64 Da) := cell_of_row v3 g10 2 _ _ _ HR_g10.out; clear hb)
  go_upto_region 10 with (go_at_call 34; refine (H3.out _ HTP.out).mono ?_; rintro e v4 ⟨rfl, hb⟩; have HTN := Tab_stepD HTP hb; have HBN := Bel_stepD HBP hb; clear HTP HBP; have HTP := HTN; have HBP := HBN; clear HTN HBN; have HRN := Lib.hid ((hb.block g10 (heap_lt HR_g10.out)).trans HR_g10.out); clear HR_g10; have HR_g10 := HRN; clear HRN; clear c_g10_0 c_g10_1 c_g10_2; have c_g10_0 : v4.cell? ⟨g10, 0, none⟩ = some (.int .i64 Ya) := cell_of_row v4 g10 0 _ _ _ HR_g10.out; have c_g10_1 : v4.cell? ⟨g10, 1, none⟩ = some (.int .i64 Ma) := cell_of_row v4 g10 1 _ _ _ HR_g10.out; have c_g10_2 : v4.cell? ⟨g10, 2, none⟩ = some (.int .i64 Da) := cell_of_row v4 g10 2 _ _ _ HR_g10.out; clear hb)
  go_upto_region 11 with (go_at_call 34; refine (H4.out _ HTP.out).mono ?_; rintro e v5 ⟨rfl, hb⟩; have HTN := Tab_stepD HTP hb; have HBN := Bel_stepD HBP hb; clear HTP HBP; have HTP := HTN; have HBP := HBN; clear HTN HBN; have HRN := Lib.hid ((hb.block g10 (heap_lt HR_g10.out)).trans HR_g10.out); clear HR_g10; have HR_g10 := HRN; clear HRN; clear c_g10_0 c_g10_1 c_g10_2; have c_g10_0 : v5.cell? ⟨g10, 0, none⟩ = some (.int .i64 Ya) := cell_of_row v5 g10 0 _ _ _ HR_g10.out; have c_g10_1 : v5.cell? ⟨g10, 1, none⟩ = some (.int .i64 Ma) := cell_of_row v5 g10 1 _ _ _ HR_g10.out; have c_g10_2 : v5.cell? ⟨g10, 2, none⟩ = some (.int .i64 Da) := cell_of_row v5 g10 2 _ _ _ HR_g10.out; clear hb)
  go_upto_region 12 with (go_at_call 34; refine (H5.out _ HTP.out).mono ?_; rintro e v6 ⟨rfl, hb⟩; have HTN := Tab_stepD HTP hb; have HBN := Bel_stepD HBP hb; clear HTP HBP; have HTP := HTN; have HBP := HBN; clear HTN HBN; have HRN := Lib.hid ((hb.block g10 (heap_lt HR_g10.out)).trans HR_g10.out); clear HR_g10; have HR_g10 := HRN; clear HRN; clear c_g10_0 c_g10_1 c_g10_2; have c_g10_0 : v6.cell? ⟨g10, 0, none⟩ = some (.int .i64 Ya) := cell_of_row v6 g10 0 _ _ _ HR_g10.out; have c_g10_1 : v6.cell? ⟨g10, 1, none⟩ = some (.int .i64 Ma) := cell_of_row v6 g10 1 _ _ _ HR_g10.out; have c_g10_2 : v6.cell? ⟨g10, 2, none⟩ = some (.int .i64 Da) := cell_of_row v6 g10 2 _ _ _ HR_g10.out; clear hb)
  go_wp2_with (go_at_call 19; refine (lives_any _ HTP.out).mono ?_; rintro e w1 ⟨rfl, hb⟩; have HTN := Tab_stepD HTP hb; have HBN := Bel_stepD HBP hb; clear HTP HBP; have HTP := HTN; have HBP := HBN; clear HTN HBN; clear hb)
  all_goals (go_ret; exact ⟨rfl, HBP.out⟩)
set_option maxRecDepth 100000 in
set_option maxHeartbeats 4000000 in
theorem adds_late1 (n m k a a2 x y xr yr Ya Ma Da b eb c ec t et o eo q eq : Int) (w : World) (hT : Tabs w)
    (cDH : ∀ u, Calls Tryd.prog 21 #[.int .i64 n] u fun e w' => e = .returned (.int .i64 a) ∧ u = w')
    (cX : ∀ u, Calls Tryd.prog 15 #[.int .i64 m, .int .i64 1201] u fun e w' => e = .returned (.int .i64 xr) ∧ u = w')
    (cY : ∀ u, Calls Tryd.prog 15 #[.int .i64 k, .int .i64 1201] u fun e w' => e = .returned (.int .i64 yr) ∧ u = w')
    (cO : ∀ u, Tabs u → Calls Tryd.prog 22 #[.int .i64 a] u fun e w' => e = .returned (.tuple #[.agg #[.int .i64 Ya, .int .i64 Ma, .int .i64 Da], .int .i64 0]) ∧ Below u.heap.size u w')
    (c1 : ∀ u, Tabs u → Calls Tryd.prog 34 #[.int .i64 a, .int .i64 x] u fun e w' => e = .returned (.tuple #[.int .i64 b, .int .i64 eb]) ∧ Below u.heap.size u w')
    (c2 : ∀ u, Tabs u → Calls Tryd.prog 34 #[.int .i64 a2, .int .i64 x] u fun e w' => e = .returned (.tuple #[.int .i64 c, .int .i64 ec]) ∧ Below u.heap.size u w')
    (c3 : ∀ u, Tabs u → Calls Tryd.prog 34 #[.int .i64 b, .int .i64 y] u fun e w' => e = .returned (.tuple #[.int .i64 t, .int .i64 et]) ∧ Below u.heap.size u w')
    (c4 : ∀ u, Tabs u → Calls Tryd.prog 34 #[.int .i64 a, .int .i64 (x + y)] u fun e w' => e = .returned (.tuple #[.int .i64 o, .int .i64 eo]) ∧ Below u.heap.size u w')
    (c5 : ∀ u, Tabs u → Calls Tryd.prog 34 #[.int .i64 b, .int .i64 (-x)] u fun e w' => e = .returned (.tuple #[.int .i64 q, .int .i64 eq]) ∧ Below u.heap.size u w')
    (bx : -600 ≤ x ∧ x ≤ 600) (by_ : -600 ≤ y ∧ y ≤ 600) (i1 : IntKind.i64.wrap (xr - 600) = x) (i2 : IntKind.i64.wrap (yr - 600) = y) (i3 : IntKind.i64.wrap (a + 1) = a + 1) (i4 : IntKind.i64.wrap (x + y) = x + y) (i5 : IntKind.i64.wrap (-x) = -x) (i6 : min (a + 1) 3652058 = a2) (e1 : eb = 0) (e2 : ¬ ec = 0) (e3 : 28 < Da) : Calls Tryd.prog 13 #[.int .i64 n, .int .i64 m, .int .i64 k] w fun e w' => e = .returned (.bool true) ∧ Below w.heap.size w w' := by
  subst e1
  have HDH := Lib.hid cDH
  have HX := Lib.hid cX
  have HY := Lib.hid cY
  have HO1 := Lib.hid cO
  have H1 := Lib.hid c1
  have H2 := Lib.hid c2
  have H3 := Lib.hid c3
  have H4 := Lib.hid c4
  have H5 := Lib.hid c5
  have HTP := Lib.hid hT
  have HT0 := HTP
  have HBP : Hid (Below w.heap.size w w) := Lib.hid (Below.refl _ _)
  clear hT cDH cX cY cO c1 c2 c3 c4 c5
  go_enter Tryd.func13, Tryd.ntmps13
  go_upto_region 2 with (go_at_call 21; refine (HDH.out _).mono ?_; rintro e w1 ⟨rfl, rfl⟩)
  go_upto_region 3 with (go_at_call 15; refine (HX.out _).mono ?_; rintro e w1 ⟨rfl, rfl⟩)
  go_upto_region 4 with (go_at_call 15; refine (HY.out _).mono ?_; rintro e w1 ⟨rfl, rfl⟩)
  go_upto_region 5 with (go_at_call 22; refine (HO1.out _ HTP.out).mono ?_; rintro e v1 ⟨rfl, hb⟩; have HTN := Tab_stepD HTP hb; have HBN := Bel_stepD HBP hb; clear HTP HBP; have HTP := HTN; have HBP := HBN; clear HTN HBN; clear hb; have pd : DB (v1.alloc (.cells #[.int .i64 0, .int .i64 0, .int .i64 0] 23)) v1.heap.size := ⟨0, 0, 0, heap_new0⟩)
  obtain ⟨w2, hw⟩ : ∃ w2, w2 = (v1.alloc (.cells #[.int .i64 0, .int .i64 0, .int .i64 0] 23)).setRow v1.heap.size #[.int .i64 Ya, .int .i64 Ma, .int .i64 Da] := ⟨_, rfl⟩
  obtain ⟨g10, hg⟩ : ∃ g10, g10 = v1.heap.size := ⟨_, rfl⟩
  have hrow : w2.heap[g10]? = some (.cells #[.int .i64 Ya, .int .i64 Ma, .int .i64 Da] 23 (0, 0)) := by rw [hw, hg]; exact setRow_heap _ _ _ _ _ _ heap_new0
  have hb : Below v1.heap.size v1 w2 := by rw [hw]; exact (((Kept.refl (fun _ => False) v1).alloc _).setRow (fun h => by omega) _).below (Nat.le_refl _) (fun _ _ h => h)
  have HG_g10 : Hid (w.heap.size ≤ g10) := Lib.hid (by rw [hg]; exact HBP.out.size)
  have HR_g10 := Lib.hid hrow
  have HTN := Tab_stepD HTP hb
  have HBN := Bel_stepD HBP hb
  clear HTP HBP
  have HTP := HTN
  have HBP := HBN
  clear HTN HBN
  rw [← hw]
  rw [← hg]
  clear hw hg hrow hb pd
  have c_g10_0 : w2.cell? ⟨g10, 0, none⟩ = some (.int .i64 Ya) := cell_of_row w2 g10 0 _ _ _ HR_g10.out
  have c_g10_1 : w2.cell? ⟨g10, 1, none⟩ = some (.int .i64 Ma) := cell_of_row w2 g10 1 _ _ _ HR_g10.out
  have c_g10_2 : w2.cell? ⟨g10, 2, none⟩ = some (.int .i64 Da) := cell_of_row w2 g10 2 _ _ _ HR_g10.out
  have f_g10_0 : w2.frozen? ⟨g10, 0, none⟩ = false := frozen_of_row w2 g10 0 _ _ HR_g10.out
  have f_g10_1 : w2.frozen? ⟨g10, 1, none⟩ = false := frozen_of_row w2 g10 1 _ _ HR_g10.out
  have f_g10_2 : w2.frozen? ⟨g10, 2, none⟩ = false := frozen_of_row w2 g10 2 _ _ HR_g10.out
  go_upto_region 6 with (go_at_call 34; refine (H1.out _ HTP.out).mono ?_; rintro e v2 ⟨rfl, hb⟩; have HTN := Tab_stepD HTP hb; have HBN := Bel_stepD HBP hb; clear HTP HBP; have HTP := HTN; have HBP := HBN; clear HTN HBN; have HRN := Lib.hid ((hb.block g10 (heap_lt HR_g10.out)).trans HR_g10.out); clear HR_g10; have HR_g10 := HRN; clear HRN; clear c_g10_0 c_g10_1 c_g10_2; have c_g10_0 : v2.cell? ⟨g10, 0, none⟩ = some (.int .i64 Ya) := cell_of_row v2 g10 0 _ _ _ HR_g10.out; have c_g10_1 : v2.cell? ⟨g10, 1, none⟩ = some (.int .i64 Ma) := cell_of_row v2 g10 1 _ _ _ HR_g10.out; have c_g10_2 : v2.cell? ⟨g10, 2, none⟩ = some (.int .i64 Da) := cell_of_row v2 g10 2 _ _ _ HR_g10.out; clear hb)
  go_upto_region 7 with (go_at_call 34; refine (H2.out _ HTP.out).mono ?_; rintro e v3 ⟨rfl, hb⟩; have HTN := Tab_stepD HTP hb; have HBN := Bel_stepD HBP hb; clear HTP HBP; have HTP := HTN; have HBP := HBN; clear HTN HBN; have HRN := Lib.hid ((hb.block g10 (heap_lt HR_g10.out)).trans HR_g10.out); clear HR_g10; have HR_g10 := HRN; clear HRN; clear c_g10_0 c_g10_1 c_g10_2; have c_g10_0 : v3.cell? ⟨g10, 0, none⟩ = some (.int .i64 Ya) := cell_of_row v3 g10 0 _ _ _ HR_g10.out; have c_g10_1 : v3.cell? ⟨g10, 1, none⟩ = some (.int .i64 Ma) := cell_of_row v3 g10 1 _ _ _ HR_g10.out; have c_g10_2 : v3.cell? ⟨g10, 2, none⟩ = some (.int .i64 Da) := cell_of_row v3 g10 2 _ _ _ HR_g10.out; clear hb)
  go_upto_region 10 with (go_at_call 34; refine (H3.out _ HTP.out).mono ?_; rintro e v4 ⟨rfl, hb⟩; have HTN := Tab_stepD HTP hb; have HBN := Bel_stepD HBP hb; clear HTP HBP; have HTP := HTN; have HBP := HBN; clear HTN HBN; have HRN := Lib.hid ((hb.block g10 (heap_lt HR_g10.out)).trans HR_g10.out); clear HR_g10; have HR_g10 := HRN; clear HRN; clear c_g10_0 c_g10_1 c_g10_2; have c_g10_0 : v4.cell? ⟨g10, 0, none⟩ = some (.int .i64 Ya) := cell_of_row v4 g10 0 _ _ _ HR_g10.out; have c_g10_1 : v4.cell? ⟨g10, 1, none⟩ = some (.int .i64 Ma) := cell_of_row v4 g10 1 _ _ _ HR_g10.out; have c_g10_2 : v4.cell? ⟨g10, 2, none⟩ = some (.int .i64 Da) := cell_of_row v4 g10 2 _ _ _ HR_g10.out; clear hb)
  go_upto_region 11 with (go_at_call 34; refine (H4.out _ HTP.out).mono ?_; rintro e v5 ⟨rfl, hb⟩; have HTN := Tab_stepD HTP hb; have HBN := Bel_stepD HBP hb; clear HTP HBP; have HTP := HTN; have HBP := HBN; clear HTN HBN; have HRN := Lib.hid ((hb.block g10 (heap_lt HR_g10.out)).trans HR_g10.out); clear HR_g10; have HR_g10 := HRN; clear HRN; clear c_g10_0 c_g10_1 c_g10_2; have c_g10_0 : v5.cell? ⟨g10, 0, none⟩ = some (.int .i64 Ya) := cell_of_row v5 g10 0 _ _ _ HR_g10.out; have c_g10_1 : v5.cell? ⟨g10, 1, none⟩ = some (.int .i64 Ma) := cell_of_row v5 g10 1 _ _ _ HR_g10.out; have c_g10_2 : v5.cell? ⟨g10, 2, none⟩ = some (.int .i64 Da) := cell_of_row v5 g10 2 _ _ _ HR_g10.out; clear hb)
  go_upto_region 12 with (go_at_call 34; refine (H5.out _ HTP.out).mono ?_; rintro e v6 ⟨rfl, hb⟩; have HTN := Tab_stepD HTP hb; have HBN := Bel_stepD HBP hb; clear HTP HBP; have HTP := HTN; have HBP := HBN; clear HTN HBN; have HRN := Lib.hid ((hb.block g10 (heap_lt HR_g10.out)).trans HR_g10.out); clear HR_g10; have HR_g10 := HRN; clear HRN; clear c_g10_0 c_g10_1 c_g10_2; have c_g10_0 : v6.cell? ⟨g10, 0, none⟩ = some (.int .i64 Ya) := cell_of_row v6 g10 0 _ _ _ HR_g10.out; have c_g10_1 : v6.cell? ⟨g10, 1, none⟩ = some (.int .i64 Ma) := cell_of_row v6 g10 1 _ _ _ HR_g10.out; have c_g10_2 : v6.cell? ⟨g10, 2, none⟩ = some (.int .i64 Da) := cell_of_row v6 g10 2 _ _ _ HR_g10.out; clear hb)
  go_wp2_with (go_at_call 19; refine (lives_any _ HTP.out).mono ?_; rintro e w1 ⟨rfl, hb⟩; have HTN := Tab_stepD HTP hb; have HBN := Bel_stepD HBP hb; clear HTP HBP; have HTP := HTN; have HBP := HBN; clear HTN HBN; clear hb)
  all_goals (go_ret; exact ⟨rfl, HBP.out⟩)
set_option maxRecDepth 100000 in
set_option maxHeartbeats 4000000 in
theorem adds_late2 (n m k a a2 x y xr yr Ya Ma Da b eb c ec t et o eo q eq : Int) (w : World) (hT : Tabs w)
    (cDH : ∀ u, Calls Tryd.prog 21 #[.int .i64 n] u fun e w' => e = .returned (.int .i64 a) ∧ u = w')
    (cX : ∀ u, Calls Tryd.prog 15 #[.int .i64 m, .int .i64 1201] u fun e w' => e = .returned (.int .i64 xr) ∧ u = w')
    (cY : ∀ u, Calls Tryd.prog 15 #[.int .i64 k, .int .i64 1201] u fun e w' => e = .returned (.int .i64 yr) ∧ u = w')
    (cO : ∀ u, Tabs u → Calls Tryd.prog 22 #[.int .i64 a] u fun e w' => e = .returned (.tuple #[.agg #[.int .i64 Ya, .int .i64 Ma, .int .i64 Da], .int .i64 0]) ∧ Below u.heap.size u w')
    (c1 : ∀ u, Tabs u → Calls Tryd.prog 34 #[.int .i64 a, .int .i64 x] u fun e w' => e = .returned (.tuple #[.int .i64 b, .int .i64 eb]) ∧ Below u.heap.size u w')
    (c2 : ∀ u, Tabs u → Calls Tryd.prog 34 #[.int .i64 a2, .int .i64 x] u fun e w' => e = .returned (.tuple #[.int .i64 c, .int .i64 ec]) ∧ Below u.heap.size u w')
    (c3 : ∀ u, Tabs u → Calls Tryd.prog 34 #[.int .i64 b, .int .i64 y] u fun e w' => e = .returned (.tuple #[.int .i64 t, .int .i64 et]) ∧ Below u.heap.size u w')
    (c4 : ∀ u, Tabs u → Calls Tryd.prog 34 #[.int .i64 a, .int .i64 (x + y)] u fun e w' => e = .returned (.tuple #[.int .i64 o, .int .i64 eo]) ∧ Below u.heap.size u w')
    (c5 : ∀ u, Tabs u → Calls Tryd.prog 34 #[.int .i64 b, .int .i64 (-x)] u fun e w' => e = .returned (.tuple #[.int .i64 q, .int .i64 eq]) ∧ Below u.heap.size u w')
    (bx : -600 ≤ x ∧ x ≤ 600) (by_ : -600 ≤ y ∧ y ≤ 600) (i1 : IntKind.i64.wrap (xr - 600) = x) (i2 : IntKind.i64.wrap (yr - 600) = y) (i3 : IntKind.i64.wrap (a + 1) = a + 1) (i4 : IntKind.i64.wrap (x + y) = x + y) (i5 : IntKind.i64.wrap (-x) = -x) (i6 : min (a + 1) 3652058 = a2) (e1 : eb = 0) (e2 : ec = 0) (e4 : ¬ c < b) (e3 : 28 < Da) : Calls Tryd.prog 13 #[.int .i64 n, .int .i64 m, .int .i64 k] w fun e w' => e = .returned (.bool true) ∧ Below w.heap.size w w' := by
  subst e1 e2
  have HDH := Lib.hid cDH
  have HX := Lib.hid cX
  have HY := Lib.hid cY
  have HO1 := Lib.hid cO
  have H1 := Lib.hid c1
  have H2 := Lib.hid c2
  have H3 := Lib.hid c3
  have H4 := Lib.hid c4
  have H5 := Lib.hid c5
  have HTP := Lib.hid hT
  have HT0 := HTP
  have HBP : Hid (Below w.heap.size w w) := Lib.hid (Below.refl _ _)
  clear hT cDH cX cY cO c1 c2 c3 c4 c5
  go_enter Tryd.func13, Tryd.ntmps13
  go_upto_region 2 with (go_at_call 21; refine (HDH.out _).mono ?_; rintro e w1 ⟨rfl, rfl⟩)
  go_upto_region 3 with (go_at_call 15; refine (HX.out _).mono ?_; rintro e w1 ⟨rfl, rfl⟩)
  go_upto_region 4 with (go_at_call 15; refine (HY.out _).mono ?_; rintro e w1 ⟨rfl, rfl⟩)
  go_upto_region 5 with (go_at_call 22; refine (HO1.out _ HTP.out).mono ?_; rintro e v1 ⟨rfl, hb⟩; have HTN := Tab_stepD HTP hb; have HBN := Bel_stepD HBP hb; clear HTP HBP; have HTP := HTN; have HBP := HBN; clear HTN HBN; clear hb; have pd : DB (v1.alloc (.cells #[.int .i64 0, .int .i64 0, .int .i64 0] 23)) v1.heap.size := ⟨0, 0, 0, heap_new0⟩)
  obtain ⟨w2, hw⟩ : ∃ w2, w2 = (v1.alloc (.cells #[.int .i64 0, .int .i64 0, .int .i64 0] 23)).setRow v1.heap.size #[.int .i64 Ya, .int .i64 Ma, .int .i64 Da] := ⟨_, rfl⟩
  obtain ⟨g10, hg⟩ : ∃ g10, g10 = v1.heap.size := ⟨_, rfl⟩
  have hrow : w2.heap[g10]? = some (.cells #[.int .i64 Ya, .int .i64 Ma, .int .i64 Da] 23 (0, 0)) := by rw [hw, hg]; exact setRow_heap _ _ _ _ _ _ heap_new0
  have hb : Below v1.heap.size v1 w2 := by rw [hw]; exact (((Kept.refl (fun _ => False) v1).alloc _).setRow (fun h => by omega) _).below (Nat.le_refl _) (fun _ _ h => h)
  have HG_g10 : Hid (w.heap.size ≤ g10) := Lib.hid (by rw [hg]; exact HBP.out.size)
  have HR_g10 := Lib.hid hrow
  have HTN := Tab_stepD HTP hb
  have HBN := Bel_stepD HBP hb
  clear HTP HBP
  have HTP := HTN
  have HBP := HBN
  clear HTN HBN
  rw [← hw]
  rw [← hg]
  clear hw hg hrow hb pd
  have c_g10_0 : w2.cell? ⟨g10, 0, none⟩ = some (.int .i64 Ya) := cell_of_row w2 g10 0 _ _ _ HR_g10.out
  have c_g10_1 : w2.cell? ⟨g10, 1, none⟩ = some (.int .i64 Ma) := cell_of_row w2 g10 1 _ _ _ HR_g10.out
  have c_g10_2 : w2.cell? ⟨g10, 2, none⟩ = some (.int .i64 Da) := cell_of_row w2 g10 2 _ _ _ HR_g10.out
  have f_g10_0 : w2.frozen? ⟨g10, 0, none⟩ = false := frozen_of_row w2 g10 0 _ _ HR_g10.out
  have f_g10_1 : w2.frozen? ⟨g10, 1, none⟩ = false := frozen_of_row w2 g10 1 _ _ HR_g10.out
  have f_g10_2 : w2.frozen? ⟨g10, 2, none⟩ = false := frozen_of_row w2 g10 2 _ _ HR_g10.out
  go_upto_region 6 with (go_at_call 34; refine (H1.out _ HTP.out).mono ?_; rintro e v2 ⟨rfl, hb⟩; have HTN := Tab_stepD HTP hb; have HBN := Bel_stepD HBP hb; clear HTP HBP; have HTP := HTN; have HBP := HBN; clear HTN HBN; have HRN := Lib.hid ((hb.block g10 (heap_lt HR_g10.out)).trans HR_g10.out); clear HR_g10; have HR_g10 := HRN; clear HRN; clear c_g10_0 c_g10_1 c_g10_2; have c_g10_0 : v2.cell? ⟨g10, 0, none⟩ = some (.int .i64 Ya) := cell_of_row v2 g10 0 _ _ _ HR_g10.out; have c_g10_1 : v2.cell? ⟨g10, 1, none⟩ = some (.int .i64 Ma) := cell_of_row v2 g10 1 _ _ _ HR_g10.out; have c_g10_2 : v2.cell? ⟨g10, 2, none⟩ = some (.int .i64 Da) := cell_of_row v2 g10 2 _ _ _ HR_g10.out; clear hb)
  go_upto_region 7 with (go_at_call 34; refine (H2.out _ HTP.out).mono ?_; rintro e v3 ⟨rfl, hb⟩; have HTN := Tab_stepD HTP hb; have HBN := Bel_stepD HBP hb; clear HTP HBP; have HTP := HTN; have HBP := HBN; clear HTN HBN; have HRN := Lib.hid ((hb.block g10 (heap_lt HR_g10.out)).trans HR_g10.out); clear HR_g10; have HR_g10 := HRN; clear HRN; clear c_g10_0 c_g10_1 c_g10_2; have c_g10_0 : v3.cell? ⟨g10, 0, none⟩ = some (.int .i64 Ya) := cell_of_row v3 g10 0 _ _ _ HR_g10.out; have c_g10_1 : v3.cell? ⟨g10, 1, none⟩ = some (.int .i64 Ma) := cell_of_row v3 g10 1 _ _ _ HR_g10.out; have c_g10_2 : v3.cell? ⟨g10, 2, none⟩ = some (.int .i64 Da) := cell_of_row v3 g10 2 _ _ _ HR_g10.out; clear hb)
  go_upto_region 10 with (go_at_call 34; refine (H3.out _ HTP.out).mono ?_; rintro e v4 ⟨rfl, hb⟩; have HTN := Tab_stepD HTP hb; have HBN := Bel_stepD HBP hb; clear HTP HBP; have HTP := HTN; have HBP := HBN; clear HTN HBN; have HRN := Lib.hid ((hb.block g10 (heap_lt HR_g10.out)).trans HR_g10.out); clear HR_g10; have HR_g10 := HRN; clear HRN; clear c_g10_0 c_g10_1 c_g10_2; have c_g10_0 : v4.cell? ⟨g10, 0, none⟩ = some (.int .i64 Ya) := cell_of_row v4 g10 0 _ _ _ HR_g10.out; have c_g10_1 : v4.cell? ⟨g10, 1, none⟩ = some (.int .i64 Ma) := cell_of_row v4 g10 1 _ _ _ HR_g10.out; have c_g10_2 : v4.cell? ⟨g10, 2, none⟩ = some (.int .i64 Da) := cell_of_row v4 g10 2 _ _ _ HR_g10.out; clear hb)
  go_upto_region 11 with (go_at_call 34; refine (H4.out _ HTP.out).mono ?_; rintro e v5 ⟨rfl, hb⟩; have HTN := Tab_stepD HTP hb; have HBN := Bel_stepD HBP hb; clear HTP HBP; have HTP := HTN; have HBP := HBN; clear HTN HBN; have HRN := Lib.hid ((hb.block g10 (heap_lt HR_g10.out)).trans HR_g10.out); clear HR_g10; have HR_g10 := HRN; clear HRN; clear c_g10_0 c_g10_1 c_g10_2; have c_g10_0 : v5.cell? ⟨g10, 0, none⟩ = some (.int .i64 Ya) := cell_of_row v5 g10 0 _ _ _ HR_g10.out; have c_g10_1 : v5.cell? ⟨g10, 1, none⟩ = some (.int .i64 Ma) := cell_of_row v5 g10 1 _ _ _ HR_g10.out; have c_g10_2 : v5.cell? ⟨g10, 2, none⟩ = some (.int .i64 Da) := cell_of_row v5 g10 2 _ _ _ HR_g10.out; clear hb)
  go_upto_region 12 with (go_at_call 34; refine (H5.out _ HTP.out).mono ?_; rintro e v6 ⟨rfl, hb⟩; have HTN := Tab_stepD HTP hb; have HBN := Bel_stepD HBP hb; clear HTP HBP; have HTP := HTN; have HBP := HBN; clear HTN HBN; have HRN := Lib.hid ((hb.block g10 (heap_lt HR_g10.out)).trans HR_g10.out); clear HR_g10; have HR_g10 := HRN; clear HRN; clear c_g10_0 c_g10_1 c_g10_2; have c_g10_0 : v6.cell? ⟨g10, 0, none⟩ = some (.int .i64 Ya) := cell_of_row v6 g10 0 _ _ _ HR_g10.out; have c_g10_1 : v6.cell? ⟨g10, 1, none⟩ = some (.int .i64 Ma) := cell_of_row v6 g10 1 _ _ _ HR_g10.out; have c_g10_2 : v6.cell? ⟨g10, 2, none⟩ = some (.int .i64 Da) := cell_of_row v6 g10 2 _ _ _ HR_g10.out; clear hb)
  go_wp2_with (go_at_call 19; refine (lives_any _ HTP.out).mono ?_; rintro e w1 ⟨rfl, hb⟩; have HTN := Tab_stepD HTP hb; have HBN := Bel_stepD HBP hb; clear HTP HBP; have HTP := HTN; have HBP := HBN; clear HTN HBN; clear hb)
  all_goals (go_ret; exact ⟨rfl, HBP.out⟩)
set_option maxRecDepth 100000 in
set_option maxHeartbeats 4000000 in
theorem adds_good1 (n m k a a2 x y xr yr Ya Ma Da b eb c ec t et o eo q eq : Int) (w : World) (hT : Tabs w)
    (cDH : ∀ u, Calls Tryd.prog 21 #[.int .i64 n] u fun e w' => e = .returned (.int .i64 a) ∧ u = w')
    (cX : ∀ u, Calls Tryd.prog 15 #[.int .i64 m, .int .i64 1201] u fun e w' => e = .returned (.int .i64 xr) ∧ u = w')
    (cY : ∀ u, Calls Tryd.prog 15 #[.int .i64 k, .int .i64 1201] u fun e w' => e = .returned (.int .i64 yr) ∧ u = w')
    (cO : ∀ u, Tabs u → Calls Tryd.prog 22 #[.int .i64 a] u fun e w' => e = .returned (.tuple #[.agg #[.int .i64 Ya, .int .i64 Ma, .int .i64 Da], .int .i64 0]) ∧ Below u.heap.size u w')
    (c1 : ∀ u, Tabs u → Calls Tryd.prog 34 #[.int .i64 a, .int .i64 x] u fun e w' => e = .returned (.tuple #[.int .i64 b, .int .i64 eb]) ∧ Below u.heap.size u w')
    (c2 : ∀ u, Tabs u → Calls Tryd.prog 34 #[.int .i64 a2, .int .i64 x] u fun e w' => e = .returned (.tuple #[.int .i64 c, .int .i64 ec]) ∧ Below u.heap.size u w')
    (c3 : ∀ u, Tabs u → Calls Tryd.prog 34 #[.int .i64 b, .int .i64 y] u fun e w' => e = .returned (.tuple #[.int .i64 t, .int .i64 et]) ∧ Below u.heap.size u w')
    (c4 : ∀ u, Tabs u → Calls Tryd.prog 34 #[.int .i64 a, .int .i64 (x + y)] u fun e w' => e = .returned (.tuple #[.int .i64 o, .int .i64 eo]) ∧ Below u.heap.size u w')
    (c5 : ∀ u, Tabs u → Calls Tryd.prog 34 #[.int .i64 b, .int .i64 (-x)] u fun e w' => e = .returned (.tuple #[.int .i64 q, .int .i64 eq]) ∧ Below u.heap.size u w')
    (bx : -600 ≤ x ∧ x ≤ 600) (by_ : -600 ≤ y ∧ y ≤ 600) (i1 : IntKind.i64.wrap (xr - 600) = x) (i2 : IntKind.i64.wrap (yr - 600) = y) (i3 : IntKind.i64.wrap (a + 1) = a + 1) (i4 : IntKind.i64.wrap (x + y) = x + y) (i5 : IntKind.i64.wrap (-x) = -x) (i6 : min (a + 1) 3652058 = a2) (e1 : eb = 0) (e2 : ¬ ec = 0) (e3 : ¬ 28 < Da) (g1 : q = a) (g2 : eq = 0) (g3 : t = o) (g4 : et = eo) : Calls Tryd.prog 13 #[.int .i64 n, .int .i64 m, .int .i64 k] w fun e w' => e = .returned (.bool true) ∧ Below w.heap.size w w' := by
  subst e1 g1 g2 g3 g4
  have HDH := Lib.hid cDH
  have HX := Lib.hid cX
  have HY := Lib.hid cY
  have HO1 := Lib.hid cO
  have H1 := Lib.hid c1
  have H2 := Lib.hid c2
  have H3 := Lib.hid c3
  have H4 := Lib.hid c4
  have H5 := Lib.hid c5
  have HTP := Lib.hid hT
  have HT0 := HTP
  have HBP : Hid (Below w.heap.size w w) := Lib.hid (Below.refl _ _)
  clear hT cDH cX cY cO c1 c2 c3 c4 c5
  go_enter Tryd.func13, Tryd.ntmps13
  go_upto_region 2 with (go_at_call 21; refine (HDH.out _).mono ?_; rintro e w1 ⟨rfl, rfl⟩)
  go_upto_region 3 with (go_at_call 15; refine (HX.out _).mono ?_; rintro e w1 ⟨rfl, rfl⟩)
  go_upto_region 4 with (go_at_call 15; refine (HY.out _).mono ?_; rintro e w1 ⟨rfl, rfl⟩)
  go_upto_region 5 with (go_at_call 22; refine (HO1.out _ HTP.out).mono ?_; rintro e v1 ⟨rfl, hb⟩; have HTN := Tab_stepD HTP hb; have HBN := Bel_stepD HBP hb; clear HTP HBP; have HTP := HTN; have HBP := HBN; clear HTN HBN; clear hb; have pd : DB (v1.alloc (.cells #[.int .i64 0, .int .i64 0, .int .i64 0] 23)) v1.heap.size := ⟨0, 0, 0, heap_new0⟩)
  obtain ⟨w2, hw⟩ : ∃ w2, w2 = (v1.alloc (.cells #[.int .i64 0, .int .i64 0, .int .i64 0] 23)).setRow v1.heap.size #[.int .i64 Ya, .int .i64 Ma, .int .i64 Da] := ⟨_, rfl⟩
  obtain ⟨g10, hg⟩ : ∃ g10, g10 = v1.heap.size := ⟨_, rfl⟩
  have hrow : w2.heap[g10]? = some (.cells #[.int .i64 Ya, .int .i64 Ma, .int .i64 Da] 23 (0, 0)) := by rw [hw, hg]; exact setRow_heap _ _ _ _ _ _ heap_new0
  have hb : Below v1.heap.size v1 w2 := by rw [hw]; exact (((Kept.refl (fun _ => False) v1).alloc _).setRow (fun h => by omega) _).below (Nat.le_refl _) (fun _ _ h => h)
  have HG_g10 : Hid (w.heap.size ≤ g10) := Lib.hid (by rw [hg]; exact HBP.out.size)
  have HR_g10 := Lib.hid hrow
  have HTN := Tab_stepD HTP hb
  have HBN := Bel_stepD HBP hb
  clear HTP HBP
  have HTP := HTN
  have HBP := HBN
  clear HTN HBN
  rw [← hw]
  rw [← hg]
  clear hw hg hrow hb pd
  have c_g10_0 : w2.cell? ⟨g10, 0, none⟩ = some (.int .i64 Ya) := cell_of_row w2 g10 0 _ _ _ HR_g10.out
  have c_g10_1 : w2.cell? ⟨g10, 1, none⟩ = some (.int .i64 Ma) := cell_of_row w2 g10 1 _ _ _ HR_g10.out
  have c_g10_2 : w2.cell? ⟨g10, 2, none⟩ = some (.int .i64 Da) := cell_of_row w2 g10 2 _ _ _ HR_g10.out
  have f_g10_0 : w2.frozen? ⟨g10, 0, none⟩ = false := frozen_of_row w2 g10 0 _ _ HR_g10.out
  have f_g10_1 : w2.frozen? ⟨g10, 1, none⟩ = false := frozen_of_row w2 g10 1 _ _ HR_g10.out
  have f_g10_2 : w2.frozen? ⟨g10, 2, none⟩ = false := frozen_of_row w2 g10 2 _ _ HR_g10.out
  go_upto_region 6 with (go_at_call 34; refine (H1.out _ HTP.out).mono ?_; rintro e v2 ⟨rfl, hb⟩; have HTN := Tab_stepD HTP hb; have HBN := Bel_stepD HBP hb; clear HTP HBP; have HTP := HTN; have HBP := HBN; clear HTN HBN; have HRN := Lib.hid ((hb.block g10 (heap_lt HR_g10.out)).trans HR_g10.out); clear HR_g10; have HR_g10 := HRN; clear HRN; clear c_g10_0 c_g10_1 c_g10_2; have c_g10_0 : v2.cell? ⟨g10, 0, none⟩ = some (.int .i64 Ya) := cell_of_row v2 g10 0 _ _ _ HR_g10.out; have c_g10_1 : v2.cell? ⟨g10, 1, none⟩ = some (.int .i64 Ma) := cell_of_row v2 g10 1 _ _ _ HR_g10.out; have c_g10_2 : v2.cell? ⟨g10, 2, none⟩ = some (.int .i64 Da) := cell_of_row v2 g10 2 _ _ _ HR_g10.out; clear hb)
  go_upto_region 7 with (go_at_call 34; refine (H2.out _ HTP.out).mono ?_; rintro e v3 ⟨rfl, hb⟩; have HTN := Tab_stepD HTP hb; have HBN := Bel_stepD HBP hb; clear HTP HBP; have HTP := HTN; have HBP := HBN; clear HTN HBN; have HRN := Lib.hid ((hb.block g10 (heap_lt HR_g10.out)).trans HR_g10.out); clear HR_g10; have HR_g10 := HRN; clear HRN; clear c_g10_0 c_g10_1 c_g10_2; have c_g10_0 : v3.cell? ⟨g10, 0, none⟩ = some (.int .i64 Ya) := cell_of_row v3 g10 0 _ _ _ HR_g10.out; have c_g10_1 : v3.cell? ⟨g10, 1, none⟩ = some (.int .i64 Ma) := cell_of_row v3 g10 1 _ _ _ HR_g10.out; have c_g10_2 : v3.cell? ⟨g10, 2, none⟩ = some (.int .i64 Da) := cell_of_row v3 g10 2 _ _ _ HR_g10.out; clear hb)
  go_upto_region 10 with (go_at_call 34; refine (H3.out _ HTP.out).mono ?_; rintro e v4 ⟨rfl, hb⟩; have HTN := Tab_stepD HTP hb; have HBN := Bel_stepD HBP hb; clear HTP HBP; have HTP := HTN; have HBP := HBN; clear HTN HBN; have HRN := Lib.hid ((hb.block g10 (heap_lt HR_g10.out)).trans HR_g10.out); clear HR_g10; have HR_g10 := HRN; clear HRN; clear c_g10_0 c_g10_1 c_g10_2; have c_g10_0 : v4.cell? ⟨g10, 0, none⟩ = some (.int .i64 Ya) := cell_of_row v4 g10 0 _ _ _ HR_g10.out; have c_g10_1 : v4.cell? ⟨g10, 1, none⟩ = some (.int .i64 Ma) := cell_of_row v4 g10 1 _ _ _ HR_g10.out; have c_g10_2 : v4.cell? ⟨g10, 2, none⟩ = some (.int .i64 Da) := cell_of_row v4 g10 2 _ _ _ HR_g10.out; clear hb)
  go_upto_region 11 with (go_at_call 34; refine (H4.out _ HTP.out).mono ?_; rintro e v5 ⟨rfl, hb⟩; have HTN := Tab_stepD HTP hb; have HBN := Bel_stepD HBP hb; clear HTP HBP; have HTP := HTN; have HBP := HBN; clear HTN HBN; have HRN := Lib.hid ((hb.block g10 (heap_lt HR_g10.out)).trans HR_g10.out); clear HR_g10; have HR_g10 := HRN; clear HRN; clear c_g10_0 c_g10_1 c_g10_2; have c_g10_0 : v5.cell? ⟨g10, 0, none⟩ = some (.int .i64 Ya) := cell_of_row v5 g10 0 _ _ _ HR_g10.out; have c_g10_1 : v5.cell? ⟨g10, 1, none⟩ = some (.int .i64 Ma) := cell_of_row v5 g10 1 _ _ _ HR_g10.out; have c_g10_2 : v5.cell? ⟨g10, 2, none⟩ = some (.int .i64 Da) := cell_of_row v5 g10 2 _ _ _ HR_g10.out; clear hb)
  go_upto_region 12 with (go_at_call 34; refine (H5.out _ HTP.out).mono ?_; rintro e v6 ⟨rfl, hb⟩; have HTN := Tab_stepD HTP hb; have HBN := Bel_stepD HBP hb; clear HTP HBP; have HTP := HTN; have HBP := HBN; clear HTN HBN; have HRN := Lib.hid ((hb.block g10 (heap_lt HR_g10.out)).trans HR_g10.out); clear HR_g10; have HR_g10 := HRN; clear HRN; clear c_g10_0 c_g10_1 c_g10_2; have c_g10_0 : v6.cell? ⟨g10, 0, none⟩ = some (.int .i64 Ya) := cell_of_row v6 g10 0 _ _ _ HR_g10.out; have c_g10_1 : v6.cell? ⟨g10, 1, none⟩ = some (.int .i64 Ma) := cell_of_row v6 g10 1 _ _ _ HR_g10.out; have c_g10_2 : v6.cell? ⟨g10, 2, none⟩ = some (.int .i64 Da) := cell_of_row v6 g10 2 _ _ _ HR_g10.out; clear hb)
  go_wp2_with (go_at_call 19; refine (lives_any _ HTP.out).mono ?_; rintro e w1 ⟨rfl, hb⟩; have HTN := Tab_stepD HTP hb; have HBN := Bel_stepD HBP hb; clear HTP HBP; have HTP := HTN; have HBP := HBN; clear HTN HBN; clear hb)
  all_goals (go_ret; exact ⟨rfl, HBP.out⟩)
set_option maxRecDepth 100000 in
set_option maxHeartbeats 4000000 in
theorem adds_good2 (n m k a a2 x y xr yr Ya Ma Da b eb c ec t et o eo q eq : Int) (w : World) (hT : Tabs w)
    (cDH : ∀ u, Calls Tryd.prog 21 #[.int .i64 n] u fun e w' => e = .returned (.int .i64 a) ∧ u = w')
    (cX : ∀ u, Calls Tryd.prog 15 #[.int .i64 m, .int .i64 1201] u fun e w' => e = .returned (.int .i64 xr) ∧ u = w')
    (cY : ∀ u, Calls Tryd.prog 15 #[.int .i64 k, .int .i64 1201] u fun e w' => e = .returned (.int .i64 yr) ∧ u = w')
    (cO : ∀ u, Tabs u → Calls Tryd.prog 22 #[.int .i64 a] u fun e w' => e = .returned (.tuple #[.agg #[.int .i64 Ya, .int .i64 Ma, .int .i64 Da], .int .i64 0]) ∧ Below u.heap.size u w')
    (c1 : ∀ u, Tabs u → Calls Tryd.prog 34 #[.int .i64 a, .int .i64 x] u fun e w' => e = .returned (.tuple #[.int .i64 b, .int .i64 eb]) ∧ Below u.heap.size u w')
    (c2 : ∀ u, Tabs u → Calls Tryd.prog 34 #[.int .i64 a2, .int .i64 x] u fun e w' => e = .returned (.tuple #[.int .i64 c, .int .i64 ec]) ∧ Below u.heap.size u w')
    (c3 : ∀ u, Tabs u → Calls Tryd.prog 34 #[.int .i64 b, .int .i64 y] u fun e w' => e = .returned (.tuple #[.int .i64 t, .int .i64 et]) ∧ Below u.heap.size u w')
    (c4 : ∀ u, Tabs u → Calls Tryd.prog 34 #[.int .i64 a, .int .i64 (x + y)] u fun e w' => e = .returned (.tuple #[.int .i64 o, .int .i64 eo]) ∧ Below u.heap.size u w')
    (c5 : ∀ u, Tabs u → Calls Tryd.prog 34 #[.int .i64 b, .int .i64 (-x)] u fun e w' => e = .returned (.tuple #[.int .i64 q, .int .i64 eq]) ∧ Below u.heap.size u w')
    (bx : -600 ≤ x ∧ x ≤ 600) (by_ : -600 ≤ y ∧ y ≤ 600) (i1 : IntKind.i64.wrap (xr - 600) = x) (i2 : IntKind.i64.wrap (yr - 600) = y) (i3 : IntKind.i64.wrap (a + 1) = a + 1) (i4 : IntKind.i64.wrap (x + y) = x + y) (i5 : IntKind.i64.wrap (-x) = -x) (i6 : min (a + 1) 3652058 = a2) (e1 : eb = 0) (e2 : ec = 0) (e4 : ¬ c < b) (e3 : ¬ 28 < Da) (g1 : q = a) (g2 : eq = 0) (g3 : t = o) (g4 : et = eo) : Calls Tryd.prog 13 #[.int .i64 n, .int .i64 m, .int .i64 k] w fun e w' => e = .returned (.bool true) ∧ Below w.heap.size w w' := by
  subst e1 e2 g1 g2 g3 g4
  have HDH := Lib.hid cDH
  have HX := Lib.hid cX
  have HY := Lib.hid cY
  have HO1 := Lib.hid cO
  have H1 := Lib.hid c1
  have H2 := Lib.hid c2
  have H3 := Lib.hid c3
  have H4 := Lib.hid c4
  have H5 := Lib.hid c5
  have HTP := Lib.hid hT
  have HT0 := HTP
  have HBP : Hid (Below w.heap.size w w) := Lib.hid (Below.refl _ _)
  clear hT cDH cX cY cO c1 c2 c3 c4 c5
  go_enter Tryd.func13, Tryd.ntmps13
  go_upto_region 2 with (go_at_call 21; refine (HDH.out _).mono ?_; rintro e w1 ⟨rfl, rfl⟩)
  go_upto_region 3 with (go_at_call 15; refine (HX.out _).mono ?_; rintro e w1 ⟨rfl, rfl⟩)
  go_upto_region 4 with (go_at_call 15; refine (HY.out _).mono ?_; rintro e w1 ⟨rfl, rfl⟩)
  go_upto_region 5 with (go_at_call 22; refine (HO1.out _ HTP.out).mono ?_; rintro e v1 ⟨rfl, hb⟩; have HTN := Tab_stepD HTP hb; have HBN := Bel_stepD HBP hb; clear HTP HBP; have HTP := HTN; have HBP := HBN; clear HTN HBN; clear hb; have pd : DB (v1.alloc (.cells #[.int .i64 0, .int .i64 0, .int .i64 0] 23)) v1.heap.size := ⟨0, 0, 0, heap_new0⟩)
  obtain ⟨w2, hw⟩ : ∃ w2, w2 = (v1.alloc (.cells #[.int .i64 0, .int .i64 0, .int .i64 0] 23)).setRow v1.heap.size #[.int .i64 Ya, .int .i64 Ma, .int .i64 Da] := ⟨_, rfl⟩
  obtain ⟨g10, hg⟩ : ∃ g10, g10 = v1.heap.size := ⟨_, rfl⟩
  have hrow : w2.heap[g10]? = some (.cells #[.int .i64 Ya, .int .i64 Ma, .int .i64 Da] 23 (0, 0)) := by rw [hw, hg]; exact setRow_heap _ _ _ _ _ _ heap_new0
  have hb : Below v1.heap.size v1 w2 := by rw [hw]; exact (((Kept.refl (fun _ => False) v1).alloc _).setRow (fun h => by omega) _).below (Nat.le_refl _) (fun _ _ h => h)
  have HG_g10 : Hid (w.heap.size ≤ g10) := Lib.hid (by rw [hg]; exact HBP.out.size)
  have HR_g10 := Lib.hid hrow
  have HTN := Tab_stepD HTP hb
  have HBN := Bel_stepD HBP hb
  clear HTP HBP
  have HTP := HTN
  have HBP := HBN
  clear HTN HBN
  rw [← hw]
  rw [← hg]
  clear hw hg hrow hb pd
  have c_g10_0 : w2.cell? ⟨g10, 0, none⟩ = some (.int .i64 Ya) := cell_of_row w2 g10 0 _ _ _ HR_g10.out
  have c_g10_1 : w2.cell? ⟨g10, 1, none⟩ = some (.int .i64 Ma) := cell_of_row w2 g10 1 _ _ _ HR_g10.out
  have c_g10_2 : w2.cell? ⟨g10, 2, none⟩ = some (.int .i64 Da) := cell_of_row w2 g10 2 _ _ _ HR_g10.out
  have f_g10_0 : w2.frozen? ⟨g10, 0, none⟩ = false := frozen_of_row w2 g10 0 _ _ HR_g10.out
  have f_g10_1 : w2.frozen? ⟨g10, 1, none⟩ = false := frozen_of_row w2 g10 1 _ _ HR_g10.out
  have f_g10_2 : w2.frozen? ⟨g10, 2, none⟩ = false := frozen_of_row w2 g10 2 _ _ HR_g10.out
  go_upto_region 6 with (go_at_call 34; refine (H1.out _ HTP.out).mono ?_; rintro e v2 ⟨rfl, hb⟩; have HTN := Tab_stepD HTP hb; have HBN := Bel_stepD HBP hb; clear HTP HBP; have HTP := HTN; have HBP := HBN; clear HTN HBN; have HRN := Lib.hid ((hb.block g10 (heap_lt HR_g10.out)).trans HR_g10.out); clear HR_g10; have HR_g10 := HRN; clear HRN; clear c_g10_0 c_g10_1 c_g10_2; have c_g10_0 : v2.cell? ⟨g10, 0, none⟩ = some (.int .i64 Ya) := cell_of_row v2 g10 0 _ _ _ HR_g10.out; have c_g10_1 : v2.cell? ⟨g10, 1, none⟩ = some (.int .i64 Ma) := cell_of_row v2 g10 1 _ _ _ HR_g10.out; have c_g10_2 : v2.cell? ⟨g10, 2, none⟩ = some (.int .i64 Da) := cell_of_row v2 g10 2 _ _ _ HR_g10.out; clear hb)
  go_upto_region 7 with (go_at_call 34; refine (H2.out _ HTP.out).mono ?_; rintro e v3 ⟨rfl, hb⟩; have HTN := Tab_stepD HTP hb; have HBN := Bel_stepD HBP hb; clear HTP HBP; have HTP := HTN; have HBP := HBN; clear HTN HBN; have HRN := Lib.hid ((hb.block g10 (heap_lt HR_g10.out)).trans HR_g10.out); clear HR_g10; have HR_g10 := HRN; clear HRN; clear c_g10_0 c_g10_1 c_g10_2; have c_g10_0 : v3.cell? ⟨g10, 0, none⟩ = some (.int .i64 Ya) := cell_of_row v3 g10 0 _ _ _ HR_g10.out; have c_g10_1 : v3.cell? ⟨g10, 1, none⟩ = some (.int .i64 Ma) := cell_of_row v3 g10 1 _ _ _ HR_g10.out; have c_g10_2 : v3.cell? ⟨g10, 2, none⟩ = some (.int .i64 Da) := cell_of_row v3 g10 2 _ _ _ HR_g10.out; clear hb)
  go_upto_region 10 with (go_at_call 34; refine (H3.out _ HTP.out).mono ?_; rintro e v4 ⟨rfl, hb⟩; have HTN := Tab_stepD HTP hb; have HBN := Bel_stepD HBP hb; clear HTP HBP; have HTP := HTN; have HBP := HBN; clear HTN HBN; have HRN := Lib.hid ((hb.block g10 (heap_lt HR_g10.out)).trans HR_g10.out); clear HR_g10; have HR_g10 := HRN; clear HRN; clear c_g10_0 c_g10_1 c_g10_2; have c_g10_0 : v4.cell? ⟨g10, 0, none⟩ = some (.int .i64 Ya) := cell_of_row v4 g10 0 _ _ _ HR_g10.out; have c_g10_1 : v4.cell? ⟨g10, 1, none⟩ = some (.int .i64 Ma) := cell_of_row v4 g10 1 _ _ _ HR_g10.out; have c_g10_2 : v4.cell? ⟨g10, 2, none⟩ = some (.int .i64 Da) := cell_of_row v4 g10 2 _ _ _ HR_g10.out; clear hb)
  go_upto_region 11 with (go_at_call 34; refine (H4.out _ HTP.out).mono ?_; rintro e v5 ⟨rfl, hb⟩; have HTN := Tab_stepD HTP hb; have HBN := Bel_stepD HBP hb; clear HTP HBP; have HTP := HTN; have HBP := HBN; clear HTN HBN; have HRN := Lib.hid ((hb.block g10 (heap_lt HR_g10.out)).trans HR_g10.out); clear HR_g10; have HR_g10 := HRN; clear HRN; clear c_g10_0 c_g10_1 c_g10_2; have c_g10_0 : v5.cell? ⟨g10, 0, none⟩ = some (.int .i64 Ya) := cell_of_row v5 g10 0 _ _ _ HR_g10.out; have c_g10_1 : v5.cell? ⟨g10, 1, none⟩ = some (.int .i64 Ma) := cell_of_row v5 g10 1 _ _ _ HR_g10.out; have c_g10_2 : v5.cell? ⟨g10, 2, none⟩ = some (.int .i64 Da) := cell_of_row v5 g10 2 _ _ _ HR_g10.out; clear hb)
  go_upto_region 12 with (go_at_call 34; refine (H5.out _ HTP.out).mono ?_; rintro e v6 ⟨rfl, hb⟩; have HTN := Tab_stepD HTP hb; have HBN := Bel_stepD HBP hb; clear HTP HBP; have HTP := HTN; have HBP := HBN; clear HTN HBN; have HRN := Lib.hid ((hb.block g10 (heap_lt HR_g10.out)).trans HR_g10.out); clear HR_g10; have HR_g10 := HRN; clear HRN; clear c_g10_0 c_g10_1 c_g10_2; have c_g10_0 : v6.cell? ⟨g10, 0, none⟩ = some (.int .i64 Ya) := cell_of_row v6 g10 0 _ _ _ HR_g10.out; have c_g10_1 : v6.cell? ⟨g10, 1, none⟩ = some (.int .i64 Ma) := cell_of_row v6 g10 1 _ _ _ HR_g10.out; have c_g10_2 : v6.cell? ⟨g10, 2, none⟩ = some (.int .i64 Da) := cell_of_row v6 g10 2 _ _ _ HR_g10.out; clear hb)
  go_wp2_with (go_at_call 19; refine (lives_any _ HTP.out).mono ?_; rintro e w1 ⟨rfl, hb⟩; have HTN := Tab_stepD HTP hb; have HBN := Bel_stepD HBP hb; clear HTP HBP; have HTP := HTN; have HBP := HBN; clear HTN HBN; clear hb)
  all_goals (go_ret; exact ⟨rfl, HBP.out⟩)
theorem adds_law (n m k : Int) (w : World) (hT : Tabs w) (n1 : -9223372036854775808 ≤ n) (n2 : n ≤ 9223372036854775807) (m1 : -9223372036854775808 ≤ m) (m2 : m ≤ 9223372036854775807) (k1 : -9223372036854775808 ≤ k) (k2 : k ≤ 9223372036854775807) : Calls Tryd.prog 13 #[.int .i64 n, .int .i64 m, .int .i64 k] w fun e w' => e = .returned (.bool true) ∧ Below w.heap.size w w' := by
  have bX := aroundD_bd m 1201 (by omega)
  have bY := aroundD_bd k 1201 (by omega)
  have hok := dayOfN_ok n
  obtain ⟨a, ha⟩ : ∃ a, a = dayOfN n := ⟨_, rfl⟩
  have cDH : ∀ u, Calls Tryd.prog 21 #[.int .i64 n] u fun e w' => e = .returned (.int .i64 a) ∧ u = w' := fun u => by rw [ha]; exact dayHelp_any n u n1 n2
  rw [← ha] at hok
  clear ha
  obtain ⟨xr, hxr⟩ : ∃ xr, xr = aroundD m 1201 := ⟨_, rfl⟩
  obtain ⟨yr, hyr⟩ : ∃ yr, yr = aroundD k 1201 := ⟨_, rfl⟩
  have cX : ∀ u, Calls Tryd.prog 15 #[.int .i64 m, .int .i64 1201] u fun e w' => e = .returned (.int .i64 xr) ∧ u = w' := fun u => by rw [hxr]; exact aroundD_any m 1201 u m1 m2 (by omega) (by omega)
  have cY : ∀ u, Calls Tryd.prog 15 #[.int .i64 k, .int .i64 1201] u fun e w' => e = .returned (.int .i64 yr) ∧ u = w' := fun u => by rw [hyr]; exact aroundD_any k 1201 u k1 k2 (by omega) (by omega)
  rw [← hxr] at bX
  rw [← hyr] at bY
  clear hxr hyr
  obtain ⟨x, hx⟩ : ∃ x, x = xr - 600 := ⟨_, rfl⟩
  obtain ⟨y, hy⟩ : ∃ y, y = yr - 600 := ⟨_, rfl⟩
  have i1 : IntKind.i64.wrap (xr - 600) = x := by rw [hx]; exact i64_id _ (by omega) (by omega)
  have i2 : IntKind.i64.wrap (yr - 600) = y := by rw [hy]; exact i64_id _ (by omega) (by omega)
  have i3 : IntKind.i64.wrap (a + 1) = a + 1 := i64_id _ (by have := hok.1; omega) (by have := hok.2; omega)
  have i4 : IntKind.i64.wrap (x + y) = x + y := i64_id _ (by omega) (by omega)
  have i5 : IntKind.i64.wrap (-x) = -x := i64_id _ (by omega) (by omega)
  obtain ⟨a2, ha2⟩ : ∃ a2, a2 = min (a + 1) 3652058 := ⟨_, rfl⟩
  have bx : -600 ≤ x ∧ x ≤ 600 := by omega
  have by_ : -600 ≤ y ∧ y ≤ 600 := by omega
  have hmon : amE a x = 0 → amE a2 x = 0 → ¬ amR a2 x < amR a x := fun e1 e2 => by
    have h0 := hok.1
    have h1 := hok.2
    by_cases hm : a + 1 ≤ 3652058
    · have e : a2 = a + 1 := by omega
      rw [e] at e2 ⊢
      have := am_mono (n := a) (k := x) (by omega) (by omega) hok ⟨by omega, hm⟩ e1 e2
      omega
    · have e : a2 = a := by omega
      rw [e]
      omega
  have hgood : amE a x = 0 → mdayN a ≤ 28 → amR (amR a x) (-x) = a ∧ amE (amR a x) (-x) = 0 ∧ amR (amR a x) y = amR a (x + y) ∧ amE (amR a x) y = amE a (x + y) := fun e1 hd => by
    have p := am_comp (n := a) (k := x) (j := y) (by omega) (by omega) (by omega) (by omega) hok hd e1
    have q := am_comp (n := a) (k := x) (j := -x) (by omega) (by omega) (by omega) (by omega) hok hd e1
    have z := am_zero hok hd
    rw [show x + -x = 0 by omega, z.1, z.2] at q
    exact ⟨q.2, q.1, p.2, p.1⟩
  have cO := fun u hu => of_good hok u hu
  have c1 := fun u hu => addMonths_any a x u hu
  have c2 := fun u hu => addMonths_any a2 x u hu
  have c3 := fun u hu => addMonths_any (amR a x) y u hu
  have c4 := fun u hu => addMonths_any a (x + y) u hu
  have c5 := fun u hu => addMonths_any (amR a x) (-x) u hu
  by_cases e1 : amE a x = 0
  · by_cases e3 : 28 < mdayN a
    · by_cases e2 : amE a2 x = 0
      · exact adds_late2 n m k a a2 x y xr yr _ _ _ _ _ _ _ _ _ _ _ _ _ w hT cDH cX cY cO c1 c2 c3 c4 c5 bx by_ i1 i2 i3 i4 i5 ha2.symm e1 e2 (hmon e1 e2) e3
      · exact adds_late1 n m k a a2 x y xr yr _ _ _ _ _ _ _ _ _ _ _ _ _ w hT cDH cX cY cO c1 c2 c3 c4 c5 bx by_ i1 i2 i3 i4 i5 ha2.symm e1 e2 e3
    · obtain ⟨g1, g2, g3, g4⟩ := hgood e1 (by omega)
      by_cases e2 : amE a2 x = 0
      · exact adds_good2 n m k a a2 x y xr yr _ _ _ _ _ _ _ _ _ _ _ _ _ w hT cDH cX cY cO c1 c2 c3 c4 c5 bx by_ i1 i2 i3 i4 i5 ha2.symm e1 e2 (hmon e1 e2) e3 g1 g2 g3 g4
      · exact adds_good1 n m k a a2 x y xr yr _ _ _ _ _ _ _ _ _ _ _ _ _ w hT cDH cX cY cO c1 c2 c3 c4 c5 bx by_ i1 i2 i3 i4 i5 ha2.symm e1 e2 e3 g1 g2 g3 g4
  · by_cases e3 : 28 < mdayN a
    · exact adds_bad1 n m k a a2 x y xr yr _ _ _ _ _ _ _ _ _ _ _ _ _ w hT cDH cX cY cO c1 c2 c3 c4 c5 bx by_ i1 i2 i3 i4 i5 ha2.symm e1 e3
    · exact adds_bad2 n m k a a2 x y xr yr _ _ _ _ _ _ _ _ _ _ _ _ _ w hT cDH cX cY cO c1 c2 c3 c4 c5 bx by_ i1 i2 i3 i4 i5 ha2.symm e1 e3
end Go.Proofs.YtcoijmggfkjcjaaDoor

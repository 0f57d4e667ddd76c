/-
  The law DateRound (written by gen_IR.py).
-/
import Derived.Test.YtcoijmggfkjcjaaDoorIP
import Derived.Test.YtcoijmggfkjcjaaDoorIQ
namespace Go.Proofs.YtcoijmggfkjcjaaDoor
open Go.RowKit
set_option linter.unusedSimpArgs false
set_option linter.unusedVariables false
attribute [local go_sem ↓] exec_storeDate
attribute [local go_sem] run_storeDate
theorem prs_print {y m d : Int} (h : validD y m d) : prsE (printL y m d) = 0 ∧ prsN (printL y m d) = dayN y m d := by
  have hs := valid_small h
  have a := p4_num y.toNat (by omega)
  have b := p2_num m.toNat (by omega)
  have c := p2_num d.toNat (by omega)
  have e1 : (printL y m d).take 4 = p4 y.toNat := rfl
  have e2 : ((printL y m d).drop 5).take 2 = p2 m.toNat := rfl
  have e3 : (printL y m d).drop 8 = p2 d.toNat := rfl
  have ey : (y.toNat : Int) = y := by omega
  have em : (m.toNat : Int) = m := by omega
  have ed : (d.toNat : Int) = d := by omega
  have hw : wellF (printL y m d) = true := by
    unfold wellF
    rw [e1, e2, e3, a.1, b.1, c.1]
    rfl
  unfold prsE prsN
  rw [if_pos hw, if_pos hw, e1, e2, e3, a.2, b.2, c.2, ey, em, ed]
  refine ⟨chk_ok h, ?_⟩
  unfold dayR
  rw [if_pos h]
theorem printB_list {n : Int} (h : okN n) : (printB n).data.toList = printL (yearN n) (monthN n) (mdayN n) := by unfold printB; rw [if_pos h]
theorem printB_size {n : Int} (h : okN n) : (printB n).size = 10 := by unfold printB; rw [if_pos h]; rfl
theorem parse_good {n : Int} (h : okN n) (u : World) (hu : Tabs u) : Calls Tryd.prog 36 #[.string (printB n)] u fun e w' => e = .returned (.tuple #[.int .i64 n, .int .i64 0]) ∧ Below u.heap.size u w' := by
  have h1 := parse_any (printB n) u (by rw [printB_size h]; decide) hu
  have ho := of_ok n h.1 h.2
  have hp := prs_print ho.1
  rw [printB_list h, hp.1, hp.2, ho.2] at h1
  exact h1
def Drd7 : List (Option Tmp) := [some 55, some 56, some 57, some 58, some 59, some 60, some 61, some 62, some 63, some 12, none]
def Lrd7 : List (List Nat) := [[], [0], [1], [2], [], [4], [5], [6], [3, 7], [], [9, 8]]
set_option maxRecDepth 100000 in
set_option maxHeartbeats 4000000 in
theorem round_law (n A B C : Int) (w : World) (hT : Tabs w) (n1 : -9223372036854775808 ≤ n) (n2 : n ≤ 9223372036854775807) (a1 : -9223372036854775808 ≤ A) (a2 : A ≤ 9223372036854775807) (b1 : -9223372036854775808 ≤ B) (b2 : B ≤ 9223372036854775807) (c1 : -9223372036854775808 ≤ C) (c2 : C ≤ 9223372036854775807) : Calls Tryd.prog 9 #[.int .i64 n, .agg #[.int .i64 A, .int .i64 B, .int .i64 C]] w fun e w' => e = .returned (.bool true) ∧ Below w.heap.size w w' := by
  have bA := aroundD_bd A 9999 (by omega)
  have bB := aroundD_bd B 12 (by omega)
  have HA1 : Hid (∀ u, Calls Tryd.prog 15 #[.int .i64 A, .int .i64 9999] u fun e w' => e = .returned (.int .i64 (aroundD A 9999)) ∧ w' = u) := Lib.hid (fun u => (aroundD_any A 9999 u a1 a2 (by omega) (by omega)).mono fun e w' h => ⟨h.1, h.2.symm⟩)
  have HA2 : Hid (∀ u, Calls Tryd.prog 15 #[.int .i64 B, .int .i64 12] u fun e w' => e = .returned (.int .i64 (aroundD B 12)) ∧ w' = u) := Lib.hid (fun u => (aroundD_any B 12 u b1 b2 (by omega) (by omega)).mono fun e w' h => ⟨h.1, h.2.symm⟩)
  obtain ⟨x, hx⟩ : ∃ x, x = aroundD A 9999 := ⟨_, rfl⟩
  obtain ⟨z, hz⟩ : ∃ z, z = aroundD B 12 := ⟨_, rfl⟩
  rw [← hx] at HA1 bA
  rw [← hz] at HA2 bB
  obtain ⟨y, hy⟩ : ∃ y, y = 1 + x := ⟨_, rfl⟩
  obtain ⟨m, hm⟩ : ∃ m, m = 1 + z := ⟨_, rfl⟩
  have i1 : IntKind.i64.wrap (1 + x) = y := by rw [hy]; exact i64_id _ (by omega) (by omega)
  have i2 : IntKind.i64.wrap (1 + z) = m := by rw [hm]; exact i64_id _ (by omega) (by omega)
  have hyb : 1 ≤ y ∧ y ≤ 9999 := by omega
  have hmb : 1 ≤ m ∧ m ≤ 12 := by omega
  have hL := len_pos y m hmb.1 hmb.2
  obtain ⟨L, hLL⟩ : ∃ L, L = lenD y m := ⟨_, rfl⟩
  rw [← hLL] at hL
  have bC := aroundD_bd C L (by omega)
  have HA3 : Hid (∀ u, Calls Tryd.prog 15 #[.int .i64 C, .int .i64 L] u fun e w' => e = .returned (.int .i64 (aroundD C L)) ∧ w' = u) := Lib.hid (fun u => (aroundD_any C L u c1 c2 (by omega) (by omega)).mono fun e w' h => ⟨h.1, h.2.symm⟩)
  obtain ⟨v, hv⟩ : ∃ v, v = aroundD C L := ⟨_, rfl⟩
  rw [← hv] at HA3 bC
  obtain ⟨d, hd⟩ : ∃ d, d = 1 + v := ⟨_, rfl⟩
  have i3 : IntKind.i64.wrap (1 + v) = d := by rw [hd]; exact i64_id _ (by omega) (by omega)
  have hmx : max 1 L = L := Int.max_eq_right (by omega)
  have hval : validD y m d := ⟨hyb.1, by omega, by omega, by rw [← hLL]; omega⟩
  have HLN : Hid (∀ u, Tabs u → Calls Tryd.prog 30 #[.int .i64 y, .int .i64 m] u fun e w' => e = .returned (.int .i64 L) ∧ w' = u) := Lib.hid (fun u hu => by rw [hLL]; exact (length_any y m u hu).mono fun e w' h => ⟨h.1, h.2.symm⟩)
  have hok := dayOfN_ok n
  have hoo := of_ok _ hok.1 hok.2
  have rk := day_rng hval
  have hok2 : okN (dayN y m d) := rk
  have hod := of_day hval
  obtain ⟨a, ha⟩ : ∃ a, a = dayOfN n := ⟨_, rfl⟩
  rw [← ha] at hok hoo
  obtain ⟨k, hk⟩ : ∃ k, k = dayN y m d := ⟨_, rfl⟩
  have HDH : Hid (∀ u, Calls Tryd.prog 21 #[.int .i64 n] u fun e w' => e = .returned (.int .i64 a) ∧ u = w') := Lib.hid (fun u => by rw [ha]; exact dayHelp_any n u n1 n2)
  obtain ⟨Ya, hYa⟩ : ∃ x, x = yearN a := ⟨_, rfl⟩
  obtain ⟨Ma, hMa⟩ : ∃ x, x = monthN a := ⟨_, rfl⟩
  obtain ⟨Da, hDa⟩ : ∃ x, x = mdayN a := ⟨_, rfl⟩
  have HO1 : Hid (∀ u, Tabs u → Calls Tryd.prog 22 #[.int .i64 a] u fun e w' => e = .returned (.tuple #[.agg #[.int .i64 Ya, .int .i64 Ma, .int .i64 Da], .int .i64 0]) ∧ Below u.heap.size u w') := Lib.hid (fun u hu => by rw [hYa, hMa, hDa]; exact of_good hok u hu)
  have HD1 : Hid (∀ u, Tabs u → Calls Tryd.prog 16 #[.agg #[.int .i64 Ya, .int .i64 Ma, .int .i64 Da]] u fun e w' => e = .returned (.tuple #[.int .i64 a, .int .i64 0]) ∧ Below u.heap.size u w') := Lib.hid (fun u hu => by
    have h := day_good hoo.1 u hu
    rw [hoo.2, ← hYa, ← hMa, ← hDa] at h
    exact h)
  obtain ⟨ps, hps⟩ : ∃ ps, ps = printB a := ⟨_, rfl⟩
  have HP1 : Hid (∀ u, Tabs u → Calls Tryd.prog 24 #[.int .i64 a] u fun e w' => e = .returned (.string ps) ∧ Below u.heap.size u w') := Lib.hid (fun u hu => by rw [hps]; exact print_any a u hu)
  have HP2 : Hid (∀ u, Tabs u → Calls Tryd.prog 36 #[.string ps] u fun e w' => e = .returned (.tuple #[.int .i64 a, .int .i64 0]) ∧ Below u.heap.size u w') := Lib.hid (fun u hu => by rw [hps]; exact parse_good hok u hu)
  have HK : Hid (∀ u, Tabs u → Calls Tryd.prog 16 #[.agg #[.int .i64 y, .int .i64 m, .int .i64 d]] u fun e w' => e = .returned (.tuple #[.int .i64 k, .int .i64 0]) ∧ Below u.heap.size u w') := Lib.hid (fun u hu => by rw [hk]; exact day_good hval u hu)
  have HO2 : Hid (∀ u, Tabs u → Calls Tryd.prog 22 #[.int .i64 k] u fun e w' => e = .returned (.tuple #[.agg #[.int .i64 y, .int .i64 m, .int .i64 d], .int .i64 0]) ∧ Below u.heap.size u w') := Lib.hid (fun u hu => by
    have h := of_good hok2 u hu
    rw [hod.1, hod.2.1, hod.2.2, ← hk] at h
    exact h)
  rw [← hk] at rk
  have HTP := Lib.hid hT
  have HT0 := HTP
  have HBP : Hid (Below w.heap.size w w) := Lib.hid (Below.refl _ _)
  clear hT hx hz hy hm hLL hv hd bA bB bC hval hok hoo hok2 hod ha hk hYa hMa hDa hps
  go_enter Tryd.func9, Tryd.ntmps9
  go_upto_region 1 with fail
  obtain ⟨w0, hw⟩ : ∃ w0, w0 = w.alloc (.cells #[.int .i64 A, .int .i64 B, .int .i64 C] 23) := ⟨_, rfl⟩
  obtain ⟨g1, hg⟩ : ∃ g1, g1 = w.heap.size := ⟨_, rfl⟩
  have hrow : w0.heap[g1]? = some (.cells #[.int .i64 A, .int .i64 B, .int .i64 C] 23 (0, 0)) := by rw [hw, hg]; exact heap_new0
  have hb : Below w.heap.size w w0 := by rw [hw]; exact (Below.refl _ _).alloc (Nat.le_refl _) _
  have HR_g1 := Lib.hid hrow
  have HTN := Tab_stepD HTP hb
  have HBN := Bel_stepD HBP hb
  clear HTP HBP
  have HTP := HTN
  have HBP := HBN
  clear HTN HBN
  rw [← hw]
  rw [← hg]
  clear hw hg hrow hb
  have c_g1_0 : w0.cell? ⟨g1, 0, none⟩ = some (.int .i64 A) := cell_of_row w0 g1 0 _ _ _ HR_g1.out
  have c_g1_1 : w0.cell? ⟨g1, 1, none⟩ = some (.int .i64 B) := cell_of_row w0 g1 1 _ _ _ HR_g1.out
  have c_g1_2 : w0.cell? ⟨g1, 2, none⟩ = some (.int .i64 C) := cell_of_row w0 g1 2 _ _ _ HR_g1.out
  go_upto_region 2 with (go_at_call 21; refine (HDH.out _).mono ?_; rintro e w1 ⟨rfl, rfl⟩)
  go_upto_region 3 with (go_at_call 22; refine (HO1.out _ HTP.out).mono ?_; rintro e v1 ⟨rfl, hb⟩; have HTN := Tab_stepD HTP hb; have HBN := Bel_stepD HBP hb; clear HTP HBP; have HTP := HTN; have HBP := HBN; clear HTN HBN; have HRN := Lib.hid ((hb.block g1 (heap_lt HR_g1.out)).trans HR_g1.out); clear HR_g1; have HR_g1 := HRN; clear HRN; clear c_g1_0 c_g1_1 c_g1_2; have c_g1_0 : v1.cell? ⟨g1, 0, none⟩ = some (.int .i64 A) := cell_of_row v1 g1 0 _ _ _ HR_g1.out; have c_g1_1 : v1.cell? ⟨g1, 1, none⟩ = some (.int .i64 B) := cell_of_row v1 g1 1 _ _ _ HR_g1.out; have c_g1_2 : v1.cell? ⟨g1, 2, none⟩ = some (.int .i64 C) := cell_of_row v1 g1 2 _ _ _ HR_g1.out; clear hb; have pd : DB (v1.alloc (.cells #[.int .i64 0, .int .i64 0, .int .i64 0] 23)) v1.heap.size := ⟨0, 0, 0, heap_new0⟩)
  obtain ⟨w2, hw⟩ : ∃ w2, w2 = (v1.alloc (.cells #[.int .i64 0, .int .i64 0, .int .i64 0] 23)).setRow v1.heap.size #[.int .i64 Ya, .int .i64 Ma, .int .i64 Da] := ⟨_, rfl⟩
  obtain ⟨g6, hg⟩ : ∃ g6, g6 = v1.heap.size := ⟨_, rfl⟩
  have hrow : w2.heap[g6]? = some (.cells #[.int .i64 Ya, .int .i64 Ma, .int .i64 Da] 23 (0, 0)) := by rw [hw, hg]; exact setRow_heap _ _ _ _ _ _ heap_new0
  have hb : Below v1.heap.size v1 w2 := by rw [hw]; exact (((Kept.refl (fun _ => False) v1).alloc _).setRow (fun h => by omega) _).below (Nat.le_refl _) (fun _ _ h => h)
  have HG_g6 : Hid (w.heap.size ≤ g6) := Lib.hid (by rw [hg]; exact HBP.out.size)
  have HNE_g1_g6 : Hid (g1 ≠ g6) := Lib.hid (by have := heap_lt HR_g1.out; omega)
  have HRN := Lib.hid ((hb.block g1 (heap_lt HR_g1.out)).trans HR_g1.out)
  clear HR_g1
  have HR_g1 := HRN
  clear HRN
  have HR_g6 := Lib.hid hrow
  have HTN := Tab_stepD HTP hb
  have HBN := Bel_stepD HBP hb
  clear HTP HBP
  have HTP := HTN
  have HBP := HBN
  clear HTN HBN
  rw [← hw]
  rw [← hg]
  clear hw hg hrow hb pd c_g1_0 c_g1_1 c_g1_2
  have c_g1_0 : w2.cell? ⟨g1, 0, none⟩ = some (.int .i64 A) := cell_of_row w2 g1 0 _ _ _ HR_g1.out
  have c_g1_1 : w2.cell? ⟨g1, 1, none⟩ = some (.int .i64 B) := cell_of_row w2 g1 1 _ _ _ HR_g1.out
  have c_g1_2 : w2.cell? ⟨g1, 2, none⟩ = some (.int .i64 C) := cell_of_row w2 g1 2 _ _ _ HR_g1.out
  have c_g6_0 : w2.cell? ⟨g6, 0, none⟩ = some (.int .i64 Ya) := cell_of_row w2 g6 0 _ _ _ HR_g6.out
  have c_g6_1 : w2.cell? ⟨g6, 1, none⟩ = some (.int .i64 Ma) := cell_of_row w2 g6 1 _ _ _ HR_g6.out
  have c_g6_2 : w2.cell? ⟨g6, 2, none⟩ = some (.int .i64 Da) := cell_of_row w2 g6 2 _ _ _ HR_g6.out
  have f_g6_0 : w2.frozen? ⟨g6, 0, none⟩ = false := frozen_of_row w2 g6 0 _ _ HR_g6.out
  have f_g6_1 : w2.frozen? ⟨g6, 1, none⟩ = false := frozen_of_row w2 g6 1 _ _ HR_g6.out
  have f_g6_2 : w2.frozen? ⟨g6, 2, none⟩ = false := frozen_of_row w2 g6 2 _ _ HR_g6.out
  go_upto_region 4 with (go_at_call 16; refine (HD1.out _ HTP.out).mono ?_; rintro e v2 ⟨rfl, hb⟩; have HTN := Tab_stepD HTP hb; have HBN := Bel_stepD HBP hb; clear HTP HBP; have HTP := HTN; have HBP := HBN; clear HTN HBN; have HRN := Lib.hid ((hb.block g1 (heap_lt HR_g1.out)).trans HR_g1.out); clear HR_g1; have HR_g1 := HRN; clear HRN; have HRN := Lib.hid ((hb.block g6 (heap_lt HR_g6.out)).trans HR_g6.out); clear HR_g6; have HR_g6 := HRN; clear HRN; clear c_g1_0 c_g1_1 c_g1_2 c_g6_0 c_g6_1 c_g6_2; have c_g1_0 : v2.cell? ⟨g1, 0, none⟩ = some (.int .i64 A) := cell_of_row v2 g1 0 _ _ _ HR_g1.out; have c_g1_1 : v2.cell? ⟨g1, 1, none⟩ = some (.int .i64 B) := cell_of_row v2 g1 1 _ _ _ HR_g1.out; have c_g1_2 : v2.cell? ⟨g1, 2, none⟩ = some (.int .i64 C) := cell_of_row v2 g1 2 _ _ _ HR_g1.out; have c_g6_0 : v2.cell? ⟨g6, 0, none⟩ = some (.int .i64 Ya) := cell_of_row v2 g6 0 _ _ _ HR_g6.out; have c_g6_1 : v2.cell? ⟨g6, 1, none⟩ = some (.int .i64 Ma) := cell_of_row v2 g6 1 _ _ _ HR_g6.out; have c_g6_2 : v2.cell? ⟨g6, 2, none⟩ = some (.int .i64 Da) := cell_of_row v2 g6 2 _ _ _ HR_g6.out; clear hb)
  go_upto_region 7 with (first
    | (go_at_call 24; refine (HP1.out _ HTP.out).mono ?_; rintro e v3 ⟨rfl, hb⟩; have HTN := Tab_stepD HTP hb; have HBN := Bel_stepD HBP hb; clear HTP HBP; have HTP := HTN; have HBP := HBN; clear HTN HBN; have HRN := Lib.hid ((hb.block g1 (heap_lt HR_g1.out)).trans HR_g1.out); clear HR_g1; have HR_g1 := HRN; clear HRN; have HRN := Lib.hid ((hb.block g6 (heap_lt HR_g6.out)).trans HR_g6.out); clear HR_g6; have HR_g6 := HRN; clear HRN; clear c_g1_0 c_g1_1 c_g1_2 c_g6_0 c_g6_1 c_g6_2; have c_g1_0 : v3.cell? ⟨g1, 0, none⟩ = some (.int .i64 A) := cell_of_row v3 g1 0 _ _ _ HR_g1.out; have c_g1_1 : v3.cell? ⟨g1, 1, none⟩ = some (.int .i64 B) := cell_of_row v3 g1 1 _ _ _ HR_g1.out; have c_g1_2 : v3.cell? ⟨g1, 2, none⟩ = some (.int .i64 C) := cell_of_row v3 g1 2 _ _ _ HR_g1.out; have c_g6_0 : v3.cell? ⟨g6, 0, none⟩ = some (.int .i64 Ya) := cell_of_row v3 g6 0 _ _ _ HR_g6.out; have c_g6_1 : v3.cell? ⟨g6, 1, none⟩ = some (.int .i64 Ma) := cell_of_row v3 g6 1 _ _ _ HR_g6.out; have c_g6_2 : v3.cell? ⟨g6, 2, none⟩ = some (.int .i64 Da) := cell_of_row v3 g6 2 _ _ _ HR_g6.out; clear hb)
    | (go_at_call 36; refine (HP2.out _ HTP.out).mono ?_; rintro e w1 ⟨rfl, hb⟩; have HTN := Tab_stepD HTP hb; have HBN := Bel_stepD HBP hb; clear HTP HBP; have HTP := HTN; have HBP := HBN; clear HTN HBN; have HRN := Lib.hid ((hb.block g1 (heap_lt HR_g1.out)).trans HR_g1.out); clear HR_g1; have HR_g1 := HRN; clear HRN; have HRN := Lib.hid ((hb.block g6 (heap_lt HR_g6.out)).trans HR_g6.out); clear HR_g6; have HR_g6 := HRN; clear HRN; clear c_g1_0 c_g1_1 c_g1_2 c_g6_0 c_g6_1 c_g6_2; have c_g1_0 : w1.cell? ⟨g1, 0, none⟩ = some (.int .i64 A) := cell_of_row w1 g1 0 _ _ _ HR_g1.out; have c_g1_1 : w1.cell? ⟨g1, 1, none⟩ = some (.int .i64 B) := cell_of_row w1 g1 1 _ _ _ HR_g1.out; have c_g1_2 : w1.cell? ⟨g1, 2, none⟩ = some (.int .i64 C) := cell_of_row w1 g1 2 _ _ _ HR_g1.out; have c_g6_0 : w1.cell? ⟨g6, 0, none⟩ = some (.int .i64 Ya) := cell_of_row w1 g6 0 _ _ _ HR_g6.out; have c_g6_1 : w1.cell? ⟨g6, 1, none⟩ = some (.int .i64 Ma) := cell_of_row w1 g6 1 _ _ _ HR_g6.out; have c_g6_2 : w1.cell? ⟨g6, 2, none⟩ = some (.int .i64 Da) := cell_of_row w1 g6 2 _ _ _ HR_g6.out; clear hb))
  clear c_g6_0 c_g6_1 c_g6_2 f_g6_0 f_g6_1 f_g6_2 HR_g6 HG_g6 HNE_g1_g6 HO1 HD1 HP1 HP2 HDH
  have CR0 := Lib.hid c_g1_0
  have CR1 := Lib.hid c_g1_1
  have HGL := Lib.hid (heap_lt HR_g1.out)
  have I1 := Lib.hid i1
  have I2 := Lib.hid i2
  clear c_g1_0 c_g1_1 c_g1_2
  refine Roll.region_f 10 107 Drd7 Lrd7 [(3, .pointer (some ⟨g1, 0, none⟩))] (fun p => Below w1.heap.size w1 p) (fun p p2 => Below p.heap.size p p2) [fun vv p => vv = .pointer (some ⟨g1, 0, none⟩), fun vv p => vv = .int .i64 A, fun vv p => vv = .int .i64 x, fun vv p => vv = .int .i64 y, fun vv p => vv = .pointer (some ⟨g1, 1, none⟩), fun vv p => vv = .int .i64 B, fun vv p => vv = .int .i64 z, fun vv p => vv = .int .i64 m, fun vv p => vv = .agg #[.int .i64 y, .int .i64 m, .int .i64 0], fun vv p => ∃ r, vv = .pointer (some ⟨r, 0, none⟩) ∧ w1.heap.size ≤ r ∧ p.heap[r]? = some (.cells #[.int .i64 0, .int .i64 0, .int .i64 0] 23 (0, 0))] (by kernel_rfl) (by kernel_rfl) rfl ⟨rfl, trivial⟩ ((Below.refl _ _).drew) ?_ ?_ ?_
  · exact ⟨fun _ _ _ _ h => h, fun _ _ _ _ h => h, fun _ _ _ _ h => h, fun _ _ _ _ h => h, fun _ _ _ _ h => h, fun _ _ _ _ h => h, fun _ _ _ _ h => h, fun _ _ _ _ h => h, fun _ _ _ _ h => h, fun _ _ _ hs h => by obtain ⟨r, e1, e2, e3⟩ := h; exact ⟨r, e1, e2, (Kept.of_below (fun _ => False) hs).heap e3 (fun h => h)⟩, trivial⟩
  · intro b0 hN hlv
    refine ⟨?_, ?_, ?_, ?_, ?_, ?_, ?_, ?_, ?_, ?_, trivial⟩
    · intro vs p hI hp
      have e3 : (Roll.putD Drd7 vs [] b0).eval (.tmp 3) = .pointer (some ⟨g1, 0, none⟩) := (Roll.eval_old rfl).trans (hlv.at 0 (3, .pointer (some ⟨g1, 0, none⟩)) rfl)
      clear hp hlv hN
      unfold Roll.Goes
      simp only [Lrd7, List.getD_cons_zero, List.getD_cons_succ]
      generalize Roll.putD Drd7 vs [] b0 = a1 at *
      refine Roll.goes_val (w' := p) (.pointer (some ⟨g1, 0, none⟩)) rfl ?_ ⟨hI, Below.refl _ _, rfl⟩
      (have ec : ∀ x, a1.eval (.const x) = x := fun _ => rfl); (have ef : ∀ x, a1.eval (.func x) = .func (.func x) #[] #[] := fun _ => rfl); generalize a1.eval = ρ at *
      skip
      go_simp <;> (intros; first | (exfalso; omega) | rfl | omega)
    · intro vs p hI hp
      have h0 : (vs 0) = .pointer (some ⟨g1, 0, none⟩) := hp 0 (by simp [Lrd7])
      have e55 : (Roll.putD Drd7 vs [0] b0).eval (.tmp 55) = .pointer (some ⟨g1, 0, none⟩) := (Roll.eval_new 0 rfl (by decide) (by decide) (by omega)).trans h0
      clear hp hlv hN
      unfold Roll.Goes
      simp only [Lrd7, List.getD_cons_zero, List.getD_cons_succ]
      generalize Roll.putD Drd7 vs [0] b0 = a1 at *
      have cf : p.cell? ⟨g1, 0, none⟩ = some (.int .i64 A) := (hI.cell (p := ⟨g1, 0, none⟩) HGL.out).trans CR0.out
      refine Roll.goes_val (w' := p) (.int .i64 A) rfl ?_ ⟨hI, Below.refl _ _, rfl⟩
      (have ec : ∀ x, a1.eval (.const x) = x := fun _ => rfl); (have ef : ∀ x, a1.eval (.func x) = .func (.func x) #[] #[] := fun _ => rfl); generalize a1.eval = ρ at *
      clear h0
      go_simp <;> (intros; first | (exfalso; omega) | rfl | omega)
    · intro vs p hI hp
      have h1 : (vs 1) = .int .i64 A := hp 1 (by simp [Lrd7])
      have e56 : (Roll.putD Drd7 vs [1] b0).eval (.tmp 56) = .int .i64 A := (Roll.eval_new 1 rfl (by decide) (by decide) (by omega)).trans h1
      clear hp hlv hN
      unfold Roll.Goes
      simp only [Lrd7, List.getD_cons_zero, List.getD_cons_succ]
      generalize Roll.putD Drd7 vs [1] b0 = a1 at *
      refine Roll.goes_call 15 #[.int .i64 A, .int .i64 9999] p rfl (by have ec : ∀ x, a1.eval (.const x) = x := fun _ => rfl; have ef : ∀ x, a1.eval (.func x) = .func (.func x) #[] #[] := fun _ => rfl; generalize a1.eval = ρ at *; go_simp) ?_
      refine (HA1.out p).mono ?_
      rintro q p2 ⟨rfl, rfl⟩
      exact ⟨_, rfl, hI, Below.refl _ _, rfl⟩
    · intro vs p hI hp
      have h2 : (vs 2) = .int .i64 x := hp 2 (by simp [Lrd7])
      have e57 : (Roll.putD Drd7 vs [2] b0).eval (.tmp 57) = .int .i64 x := (Roll.eval_new 2 rfl (by decide) (by decide) (by omega)).trans h2
      clear hp hlv hN
      unfold Roll.Goes
      simp only [Lrd7, List.getD_cons_zero, List.getD_cons_succ]
      generalize Roll.putD Drd7 vs [2] b0 = a1 at *
      have f0 := I1.out
      refine Roll.goes_val (w' := p) (.int .i64 y) rfl ?_ ⟨hI, Below.refl _ _, rfl⟩
      (have ec : ∀ x, a1.eval (.const x) = x := fun _ => rfl); (have ef : ∀ x, a1.eval (.func x) = .func (.func x) #[] #[] := fun _ => rfl); generalize a1.eval = ρ at *
      clear h2
      go_simp <;> (intros; first | (exfalso; omega) | rfl | omega)
    · intro vs p hI hp
      have e3 : (Roll.putD Drd7 vs [] b0).eval (.tmp 3) = .pointer (some ⟨g1, 0, none⟩) := (Roll.eval_old rfl).trans (hlv.at 0 (3, .pointer (some ⟨g1, 0, none⟩)) rfl)
      clear hp hlv hN
      unfold Roll.Goes
      simp only [Lrd7, List.getD_cons_zero, List.getD_cons_succ]
      generalize Roll.putD Drd7 vs [] b0 = a1 at *
      refine Roll.goes_val (w' := p) (.pointer (some ⟨g1, 1, none⟩)) rfl ?_ ⟨hI, Below.refl _ _, rfl⟩
      (have ec : ∀ x, a1.eval (.const x) = x := fun _ => rfl); (have ef : ∀ x, a1.eval (.func x) = .func (.func x) #[] #[] := fun _ => rfl); generalize a1.eval = ρ at *
      skip
      go_simp <;> (intros; first | (exfalso; omega) | rfl | omega)
    · intro vs p hI hp
      have h4 : (vs 4) = .pointer (some ⟨g1, 1, none⟩) := hp 4 (by simp [Lrd7])
      have e59 : (Roll.putD Drd7 vs [4] b0).eval (.tmp 59) = .pointer (some ⟨g1, 1, none⟩) := (Roll.eval_new 4 rfl (by decide) (by decide) (by omega)).trans h4
      clear hp hlv hN
      unfold Roll.Goes
      simp only [Lrd7, List.getD_cons_zero, List.getD_cons_succ]
      generalize Roll.putD Drd7 vs [4] b0 = a1 at *
      have cf : p.cell? ⟨g1, 1, none⟩ = some (.int .i64 B) := (hI.cell (p := ⟨g1, 1, none⟩) HGL.out).trans CR1.out
      refine Roll.goes_val (w' := p) (.int .i64 B) rfl ?_ ⟨hI, Below.refl _ _, rfl⟩
      (have ec : ∀ x, a1.eval (.const x) = x := fun _ => rfl); (have ef : ∀ x, a1.eval (.func x) = .func (.func x) #[] #[] := fun _ => rfl); generalize a1.eval = ρ at *
      clear h4
      go_simp <;> (intros; first | (exfalso; omega) | rfl | omega)
    · intro vs p hI hp
      have h5 : (vs 5) = .int .i64 B := hp 5 (by simp [Lrd7])
      have e60 : (Roll.putD Drd7 vs [5] b0).eval (.tmp 60) = .int .i64 B := (Roll.eval_new 5 rfl (by decide) (by decide) (by omega)).trans h5
      clear hp hlv hN
      unfold Roll.Goes
      simp only [Lrd7, List.getD_cons_zero, List.getD_cons_succ]
      generalize Roll.putD Drd7 vs [5] b0 = a1 at *
      refine Roll.goes_call 15 #[.int .i64 B, .int .i64 12] p rfl (by have ec : ∀ x, a1.eval (.const x) = x := fun _ => rfl; have ef : ∀ x, a1.eval (.func x) = .func (.func x) #[] #[] := fun _ => rfl; generalize a1.eval = ρ at *; go_simp) ?_
      refine (HA2.out p).mono ?_
      rintro q p2 ⟨rfl, rfl⟩
      exact ⟨_, rfl, hI, Below.refl _ _, rfl⟩
    · intro vs p hI hp
      have h6 : (vs 6) = .int .i64 z := hp 6 (by simp [Lrd7])
      have e61 : (Roll.putD Drd7 vs [6] b0).eval (.tmp 61) = .int .i64 z := (Roll.eval_new 6 rfl (by decide) (by decide) (by omega)).trans h6
      clear hp hlv hN
      unfold Roll.Goes
      simp only [Lrd7, List.getD_cons_zero, List.getD_cons_succ]
      generalize Roll.putD Drd7 vs [6] b0 = a1 at *
      have f0 := I2.out
      refine Roll.goes_val (w' := p) (.int .i64 m) rfl ?_ ⟨hI, Below.refl _ _, rfl⟩
      (have ec : ∀ x, a1.eval (.const x) = x := fun _ => rfl); (have ef : ∀ x, a1.eval (.func x) = .func (.func x) #[] #[] := fun _ => rfl); generalize a1.eval = ρ at *
      clear h6
      go_simp <;> (intros; first | (exfalso; omega) | rfl | omega)
    · intro vs p hI hp
      have h3 : (vs 3) = .int .i64 y := hp 3 (by simp [Lrd7])
      have h7 : (vs 7) = .int .i64 m := hp 7 (by simp [Lrd7])
      have e58 : (Roll.putD Drd7 vs [3, 7] b0).eval (.tmp 58) = .int .i64 y := (Roll.eval_new 3 rfl (by decide) (by decide) (by omega)).trans h3
      have e62 : (Roll.putD Drd7 vs [3, 7] b0).eval (.tmp 62) = .int .i64 m := (Roll.eval_new 7 rfl (by decide) (by decide) (by omega)).trans h7
      clear hp hlv hN
      unfold Roll.Goes
      simp only [Lrd7, List.getD_cons_zero, List.getD_cons_succ]
      generalize Roll.putD Drd7 vs [3, 7] b0 = a1 at *
      refine Roll.goes_val (w' := p) (.agg #[.int .i64 y, .int .i64 m, .int .i64 0]) rfl ?_ ⟨hI, Below.refl _ _, rfl⟩
      (have ec : ∀ x, a1.eval (.const x) = x := fun _ => rfl); (have ef : ∀ x, a1.eval (.func x) = .func (.func x) #[] #[] := fun _ => rfl); generalize a1.eval = ρ at *
      clear h3 h7
      go_simp <;> (intros; first | (exfalso; omega) | rfl | omega)
    · intro vs p hI hp
      clear hp hlv hN
      unfold Roll.Goes
      simp only [Lrd7, List.getD_cons_zero, List.getD_cons_succ]
      generalize Roll.putD Drd7 vs [] b0 = a1 at *
      have hal : Below p.heap.size p (p.alloc (.cells #[.int .i64 0, .int .i64 0, .int .i64 0] 23)) := (Below.refl _ _).alloc (Nat.le_refl _) _
      refine Roll.goes_val (w' := p.alloc (.cells #[.int .i64 0, .int .i64 0, .int .i64 0] 23)) (.pointer (some ⟨p.heap.size, 0, none⟩)) rfl (by have ec : ∀ x, a1.eval (.const x) = x := fun _ => rfl; have ef : ∀ x, a1.eval (.func x) = .func (.func x) #[] #[] := fun _ => rfl; have hbs := run_allocD; generalize a1.eval = ρ at *; go_simp <;> (intros; first | (exfalso; omega) | rfl)) ⟨hI.trans (hal.mono hI.size), hal, p.heap.size, rfl, hI.size, heap_new0⟩
  · intro vs p hI hR
    have h0 : (vs 0) = .pointer (some ⟨g1, 0, none⟩) := hR 0 (by omega)
    have h1 : (vs 1) = .int .i64 A := hR 1 (by omega)
    have h2 : (vs 2) = .int .i64 x := hR 2 (by omega)
    have h3 : (vs 3) = .int .i64 y := hR 3 (by omega)
    have h4 : (vs 4) = .pointer (some ⟨g1, 1, none⟩) := hR 4 (by omega)
    have h5 : (vs 5) = .int .i64 B := hR 5 (by omega)
    have h6 : (vs 6) = .int .i64 z := hR 6 (by omega)
    have h7 : (vs 7) = .int .i64 m := hR 7 (by omega)
    have h8 : (vs 8) = .agg #[.int .i64 y, .int .i64 m, .int .i64 0] := hR 8 (by omega)
    have h9 : ∃ r, (vs 9) = .pointer (some ⟨r, 0, none⟩) ∧ w1.heap.size ≤ r ∧ p.heap[r]? = some (.cells #[.int .i64 0, .int .i64 0, .int .i64 0] 23 (0, 0)) := hR 9 (by omega)
    clear hR
    simp only [List.range_succ, List.range_zero, List.nil_append, List.cons_append, Roll.putD, Act.put, List.getD_cons_zero, List.getD_cons_succ, List.setIfInBounds_toArray, List.set_cons_zero, List.set_cons_succ, List.drop_succ_cons, List.drop_zero, Drd7]
    simp only [h0, h1, h2, h3, h4, h5, h6, h7, h8]
    clear h0 h1 h2 h3 h4 h5 h6 h7 h8
    generalize vs 9 = v9 at *
    obtain ⟨g3, rfl, hr1, hh1⟩ := h9
    have HI := Lib.hid hI
    have HR1 := Lib.hid hr1
    have HH1 := Lib.hid hh1
    have pd : DB p g3 := ⟨0, 0, 0, hh1⟩
    clear hI hr1 hh1
    go_upto_region 8 with fail
    obtain ⟨w3, hw⟩ : ∃ w3, w3 = p.setRow g3 #[.int .i64 y, .int .i64 m, .int .i64 0] := ⟨_, rfl⟩
    have hrow : w3.heap[g3]? = some (.cells #[.int .i64 y, .int .i64 m, .int .i64 0] 23 (0, 0)) := by rw [hw]; exact setRow_heap _ _ _ _ _ _ HH1.out
    have hb : Below w1.heap.size w1 w3 := by rw [hw]; exact ((Kept.of_below (fun _ => False) HI.out).setRow (fun h => absurd h (by have := HR1.out; omega)) _).below (Nat.le_refl _) (fun _ _ h => h)
    have HG_g3 : Hid (w.heap.size ≤ g3) := Lib.hid (Nat.le_trans HBP.out.size HR1.out)
    have HNE_g1_g3 : Hid (g1 ≠ g3) := Lib.hid (by have := heap_lt HR_g1.out; have := HR1.out; omega)
    have HRN := Lib.hid ((hb.block g1 (heap_lt HR_g1.out)).trans HR_g1.out)
    clear HR_g1
    have HR_g1 := HRN
    clear HRN
    have HR_g3 := Lib.hid hrow
    have HTN := Tab_stepD HTP hb
    have HBN := Bel_stepD HBP hb
    clear HTP HBP
    have HTP := HTN
    have HBP := HBN
    clear HTN HBN
    rw [← hw]
    clear hw hrow hb pd HI HR1 HH1 CR0 CR1 HGL I1 I2
    have c_g1_0 : w3.cell? ⟨g1, 0, none⟩ = some (.int .i64 A) := cell_of_row w3 g1 0 _ _ _ HR_g1.out
    have c_g1_1 : w3.cell? ⟨g1, 1, none⟩ = some (.int .i64 B) := cell_of_row w3 g1 1 _ _ _ HR_g1.out
    have c_g1_2 : w3.cell? ⟨g1, 2, none⟩ = some (.int .i64 C) := cell_of_row w3 g1 2 _ _ _ HR_g1.out
    have c_g3_0 : w3.cell? ⟨g3, 0, none⟩ = some (.int .i64 y) := cell_of_row w3 g3 0 _ _ _ HR_g3.out
    have c_g3_1 : w3.cell? ⟨g3, 1, none⟩ = some (.int .i64 m) := cell_of_row w3 g3 1 _ _ _ HR_g3.out
    have c_g3_2 : w3.cell? ⟨g3, 2, none⟩ = some (.int .i64 0) := cell_of_row w3 g3 2 _ _ _ HR_g3.out
    have f_g3_0 : w3.frozen? ⟨g3, 0, none⟩ = false := frozen_of_row w3 g3 0 _ _ HR_g3.out
    have f_g3_1 : w3.frozen? ⟨g3, 1, none⟩ = false := frozen_of_row w3 g3 1 _ _ HR_g3.out
    have f_g3_2 : w3.frozen? ⟨g3, 2, none⟩ = false := frozen_of_row w3 g3 2 _ _ HR_g3.out
    have HLN3 := Lib.hid (HLN.out w3.drew (HTP.out.below (Below.refl _ _).drew))
    go_still_tail 11, (by kernel_rfl)
    still_call (HLN3.out)
    repeat still_step
    still_call (HA3.out _)
    repeat still_step
    refine wpStill_nil ?_
    change wpList _ _ _ _ _ w3.drew
    go_upto_region 9 with fail
    obtain ⟨w4, hw⟩ : ∃ w4, w4 = (w3.setCell ⟨g3, 2, none⟩ (.int .i64 d)).drew := ⟨_, rfl⟩
    have hrow : w4.heap[g3]? = some (.cells #[.int .i64 y, .int .i64 m, .int .i64 d] 23 (0, 0)) := by rw [hw]; exact heap_setCell_same _ _ _ _ _ _ HR_g3.out
    have hb : Below w.heap.size w w4 := by rw [hw]; exact ((((Kept.of_below (fun _ => False) HBP.out).setCell (fun h => absurd (show g3 < w.heap.size from h) (by have := HG_g3.out; omega)) _).below (Nat.le_refl _) (fun _ _ h => h))).drew
    have HTN : Hid (Tabs w4) := Lib.hid (HT0.out.below hb)
    have HBN : Hid (Below w.heap.size w w4) := Lib.hid hb
    have HRN : Hid (w4.heap[g1]? = some (.cells #[.int .i64 A, .int .i64 B, .int .i64 C] 23 (0, 0))) := Lib.hid (by rw [hw]; exact (heap_setCell_other _ _ _ _ HNE_g1_g3.out).trans HR_g1.out)
    clear HR_g1
    have HR_g1 := HRN
    clear HRN
    clear HTP HBP HR_g3 c_g1_0 c_g1_1 c_g1_2 c_g3_0 c_g3_1 c_g3_2 f_g3_0 f_g3_1 f_g3_2
    have HTP := HTN
    have HBP := HBN
    have HR_g3 := Lib.hid hrow
    rw [← hw]
    clear HTN HBN hw hrow hb
    have c_g1_0 : w4.cell? ⟨g1, 0, none⟩ = some (.int .i64 A) := cell_of_row w4 g1 0 _ _ _ HR_g1.out
    have c_g1_1 : w4.cell? ⟨g1, 1, none⟩ = some (.int .i64 B) := cell_of_row w4 g1 1 _ _ _ HR_g1.out
    have c_g1_2 : w4.cell? ⟨g1, 2, none⟩ = some (.int .i64 C) := cell_of_row w4 g1 2 _ _ _ HR_g1.out
    have c_g3_0 : w4.cell? ⟨g3, 0, none⟩ = some (.int .i64 y) := cell_of_row w4 g3 0 _ _ _ HR_g3.out
    have c_g3_1 : w4.cell? ⟨g3, 1, none⟩ = some (.int .i64 m) := cell_of_row w4 g3 1 _ _ _ HR_g3.out
    have c_g3_2 : w4.cell? ⟨g3, 2, none⟩ = some (.int .i64 d) := cell_of_row w4 g3 2 _ _ _ HR_g3.out
    have f_g3_0 : w4.frozen? ⟨g3, 0, none⟩ = false := frozen_of_row w4 g3 0 _ _ HR_g3.out
    have f_g3_1 : w4.frozen? ⟨g3, 1, none⟩ = false := frozen_of_row w4 g3 1 _ _ HR_g3.out
    have f_g3_2 : w4.frozen? ⟨g3, 2, none⟩ = false := frozen_of_row w4 g3 2 _ _ HR_g3.out
    go_upto_region 10 with (go_at_call 16; refine (HK.out _ HTP.out).mono ?_; rintro e v5 ⟨rfl, hb⟩; have HTN := Tab_stepD HTP hb; have HBN := Bel_stepD HBP hb; clear HTP HBP; have HTP := HTN; have HBP := HBN; clear HTN HBN; have HRN := Lib.hid ((hb.block g1 (heap_lt HR_g1.out)).trans HR_g1.out); clear HR_g1; have HR_g1 := HRN; clear HRN; have HRN := Lib.hid ((hb.block g3 (heap_lt HR_g3.out)).trans HR_g3.out); clear HR_g3; have HR_g3 := HRN; clear HRN; clear c_g1_0 c_g1_1 c_g1_2 c_g3_0 c_g3_1 c_g3_2; have c_g1_0 : v5.cell? ⟨g1, 0, none⟩ = some (.int .i64 A) := cell_of_row v5 g1 0 _ _ _ HR_g1.out; have c_g1_1 : v5.cell? ⟨g1, 1, none⟩ = some (.int .i64 B) := cell_of_row v5 g1 1 _ _ _ HR_g1.out; have c_g1_2 : v5.cell? ⟨g1, 2, none⟩ = some (.int .i64 C) := cell_of_row v5 g1 2 _ _ _ HR_g1.out; have c_g3_0 : v5.cell? ⟨g3, 0, none⟩ = some (.int .i64 y) := cell_of_row v5 g3 0 _ _ _ HR_g3.out; have c_g3_1 : v5.cell? ⟨g3, 1, none⟩ = some (.int .i64 m) := cell_of_row v5 g3 1 _ _ _ HR_g3.out; have c_g3_2 : v5.cell? ⟨g3, 2, none⟩ = some (.int .i64 d) := cell_of_row v5 g3 2 _ _ _ HR_g3.out; clear hb)
    go_upto_region 11 with (go_at_call 22; refine (HO2.out _ HTP.out).mono ?_; rintro e v6 ⟨rfl, hb⟩; have HTN := Tab_stepD HTP hb; have HBN := Bel_stepD HBP hb; clear HTP HBP; have HTP := HTN; have HBP := HBN; clear HTN HBN; have HRN := Lib.hid ((hb.block g1 (heap_lt HR_g1.out)).trans HR_g1.out); clear HR_g1; have HR_g1 := HRN; clear HRN; have HRN := Lib.hid ((hb.block g3 (heap_lt HR_g3.out)).trans HR_g3.out); clear HR_g3; have HR_g3 := HRN; clear HRN; clear c_g1_0 c_g1_1 c_g1_2 c_g3_0 c_g3_1 c_g3_2; have c_g1_0 : v6.cell? ⟨g1, 0, none⟩ = some (.int .i64 A) := cell_of_row v6 g1 0 _ _ _ HR_g1.out; have c_g1_1 : v6.cell? ⟨g1, 1, none⟩ = some (.int .i64 B) := cell_of_row v6 g1 1 _ _ _ HR_g1.out; have c_g1_2 : v6.cell? ⟨g1, 2, none⟩ = some (.int .i64 C) := cell_of_row v6 g1 2 _ _ _ HR_g1.out; have c_g3_0 : v6.cell? ⟨g3, 0, none⟩ = some (.int .i64 y) := cell_of_row v6 g3 0 _ _ _ HR_g3.out; have c_g3_1 : v6.cell? ⟨g3, 1, none⟩ = some (.int .i64 m) := cell_of_row v6 g3 1 _ _ _ HR_g3.out; have c_g3_2 : v6.cell? ⟨g3, 2, none⟩ = some (.int .i64 d) := cell_of_row v6 g3 2 _ _ _ HR_g3.out; clear hb; have pd : DB (v6.alloc (.cells #[.int .i64 0, .int .i64 0, .int .i64 0] 23)) v6.heap.size := ⟨0, 0, 0, heap_new0⟩)
    obtain ⟨w7, hw⟩ : ∃ w7, w7 = (v6.alloc (.cells #[.int .i64 0, .int .i64 0, .int .i64 0] 23)).setRow v6.heap.size #[.int .i64 y, .int .i64 m, .int .i64 d] := ⟨_, rfl⟩
    obtain ⟨g15, hg⟩ : ∃ g15, g15 = v6.heap.size := ⟨_, rfl⟩
    have hrow : w7.heap[g15]? = some (.cells #[.int .i64 y, .int .i64 m, .int .i64 d] 23 (0, 0)) := by rw [hw, hg]; exact setRow_heap _ _ _ _ _ _ heap_new0
    have hb : Below v6.heap.size v6 w7 := by rw [hw]; exact (((Kept.refl (fun _ => False) v6).alloc _).setRow (fun h => by omega) _).below (Nat.le_refl _) (fun _ _ h => h)
    have HG_g15 : Hid (w.heap.size ≤ g15) := Lib.hid (by rw [hg]; exact HBP.out.size)
    have HNE_g1_g15 : Hid (g1 ≠ g15) := Lib.hid (by have := heap_lt HR_g1.out; omega)
    have HRN := Lib.hid ((hb.block g1 (heap_lt HR_g1.out)).trans HR_g1.out)
    clear HR_g1
    have HR_g1 := HRN
    clear HRN
    have HNE_g3_g15 : Hid (g3 ≠ g15) := Lib.hid (by have := heap_lt HR_g3.out; omega)
    have HRN := Lib.hid ((hb.block g3 (heap_lt HR_g3.out)).trans HR_g3.out)
    clear HR_g3
    have HR_g3 := HRN
    clear HRN
    have HR_g15 := Lib.hid hrow
    have HTN := Tab_stepD HTP hb
    have HBN := Bel_stepD HBP hb
    clear HTP HBP
    have HTP := HTN
    have HBP := HBN
    clear HTN HBN
    rw [← hw]
    rw [← hg]
    clear hw hg hrow hb pd c_g1_0 c_g1_1 c_g1_2 c_g3_0 c_g3_1 c_g3_2
    have c_g1_0 : w7.cell? ⟨g1, 0, none⟩ = some (.int .i64 A) := cell_of_row w7 g1 0 _ _ _ HR_g1.out
    have c_g1_1 : w7.cell? ⟨g1, 1, none⟩ = some (.int .i64 B) := cell_of_row w7 g1 1 _ _ _ HR_g1.out
    have c_g1_2 : w7.cell? ⟨g1, 2, none⟩ = some (.int .i64 C) := cell_of_row w7 g1 2 _ _ _ HR_g1.out
    have c_g3_0 : w7.cell? ⟨g3, 0, none⟩ = some (.int .i64 y) := cell_of_row w7 g3 0 _ _ _ HR_g3.out
    have c_g3_1 : w7.cell? ⟨g3, 1, none⟩ = some (.int .i64 m) := cell_of_row w7 g3 1 _ _ _ HR_g3.out
    have c_g3_2 : w7.cell? ⟨g3, 2, none⟩ = some (.int .i64 d) := cell_of_row w7 g3 2 _ _ _ HR_g3.out
    have c_g15_0 : w7.cell? ⟨g15, 0, none⟩ = some (.int .i64 y) := cell_of_row w7 g15 0 _ _ _ HR_g15.out
    have c_g15_1 : w7.cell? ⟨g15, 1, none⟩ = some (.int .i64 m) := cell_of_row w7 g15 1 _ _ _ HR_g15.out
    have c_g15_2 : w7.cell? ⟨g15, 2, none⟩ = some (.int .i64 d) := cell_of_row w7 g15 2 _ _ _ HR_g15.out
    have f_g15_0 : w7.frozen? ⟨g15, 0, none⟩ = false := frozen_of_row w7 g15 0 _ _ HR_g15.out
    have f_g15_1 : w7.frozen? ⟨g15, 1, none⟩ = false := frozen_of_row w7 g15 1 _ _ HR_g15.out
    have f_g15_2 : w7.frozen? ⟨g15, 2, none⟩ = false := frozen_of_row w7 g15 2 _ _ HR_g15.out
    go_wp2_with (go_at_call 19; refine (lives_any _ HTP.out).mono ?_; rintro e w1 ⟨rfl, hb⟩; have HTN := Tab_stepD HTP hb; have HBN := Bel_stepD HBP hb; clear HTP HBP; have HTP := HTN; have HBP := HBN; clear HTN HBN; clear hb)
    go_ret
    exact ⟨rfl, HBP.out⟩
end Go.Proofs.YtcoijmggfkjcjaaDoor

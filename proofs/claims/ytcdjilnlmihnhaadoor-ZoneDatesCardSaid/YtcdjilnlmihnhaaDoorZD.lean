/-
  The examples of the chapter (written by gen_ZD.py).
-/
import Derived.Test.YtcdjilnlmihnhaaDoorZB
namespace Go.Proofs.YtcdjilnlmihnhaaDoor
open Go.RowKit
set_option linter.unusedSimpArgs false
set_option linter.unusedVariables false
attribute [local go_sem ↓] exec_loadShift exec_storeShift exec_loadSeg exec_storeSeg exec_loadZone exec_storeZone
attribute [local go_sem] run_storeShift run_storeSeg run_storeZone
/-- the shifts of the zone of the examples -/
def exL : List SM := [⟨2000, 120⟩, ⟨6000, 60⟩]
theorem run_bldTwo (W : World) : (Instr.buildSlice 23 2 #[(0, .agg #[.int .i64 2000, .int .i64 120]), (1, .agg #[.int .i64 6000, .int .i64 60])]).run Tryd.prog W = .ok (.slice (some ⟨W.heap.size, 0, none⟩) 2 2) (W.alloc (.cells #[.int .i64 2000, .int .i64 120, .int .i64 6000, .int .i64 60] 38)) := by kernel_rfl
theorem run_bldZoneE (a : Option Addr) (n c : Nat) (W : World) : (Instr.build 25 #[(0, .int .i64 60), (1, .slice a n c)]).run Tryd.prog W = .ok (.agg #[.int .i64 60, .slice a n c]) W := by kernel_rfl
theorem Ss.new {w : World} {g : Nat} {l : List SM} (h : w.heap[g]? = some (.cells (scells l).toArray 38 (0, 0))) (hm : l.length ≤ maxLen) : Ss (fun _ => True) w (some ⟨g, 0, none⟩) l.length l.length l :=
  ⟨rfl, scells_len l, Nat.le_refl _, hm, (fun h => by cases h), fun _ => ⟨g, 0, trivial, rfl, fun j v hv => by rw [Nat.zero_add, cell_of_row w g j _ _ _ h]; simpa using hv⟩⟩
theorem Is.two (w : World) (x y : Int) : Is (fun _ => True) (w.alloc (.cells #[.int .i64 x, .int .i64 y] 3)) (some ⟨w.heap.size, 0, none⟩) 2 2 [x, y] :=
  ⟨rfl, rfl, Nat.le_refl _, by decide, (fun h => by cases h), fun _ => ⟨w.heap.size, 0, trivial, rfl, fun j v hv => by rw [Nat.zero_add, cell_of_row (w.alloc (.cells #[.int .i64 x, .int .i64 y] 3)) w.heap.size j _ _ _ heap_newZ]; simpa [ivals] using hv⟩⟩
set_option maxRecDepth 100000 in
theorem two_any (w : World) : Calls Tryd.prog 17 #[] w fun e w' => ∃ b, e = .returned (zV 60 (some ⟨b, 0, none⟩) 2 2) ∧ Ss (fun _ => True) w' (some ⟨b, 0, none⟩) 2 2 exL ∧ Below w.heap.size w w' := by
  have hbs := run_bldTwo
  have hbz := run_bldZoneE
  have p0 : ZoneB ((w.alloc (.cells #[.int .i64 0, .slice none 0 0] 25)).alloc (.cells #[.int .i64 2000, .int .i64 120, .int .i64 6000, .int .i64 60] 38)) w.heap.size := ⟨_, _, heap_old heap_newZ⟩
  go_enter Tryd.func17, Tryd.ntmps17
  go_wp2
  have hk : Kept (fun b => b = w.heap.size) (w.alloc (.cells #[.int .i64 0, .slice none 0 0] 25)) (((w.alloc (.cells #[.int .i64 0, .slice none 0 0] 25)).alloc (.cells #[.int .i64 2000, .int .i64 120, .int .i64 6000, .int .i64 60] 38)).setRow w.heap.size #[.int .i64 60, .slice (some ⟨w.heap.size + 1, 0, none⟩) 2 2]) := ((Kept.refl (fun b => b = w.heap.size) _).alloc _).setRow (fun _ => rfl) _
  refine bodyPost_ret (results_cell_row rfl _ _ w.heap.size _ _ _ _ rfl (setRow_heap _ _ _ _ _ _ (heap_old heap_newZ)) Tryd.underlying25 rfl infoZoneS) rfl ⟨w.heap.size + 1, rfl, Ss.new (l := exL) ?_ (by decide), ?_⟩
  · exact (setRow_other _ _ _ _ (by omega)).trans (heap_new (by simp))
  · exact (((((Kept.refl (fun _ => False) w).alloc _).alloc _).setRow (fun h => by omega) _).below (Nat.le_refl _) (fun _ _ h => h))
theorem exL_far : Far 0 exL := by
  refine ⟨⟨?_, ?_⟩, ⟨?_, ?_⟩, ⟨?_, ?_⟩, ⟨?_, ?_⟩, trivial⟩ <;> (try show (_ : Int) ≤ _) <;> decide
theorem exL_o : ∀ s ∈ exL, -900 ≤ s.o ∧ s.o ≤ 900 := exL_far.offs
set_option maxRecDepth 100000 in
set_option maxHeartbeats 4000000 in
theorem lives_any (w : World) : Calls Tryd.prog 9 #[] w fun e w' => e = .returned (.bool true) ∧ Below w.heap.size w w' := by
  have HT := Lib.hid (two_any w)
  go_enter Tryd.func9, Tryd.ntmps9
  go_upto_region 2 with (go_at_call 17; refine HT.out.mono ?_; rintro e w0 ⟨b, rfl, hs, hb⟩; unfold zV; have HS0 := Lib.hid hs; have HB0 := Lib.hid hb; have p0 : ZoneB (w0.alloc (.cells #[.int .i64 0, .slice none 0 0] 25)) w0.heap.size := ⟨_, _, heap_newZ⟩; clear hs hb HT)
  obtain ⟨W1, hW1⟩ : ∃ W1, W1 = (w0.alloc (.cells #[.int .i64 0, .slice none 0 0] 25)).setRow w0.heap.size #[.int .i64 60, .slice (some ⟨b, 0, none⟩) 2 2] := ⟨_, rfl⟩
  obtain ⟨gz, hgz⟩ : ∃ gz, gz = w0.heap.size := ⟨_, rfl⟩
  have hr1 : W1.heap[gz]? = some (.cells #[.int .i64 60, .slice (some ⟨b, 0, none⟩) 2 2] 25 (0, 0)) := by rw [hW1, hgz]; exact setRow_heap _ _ _ _ _ _ heap_newZ
  have hb1 : Below w0.heap.size w0 W1 := by rw [hW1]; exact (((Kept.refl (fun _ => False) w0).alloc _).setRow (fun h => by omega) _).below (Nat.le_refl _) (fun _ _ h => h)
  rw [← hW1]
  rw [← hgz]
  have HS := Lib.hid (HS0.out.below hb1)
  have HW := Lib.hid (HB0.out.trans (hb1.mono HB0.out.size))
  have ldz := run_loadZone hr1
  have HR := Lib.hid hr1
  have HBP : Hid (Below W1.heap.size W1 W1) := Lib.hid (Below.refl _ _)
  clear hW1 hgz hr1 hb1 HS0 HB0 p0
  have C0 : Hid (∀ u, Below W1.heap.size W1 u → Calls Tryd.prog 6 #[.agg #[.int .i64 60, .slice (some ⟨b, 0, none⟩) 2 2], .int .i64 1999] u fun e w' => e = .returned (.tuple #[.int .i64 1, .int .i64 619]) ∧ Below u.heap.size u w') := Lib.hid (fun u hu => by
    have h := local_any (o := 60) (t := 1999) (HS.out.below hu) ⟨by decide, by decide⟩ exL_far (by decide) (by decide)
    have e1 : lclZ 1999 60 exL / 1440 = 1 := by decide +kernel
    have e2 : lclZ 1999 60 exL % 1440 = 619 := by decide +kernel
    rw [e1, e2] at h
    exact h)
  have C1 : Hid (∀ u, Below W1.heap.size W1 u → Calls Tryd.prog 6 #[.agg #[.int .i64 60, .slice (some ⟨b, 0, none⟩) 2 2], .int .i64 2000] u fun e w' => e = .returned (.tuple #[.int .i64 1, .int .i64 680]) ∧ Below u.heap.size u w') := Lib.hid (fun u hu => by
    have h := local_any (o := 60) (t := 2000) (HS.out.below hu) ⟨by decide, by decide⟩ exL_far (by decide) (by decide)
    have e1 : lclZ 2000 60 exL / 1440 = 1 := by decide +kernel
    have e2 : lclZ 2000 60 exL % 1440 = 680 := by decide +kernel
    rw [e1, e2] at h
    exact h)
  have C2 : Hid (∀ u, Below W1.heap.size W1 u → Calls Tryd.prog 6 #[.agg #[.int .i64 60, .slice (some ⟨b, 0, none⟩) 2 2], .int .i64 5999] u fun e w' => e = .returned (.tuple #[.int .i64 4, .int .i64 359]) ∧ Below u.heap.size u w') := Lib.hid (fun u hu => by
    have h := local_any (o := 60) (t := 5999) (HS.out.below hu) ⟨by decide, by decide⟩ exL_far (by decide) (by decide)
    have e1 : lclZ 5999 60 exL / 1440 = 4 := by decide +kernel
    have e2 : lclZ 5999 60 exL % 1440 = 359 := by decide +kernel
    rw [e1, e2] at h
    exact h)
  have C3 : Hid (∀ u, Below W1.heap.size W1 u → Calls Tryd.prog 6 #[.agg #[.int .i64 60, .slice (some ⟨b, 0, none⟩) 2 2], .int .i64 6000] u fun e w' => e = .returned (.tuple #[.int .i64 4, .int .i64 300]) ∧ Below u.heap.size u w') := Lib.hid (fun u hu => by
    have h := local_any (o := 60) (t := 6000) (HS.out.below hu) ⟨by decide, by decide⟩ exL_far (by decide) (by decide)
    have e1 : lclZ 6000 60 exL / 1440 = 4 := by decide +kernel
    have e2 : lclZ 6000 60 exL % 1440 = 300 := by decide +kernel
    rw [e1, e2] at h
    exact h)
  have C4 : Hid (∀ u, Below W1.heap.size W1 u → Calls Tryd.prog 6 #[.agg #[.int .i64 60, .slice (some ⟨b, 0, none⟩) 2 2], .int .i64 (-100)] u fun e w' => e = .returned (.tuple #[.int .i64 (-1), .int .i64 1400]) ∧ Below u.heap.size u w') := Lib.hid (fun u hu => by
    have h := local_any (o := 60) (t := (-100)) (HS.out.below hu) ⟨by decide, by decide⟩ exL_far (by decide) (by decide)
    have e1 : lclZ (-100) 60 exL / 1440 = (-1) := by decide +kernel
    have e2 : lclZ (-100) 60 exL % 1440 = 1400 := by decide +kernel
    rw [e1, e2] at h
    exact h)
  have CC : Hid (∀ u, Below W1.heap.size W1 u → Calls Tryd.prog 18 #[.agg #[.int .i64 60, .slice (some ⟨b, 0, none⟩) 2 2]] u fun e w' => e = .returned (.int .i64 0) ∧ Below u.heap.size u w') := Lib.hid (fun u hu => by
    have h := zcheck_any (o := 60) (HS.out.below hu)
    have e1 : chkZ 60 exL = 0 := by decide +kernel
    rw [e1] at h
    exact h)
  have CI1 : Hid (∀ u, Below W1.heap.size W1 u → Calls Tryd.prog 19 #[.agg #[.int .i64 60, .slice (some ⟨b, 0, none⟩) 2 2], .int .i64 1, .int .i64 650] u fun e w' => (∃ a c, e = .returned (.slice a 0 c)) ∧ Below u.heap.size u w') := Lib.hid (fun u hu => by
    refine (instants_any (o := 60) (day := 1) (minute := 650) (N := 2090) (HS.out.below hu) ⟨by decide, by decide⟩ exL_o (by decide) ⟨by decide, by decide⟩ (by decide) (by decide) (by decide)).mono ?_
    rintro e w' ⟨v, rfl, hr, hb⟩
    have e1 : insP 2090 (segL minI 60 exL) = [] := by decide +kernel
    rw [e1] at hr
    obtain ⟨a, n, c, rfl, hi⟩ := Is.row hr
    have hn : n = 0 := hi.1.symm
    subst hn
    exact ⟨⟨a, c, rfl⟩, hb⟩)
  have CI2 : Hid (∀ u, Below W1.heap.size W1 u → Calls Tryd.prog 19 #[.agg #[.int .i64 60, .slice (some ⟨b, 0, none⟩) 2 2], .int .i64 4, .int .i64 330] u fun e w' => (∃ a c, e = .returned (.slice a 2 c) ∧ Is (fun _ => True) w' a 2 c [5970, 6030]) ∧ Below u.heap.size u w') := Lib.hid (fun u hu => by
    refine (instants_any (o := 60) (day := 4) (minute := 330) (N := 6090) (HS.out.below hu) ⟨by decide, by decide⟩ exL_o (by decide) ⟨by decide, by decide⟩ (by decide) (by decide) (by decide)).mono ?_
    rintro e w' ⟨v, rfl, hr, hb⟩
    have e1 : insP 6090 (segL minI 60 exL) = [5970, 6030] := by decide +kernel
    rw [e1] at hr
    obtain ⟨a, n, c, rfl, hi⟩ := Is.row hr
    have hn : n = 2 := hi.1.symm
    subst hn
    exact ⟨⟨a, c, rfl, hi.dom (fun _ _ => trivial)⟩, hb⟩)
  have CR1 : Hid (∀ u, Below W1.heap.size W1 u → Calls Tryd.prog 20 #[.agg #[.int .i64 60, .slice (some ⟨b, 0, none⟩) 2 2], .int .i64 1, .int .i64 650, .bool true] u fun e w' => e = .returned (.int .i64 2000) ∧ Below u.heap.size u w') := Lib.hid (fun u hu => by
    have h := resolve_any (o := 60) (day := 1) (minute := 650) (N := 2090) (late := true) (HS.out.below hu) ⟨by decide, by decide⟩ exL_o ⟨by decide, by decide⟩ ⟨by decide, by decide⟩ (by decide)
    have e1 : resP true 2090 0 (segL minI 60 exL) = 2000 := by decide +kernel
    rw [e1] at h
    exact h)
  have CR2 : Hid (∀ u, Below W1.heap.size W1 u → Calls Tryd.prog 20 #[.agg #[.int .i64 60, .slice (some ⟨b, 0, none⟩) 2 2], .int .i64 4, .int .i64 330, .bool true] u fun e w' => e = .returned (.int .i64 6030) ∧ Below u.heap.size u w') := Lib.hid (fun u hu => by
    have h := resolve_any (o := 60) (day := 4) (minute := 330) (N := 6090) (late := true) (HS.out.below hu) ⟨by decide, by decide⟩ exL_o ⟨by decide, by decide⟩ ⟨by decide, by decide⟩ (by decide)
    have e1 : resP true 6090 0 (segL minI 60 exL) = 6030 := by decide +kernel
    rw [e1] at h
    exact h)
  have CR3 : Hid (∀ u, Below W1.heap.size W1 u → Calls Tryd.prog 20 #[.agg #[.int .i64 60, .slice (some ⟨b, 0, none⟩) 2 2], .int .i64 4, .int .i64 330, .bool false] u fun e w' => e = .returned (.int .i64 5970) ∧ Below u.heap.size u w') := Lib.hid (fun u hu => by
    have h := resolve_any (o := 60) (day := 4) (minute := 330) (N := 6090) (late := false) (HS.out.below hu) ⟨by decide, by decide⟩ exL_o ⟨by decide, by decide⟩ ⟨by decide, by decide⟩ (by decide)
    have e1 : resP false 6090 0 (segL minI 60 exL) = 5970 := by decide +kernel
    rw [e1] at h
    exact h)
  go_upto_region 3 with (go_at_call 6; refine (C0.out _ HBP.out).mono ?_; rintro e q0 ⟨rfl, hb⟩; have HBN := Lib.hid (HBP.out.trans (hb.mono HBP.out.size)); have HRN := Lib.hid ((hb.block gz (heap_lt HR.out)).trans HR.out); clear HBP HR ldz; have HBP := HBN; have HR := HRN; clear HBN HRN; have ldz := run_loadZone HR.out; clear hb C0)
  go_upto_region 4 with (go_at_call 6; refine (C1.out _ HBP.out).mono ?_; rintro e q1 ⟨rfl, hb⟩; have HBN := Lib.hid (HBP.out.trans (hb.mono HBP.out.size)); have HRN := Lib.hid ((hb.block gz (heap_lt HR.out)).trans HR.out); clear HBP HR ldz; have HBP := HBN; have HR := HRN; clear HBN HRN; have ldz := run_loadZone HR.out; clear hb C1)
  go_upto_region 5 with (go_at_call 6; refine (C2.out _ HBP.out).mono ?_; rintro e q2 ⟨rfl, hb⟩; have HBN := Lib.hid (HBP.out.trans (hb.mono HBP.out.size)); have HRN := Lib.hid ((hb.block gz (heap_lt HR.out)).trans HR.out); clear HBP HR ldz; have HBP := HBN; have HR := HRN; clear HBN HRN; have ldz := run_loadZone HR.out; clear hb C2)
  go_upto_region 6 with (go_at_call 6; refine (C3.out _ HBP.out).mono ?_; rintro e q3 ⟨rfl, hb⟩; have HBN := Lib.hid (HBP.out.trans (hb.mono HBP.out.size)); have HRN := Lib.hid ((hb.block gz (heap_lt HR.out)).trans HR.out); clear HBP HR ldz; have HBP := HBN; have HR := HRN; clear HBN HRN; have ldz := run_loadZone HR.out; clear hb C3)
  go_upto_region 7 with (go_at_call 6; refine (C4.out _ HBP.out).mono ?_; rintro e q4 ⟨rfl, hb⟩; have HBN := Lib.hid (HBP.out.trans (hb.mono HBP.out.size)); have HRN := Lib.hid ((hb.block gz (heap_lt HR.out)).trans HR.out); clear HBP HR ldz; have HBP := HBN; have HR := HRN; clear HBN HRN; have ldz := run_loadZone HR.out; clear hb C4)
  go_upto_region 9 with fail
  have T1 : True := trivial
  have R1 : True := trivial
  clear HS
  go_wp2_with (first
    | (go_at_call 18; refine (CC.out _ HBP.out).mono ?_; rintro e q5 ⟨rfl, hb⟩; have HBN := Lib.hid (HBP.out.trans (hb.mono HBP.out.size)); have HRN := Lib.hid ((hb.block gz (heap_lt HR.out)).trans HR.out); clear HBP HR ldz; have HBP := HBN; have HR := HRN; clear HBN HRN; have ldz := run_loadZone HR.out; clear hb CC)
    | (have _t := T2; go_at_call 19; refine (CI2.out _ HBP.out).mono ?_; rintro e q9 ⟨⟨a9, c9, rfl, hi9⟩, hb⟩; have HBN := Lib.hid (HBP.out.trans (hb.mono HBP.out.size)); have HRN := Lib.hid ((hb.block gz (heap_lt HR.out)).trans HR.out); clear HBP HR ldz; have HBP := HBN; have HR := HRN; clear HBN HRN; have ldz := run_loadZone HR.out; have HIS := Lib.hid hi9; clear hi9; clear hb CI2; clear _t T2)
    | (have _t := T1; go_at_call 19; refine (CI1.out _ HBP.out).mono ?_; rintro e q6 ⟨⟨a6, c6, rfl⟩, hb⟩; have HBN := Lib.hid (HBP.out.trans (hb.mono HBP.out.size)); have HRN := Lib.hid ((hb.block gz (heap_lt HR.out)).trans HR.out); clear HBP HR ldz; have HBP := HBN; have HR := HRN; clear HBN HRN; have ldz := run_loadZone HR.out; clear hb CI1; clear _t T1; have T2 : True := trivial)
    | (have _t := R3; go_at_call 20; refine (CR3.out _ HBP.out).mono ?_; rintro e q12 ⟨rfl, hb⟩; have HBN := Lib.hid (HBP.out.trans (hb.mono HBP.out.size)); have HRN := Lib.hid ((hb.block gz (heap_lt HR.out)).trans HR.out); clear HBP HR ldz; have HBP := HBN; have HR := HRN; clear HBN HRN; have ldz := run_loadZone HR.out; clear hb CR3; clear _t R3)
    | (have _t := R2; go_at_call 20; refine (CR2.out _ HBP.out).mono ?_; rintro e q11 ⟨rfl, hb⟩; have HBN := Lib.hid (HBP.out.trans (hb.mono HBP.out.size)); have HRN := Lib.hid ((hb.block gz (heap_lt HR.out)).trans HR.out); clear HBP HR ldz; have HBP := HBN; have HR := HRN; clear HBN HRN; have ldz := run_loadZone HR.out; clear hb CR2; clear _t R2; have R3 : True := trivial)
    | (have _t := R1; go_at_call 20; refine (CR1.out _ HBP.out).mono ?_; rintro e q7 ⟨rfl, hb⟩; have HBN := Lib.hid (HBP.out.trans (hb.mono HBP.out.size)); have HRN := Lib.hid ((hb.block gz (heap_lt HR.out)).trans HR.out); clear HBP HR ldz; have HBP := HBN; have HR := HRN; clear HBN HRN; have ldz := run_loadZone HR.out; clear hb CR1; clear _t R1; have R2 : True := trivial)
    | (go_at_call 21; refine (sameIntsZ_any _ _ _ _ _ _ _ _ _ _ _ (HIS.out.kept (Kept.of_below (fun _ => False) ((Below.refl _ q9).alloc (Nat.le_refl _) _)) (fun _ _ _ h => h)) (Is.two q9 5970 6030)).mono ?_; rintro e q10 ⟨rfl, hb0⟩; rw [show (([5970, 6030] : List Int) == [5970, 6030]) = true from rfl]; have hb : Below q9.heap.size q9 q10 := ((Below.refl _ q9).alloc (Nat.le_refl _) _).trans (hb0.mono (by simp)); have HBN := Lib.hid (HBP.out.trans (hb.mono HBP.out.size)); have HRN := Lib.hid ((hb.block gz (heap_lt HR.out)).trans HR.out); clear HBP HR ldz; have HBP := HBN; have HR := HRN; clear HBN HRN; have ldz := run_loadZone HR.out; clear hb hb0 HIS))
  go_ret
  exact ⟨rfl, HW.out.trans (HBP.out.mono HW.out.size)⟩
end Go.Proofs.YtcdjilnlmihnhaaDoor

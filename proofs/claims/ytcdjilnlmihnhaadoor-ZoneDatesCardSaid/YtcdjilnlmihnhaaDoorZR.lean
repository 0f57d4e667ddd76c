/-
  The law ZoneDates (written by gen_ZR.py).
-/
import Derived.Test.YtcdjilnlmihnhaaDoorZQ
namespace Go.Proofs.YtcdjilnlmihnhaaDoor
open Go.RowKit
set_option linter.unusedSimpArgs false
set_option linter.unusedVariables false
attribute [local go_sem ↓] exec_loadShift exec_storeShift exec_loadSeg exec_storeSeg exec_loadZone exec_storeZone
attribute [local go_sem] run_storeShift run_storeSeg run_storeZone
set_option maxRecDepth 100000 in
set_option maxHeartbeats 4000000 in
theorem dates_law {w : World} {a : Option Addr} {n c : Nat} {l : List Int} (hI : Is (fun b => b < w.heap.size) w a n c l) (hk : Ok64Z l) (hT : Tabs w) (x : Int) (x1 : -9223372036854775808 ≤ x) (x2 : x ≤ 9223372036854775807) : Calls Tryd.prog 3 #[.slice a n c, .int .i64 x] w fun e w' => e = .returned (.bool true) ∧ Below w.heap.size w w' := by
  have HZO := Lib.hid (zone_any hI hk)
  have ho := zoneO_bd l
  have hf := zoneL_far l
  have hl := zoneL_len l
  obtain ⟨O, hO⟩ : ∃ O, O = zoneO l := ⟨_, rfl⟩
  obtain ⟨L, hL⟩ : ∃ L, L = zoneL l := ⟨_, rfl⟩
  rw [← hO, ← hL] at HZO
  rw [← hO] at ho
  rw [← hL] at hf hl
  have HO := Lib.hid ho
  have HF := Lib.hid hf
  have HLN := Lib.hid hl
  clear hI hk ho hf hl hO hL
  have HLV := Lib.hid (fun u => lives_any u)
  have HAR := Lib.hid (fun u => aroundZ_any x 432000 u x1 x2 (by omega) (by omega))
  have hyb := aroundZ_bd x 432000 (by omega)
  obtain ⟨y, hy⟩ : ∃ y, y = aroundZ x 432000 := ⟨_, rfl⟩
  rw [← hy] at HAR hyb
  obtain ⟨t, ht⟩ : ∃ t, t = 1440 + y := ⟨_, rfl⟩
  have j0 : IntKind.i64.wrap (1440 + y) = t := by rw [i64_id _ (by omega) (by omega), ht]
  have HTB : Hid (1440 ≤ t ∧ t ≤ 433440) := Lib.hid (by omega)
  have HT0 := Lib.hid hT
  clear hy ht hyb hT
  go_enter Tryd.func3, Tryd.ntmps3
  go_upto_region 2 with (go_at_call 4; refine HZO.out.mono ?_; rintro e w1 ⟨az, nz, cz, rfl, hs, hb⟩; unfold zV; have HS0 := Lib.hid hs; have HB0 := Lib.hid hb; have p0 : ZoneB (w1.alloc (.cells #[.int .i64 0, .slice none 0 0] 25)) w1.heap.size := ⟨_, _, heap_newZ⟩; clear hs hb HZO)
  obtain ⟨W1, hW1⟩ : ∃ W1, W1 = (w1.alloc (.cells #[.int .i64 0, .slice none 0 0] 25)).setRow w1.heap.size #[.int .i64 O, .slice az nz cz] := ⟨_, rfl⟩
  obtain ⟨gz, hgz⟩ : ∃ gz, gz = w1.heap.size := ⟨_, rfl⟩
  have hr1 : W1.heap[gz]? = some (.cells #[.int .i64 O, .slice az nz cz] 25 (0, 0)) := by rw [hW1, hgz]; exact setRow_heap _ _ _ _ _ _ heap_newZ
  have hb1 : Below w1.heap.size w1 W1 := by rw [hW1]; exact (((Kept.refl (fun _ => False) w1).alloc _).setRow (fun h => by omega) _).below (Nat.le_refl _) (fun _ _ h => h)
  rw [← hW1]
  rw [← hgz]
  have HS := Lib.hid ((HS0.out.below hb1).dom (D' := fun _ => True) (fun _ _ => trivial))
  have HW := Lib.hid (HB0.out.trans (hb1.mono HB0.out.size))
  have HR := Lib.hid hr1
  have HGZL := Lib.hid (heap_lt hr1)
  have HN1 : Hid (nz ≤ 20) := Lib.hid (by have := HS.out.1; have := HLN.out; omega)
  have ldz := run_loadZone hr1
  have HBP : Hid (Below W1.heap.size W1 W1) := Lib.hid (Below.refl _ _)
  clear hW1 hgz hr1 hb1 HS0 HB0 p0
  have HTP := Lib.hid (HT0.out.below HW.out)
  have CL : Hid (∀ u, Below W1.heap.size W1 u → Calls Tryd.prog 6 #[.agg #[.int .i64 O, .slice az nz cz], .int .i64 t] u fun e w' => e = .returned (.tuple #[.int .i64 (lclZ t O L / 1440), .int .i64 (lclZ t O L % 1440)]) ∧ Below u.heap.size u w') := Lib.hid (fun u hu => local_any (HS.out.below hu) HO.out HF.out (by have := HTB.out; omega) (by have := HTB.out; omega))
  have hof := offZ_bd (t := t) L 0 O HF.out HO.out.1 HO.out.2
  have hlc : lclZ t O L = t + offZ t O L := rfl
  obtain ⟨D, hD⟩ : ∃ D, D = lclZ t O L / 1440 := ⟨_, rfl⟩
  obtain ⟨M, hM⟩ : ∃ M, M = lclZ t O L % 1440 := ⟨_, rfl⟩
  obtain ⟨q, hq⟩ : ∃ q, t / 1440 = q := ⟨_, rfl⟩
  obtain ⟨q1, hq1⟩ : ∃ q1, q1 = q - 1 := ⟨_, rfl⟩
  obtain ⟨q2, hq2⟩ : ∃ q2, q2 = q + 1 := ⟨_, rfl⟩
  have j1 : IntKind.i64.wrap (q - 1) = q1 := by have := HTB.out; rw [i64_id _ (by omega) (by omega), hq1]
  have j2 : IntKind.i64.wrap (q + 1) = q2 := by have := HTB.out; rw [i64_id _ (by omega) (by omega), hq2]
  have hdd : D = q1 ∨ D = q ∨ D = q2 := by have := HTB.out; omega
  have HQ1 : Hid (okN q1) := Lib.hid (by have := HTB.out; unfold okN; omega)
  have HQ : Hid (okN q) := Lib.hid (by have := HTB.out; unfold okN; omega)
  have HQ2 : Hid (okN q2) := Lib.hid (by have := HTB.out; unfold okN; omega)
  have HQS : Hid (q1 = q - 1 ∧ q2 = q + 1) := Lib.hid ⟨hq1, hq2⟩
  have hq0 : t.tdiv 1440 = q := by rw [Int.tdiv_eq_ediv_of_nonneg (by have := HTB.out; omega)]; exact hq
  have hq3 : IntKind.i64.wrap q = q := by have := HTB.out; exact i64_id _ (by omega) (by omega)
  rw [← hD, ← hM] at CL
  clear hof hlc hD hM hq1 hq2 hq
  rcases hdd with rfl | rfl | rfl
  · have HOD := HQ1
    go_upto_region 3 with (go_at_call 5; refine (HAR.out _).mono ?_; rintro e w2 ⟨rfl, rfl⟩)
    go_upto_region 4 with (go_at_call 6; refine (CL.out _ HBP.out).mono ?_; rintro e p1 ⟨rfl, hb⟩; have HBN := Lib.hid (HBP.out.trans (hb.mono HBP.out.size)); have HTN := Lib.hid (HTP.out.below hb); clear HBP HTP hb ldz; have HBP := HBN; have HTP := HTN; clear HBN HTN)
    go_upto_region 5 with (go_at_call 7; refine (print_any _ _ HTP.out).mono ?_; rintro e p2 ⟨rfl, hb⟩; have HBN := Lib.hid (HBP.out.trans (hb.mono HBP.out.size)); have HTN := Lib.hid (HTP.out.below hb); clear HBP HTP hb; have HBP := HBN; have HTP := HTN; clear HBN HTN)
    go_upto_region 6 with (go_at_call 8; refine (parse_good HOD.out _ HTP.out).mono ?_; rintro e p3 ⟨rfl, hb⟩; have HBN := Lib.hid (HBP.out.trans (hb.mono HBP.out.size)); have HTN := Lib.hid (HTP.out.below hb); clear HBP HTP hb; have HBP := HBN; have HTP := HTN; clear HBN HTN)
    go_upto_region 7 with (go_at_call 7; refine (print_any _ _ HTP.out).mono ?_; rintro e p4 ⟨rfl, hb⟩; have HBN := Lib.hid (HBP.out.trans (hb.mono HBP.out.size)); have HTN := Lib.hid (HTP.out.below hb); clear HBP HTP hb; have HBP := HBN; have HTP := HTN; clear HBN HTN)
    go_wp2_with (go_at_call 9; refine (HLV.out _).mono ?_; rintro e w9 ⟨rfl, hb⟩; have HBE := Lib.hid (HBP.out.trans (hb.mono HBP.out.size)); clear hb)
    go_ret
    exact ⟨rfl, HW.out.trans (HBE.out.mono HW.out.size)⟩
  · have HOD := HQ
    go_upto_region 3 with (go_at_call 5; refine (HAR.out _).mono ?_; rintro e w2 ⟨rfl, rfl⟩)
    go_upto_region 4 with (go_at_call 6; refine (CL.out _ HBP.out).mono ?_; rintro e p1 ⟨rfl, hb⟩; have HBN := Lib.hid (HBP.out.trans (hb.mono HBP.out.size)); have HTN := Lib.hid (HTP.out.below hb); clear HBP HTP hb ldz; have HBP := HBN; have HTP := HTN; clear HBN HTN)
    go_upto_region 5 with (go_at_call 7; refine (print_any _ _ HTP.out).mono ?_; rintro e p2 ⟨rfl, hb⟩; have HBN := Lib.hid (HBP.out.trans (hb.mono HBP.out.size)); have HTN := Lib.hid (HTP.out.below hb); clear HBP HTP hb; have HBP := HBN; have HTP := HTN; clear HBN HTN)
    go_upto_region 6 with (go_at_call 8; refine (parse_good HOD.out _ HTP.out).mono ?_; rintro e p3 ⟨rfl, hb⟩; have HBN := Lib.hid (HBP.out.trans (hb.mono HBP.out.size)); have HTN := Lib.hid (HTP.out.below hb); clear HBP HTP hb; have HBP := HBN; have HTP := HTN; clear HBN HTN)
    have f1 : ((printB D).toList == (printB q1).toList) = false := list_beqZ (fun h => absurd (print_inj HQ.out HQ1.out h) (by have := HQS.out; omega))
    go_upto_region 7 with (go_at_call 7; refine (print_any _ _ HTP.out).mono ?_; rintro e p4 ⟨rfl, hb⟩; have HBN := Lib.hid (HBP.out.trans (hb.mono HBP.out.size)); have HTN := Lib.hid (HTP.out.below hb); clear HBP HTP hb; have HBP := HBN; have HTP := HTN; clear HBN HTN)
    go_wp2_with (go_at_call 9; refine (HLV.out _).mono ?_; rintro e w9 ⟨rfl, hb⟩; have HBE := Lib.hid (HBP.out.trans (hb.mono HBP.out.size)); clear hb)
    go_ret
    exact ⟨rfl, HW.out.trans (HBE.out.mono HW.out.size)⟩
  · have HOD := HQ2
    go_upto_region 3 with (go_at_call 5; refine (HAR.out _).mono ?_; rintro e w2 ⟨rfl, rfl⟩)
    go_upto_region 4 with (go_at_call 6; refine (CL.out _ HBP.out).mono ?_; rintro e p1 ⟨rfl, hb⟩; have HBN := Lib.hid (HBP.out.trans (hb.mono HBP.out.size)); have HTN := Lib.hid (HTP.out.below hb); clear HBP HTP hb ldz; have HBP := HBN; have HTP := HTN; clear HBN HTN)
    go_upto_region 5 with (go_at_call 7; refine (print_any _ _ HTP.out).mono ?_; rintro e p2 ⟨rfl, hb⟩; have HBN := Lib.hid (HBP.out.trans (hb.mono HBP.out.size)); have HTN := Lib.hid (HTP.out.below hb); clear HBP HTP hb; have HBP := HBN; have HTP := HTN; clear HBN HTN)
    go_upto_region 6 with (go_at_call 8; refine (parse_good HOD.out _ HTP.out).mono ?_; rintro e p3 ⟨rfl, hb⟩; have HBN := Lib.hid (HBP.out.trans (hb.mono HBP.out.size)); have HTN := Lib.hid (HTP.out.below hb); clear HBP HTP hb; have HBP := HBN; have HTP := HTN; clear HBN HTN)
    have f1 : ((printB D).toList == (printB q1).toList) = false := list_beqZ (fun h => absurd (print_inj HQ2.out HQ1.out h) (by have := HQS.out; omega))
    have f2 : ((printB D).toList == (printB q).toList) = false := list_beqZ (fun h => absurd (print_inj HQ2.out HQ.out h) (by have := HQS.out; omega))
    go_upto_region 7 with (go_at_call 7; refine (print_any _ _ HTP.out).mono ?_; rintro e p4 ⟨rfl, hb⟩; have HBN := Lib.hid (HBP.out.trans (hb.mono HBP.out.size)); have HTN := Lib.hid (HTP.out.below hb); clear HBP HTP hb; have HBP := HBN; have HTP := HTN; clear HBN HTN)
    go_wp2_with (go_at_call 9; refine (HLV.out _).mono ?_; rintro e w9 ⟨rfl, hb⟩; have HBE := Lib.hid (HBP.out.trans (hb.mono HBP.out.size)); clear hb)
    go_ret
    exact ⟨rfl, HW.out.trans (HBE.out.mono HW.out.size)⟩
end Go.Proofs.YtcdjilnlmihnhaaDoor

/-
  The law ZoneConverts (written by gen_ZE.py).
-/
import Derived.Test.YtcdjilnlmihnhaaZD
import Derived.Test.YtcdjilnlmihnhaaZA
import Derived.Test.YtcdjilnlmihnhaaR4
namespace Go.Proofs.Ytcdjilnlmihnhaa
open Go.RowKit
set_option linter.unusedSimpArgs false
set_option linter.unusedVariables false
attribute [local go_sem ↓] exec_loadShift exec_storeShift exec_loadSeg exec_storeSeg exec_loadZone exec_storeZone
attribute [local go_sem] run_storeShift run_storeSeg run_storeZone
def Dzc5 : List (Option Tmp) := [some 30, some 31, some 32, some 33, some 34, some 35, some 36, some 37, some 38, some 39, some 40, some 41, some 42, some 43, some 44, some 45, some 46, some 47, some 48, some 49, some 6]
def Lzc5 : List (List Nat) := [[], [], [0, 1], [], [], [3, 4], [2, 5], [6], [7], [7], [8, 9, 7], [7, 10], [11], [12], [12], [13, 14, 12], [12, 15], [16], [17], [17, 18], [19]]
set_option maxRecDepth 100000 in
set_option maxHeartbeats 4000000 in
theorem converts_law {w : World} {a : Option Addr} {n c : Nat} {l : List Int} (hI : Is (fun b => b < w.heap.size) w a n c l) (hk : Ok64Z l) (k : Int) (far : Bool) (k1 : -9223372036854775808 ≤ k) (k2 : k ≤ 9223372036854775807) : Calls Try.prog 4 #[.slice a n c, .int .i64 k, .bool far] w fun e w' => e = .returned (.bool true) ∧ Below w.heap.size w w' := by
  have HZO := Lib.hid (zone_any hI hk)
  have ho := zoneO_bd l
  have hf := zoneL_far l
  have hl := zoneL_len l
  obtain ⟨O, hO⟩ : ∃ O, O = zoneO l := ⟨_, rfl⟩
  obtain ⟨L, hL⟩ : ∃ L, L = zoneL l := ⟨_, rfl⟩
  rw [← hO, ← hL] at HZO
  rw [← hO] at ho
  rw [← hL] at hf hl
  have HO := Lib.hid ho
  have HF := Lib.hid hf
  have HLN := Lib.hid hl
  clear hI hk ho hf hl hO hL
  have HLV := Lib.hid (fun u => lives_any u)
  have HIN := Lib.hid (fun u => instZ_any k far u k1 k2)
  have hib := instZ_bd k far
  obtain ⟨t, ht⟩ : ∃ t, t = instZ k far := ⟨_, rfl⟩
  rw [← ht] at HIN hib
  have HTB := Lib.hid hib
  clear ht hib
  go_enter Try.func4, Try.ntmps4
  go_upto_region 2 with (go_at_call 14; refine HZO.out.mono ?_; rintro e w1 ⟨az, nz, cz, rfl, hs, hb⟩; unfold zV; have HS0 := Lib.hid hs; have HB0 := Lib.hid hb; have p0 : ZoneB (w1.alloc (.cells #[.int .i64 0, .slice none 0 0] 24)) w1.heap.size := ⟨_, _, heap_newZ⟩; clear hs hb HZO)
  obtain ⟨W1, hW1⟩ : ∃ W1, W1 = (w1.alloc (.cells #[.int .i64 0, .slice none 0 0] 24)).setRow w1.heap.size #[.int .i64 O, .slice az nz cz] := ⟨_, rfl⟩
  obtain ⟨gz, hgz⟩ : ∃ gz, gz = w1.heap.size := ⟨_, rfl⟩
  have hr1 : W1.heap[gz]? = some (.cells #[.int .i64 O, .slice az nz cz] 24 (0, 0)) := by rw [hW1, hgz]; exact setRow_heap _ _ _ _ _ _ heap_newZ
  have hb1 : Below w1.heap.size w1 W1 := by rw [hW1]; exact (((Kept.refl (fun _ => False) w1).alloc _).setRow (fun h => by omega) _).below (Nat.le_refl _) (fun _ _ h => h)
  rw [← hW1]
  rw [← hgz]
  have HS := Lib.hid ((HS0.out.below hb1).dom (D' := fun _ => True) (fun _ _ => trivial))
  have HW := Lib.hid (HB0.out.trans (hb1.mono HB0.out.size))
  have HR := Lib.hid hr1
  have HGZL := Lib.hid (heap_lt hr1)
  have HN1 : Hid (nz ≤ 20) := Lib.hid (by have := HS.out.1; have := HLN.out; omega)
  have ldz := run_loadZone hr1
  have HBP : Hid (Below W1.heap.size W1 W1) := Lib.hid (Below.refl _ _)
  clear hW1 hgz hr1 hb1 HS0 HB0 p0
  have CL : Hid (∀ u, Below W1.heap.size W1 u → Calls Try.prog 16 #[.agg #[.int .i64 O, .slice az nz cz], .int .i64 t] u fun e w' => e = .returned (.tuple #[.int .i64 (lclZ t O L / 1440), .int .i64 (lclZ t O L % 1440)]) ∧ Below u.heap.size u w') := Lib.hid (fun u hu => local_any (HS.out.below hu) HO.out HF.out (by have := HTB.out; omega) (by have := HTB.out; omega))
  have CRL : Hid (∀ u, Below W1.heap.size W1 u → Calls Try.prog 17 #[.agg #[.int .i64 O, .slice az nz cz], .int .i64 t] u fun e w' => e = .returned (.tuple #[.int .i64 (lclZ t O L / 1440), .int .i64 (lclZ t O L % 1440)]) ∧ Below u.heap.size u w') := Lib.hid (fun u hu => refLocal_any (HS.out.below hu) (by have := HN1.out; omega) HO.out HF.out (by have := HTB.out; omega) (by have := HTB.out; omega))
  have CO : Hid (∀ u, Below W1.heap.size W1 u → Calls Try.prog 18 #[.agg #[.int .i64 O, .slice az nz cz], .int .i64 t] u fun e w' => e = .returned (.int .i64 (offZ t O L)) ∧ Below u.heap.size u w') := Lib.hid (fun u hu => by have h := offset_any (o := O) (t := t) (HS.out.below hu); rw [offP_eq L minI O 0 (by have := HTB.out; unfold minI; omega)] at h; exact h)
  have CR : Hid (∀ u, Below W1.heap.size W1 u → Calls Try.prog 19 #[.agg #[.int .i64 O, .slice az nz cz], .int .i64 t] u fun e w' => e = .returned (.int .i64 (offZ t O L)) ∧ Below u.heap.size u w') := Lib.hid (fun u hu => by have h := refOffset_any (o := O) (t := t) (HS.out.below hu) (by have := HN1.out; omega); rw [offR_eq L 0 O HF.out] at h; exact h)
  obtain ⟨x, hx⟩ : ∃ x, x = offZ t O L := ⟨_, rfl⟩
  obtain ⟨d, hd⟩ : ∃ d, d = lclZ t O L / 1440 := ⟨_, rfl⟩
  obtain ⟨m, hm⟩ : ∃ m, m = lclZ t O L % 1440 := ⟨_, rfl⟩
  rw [← hx] at CO CR
  rw [← hd, ← hm] at CL CRL
  clear hx hd hm
  go_upto_region 3 with (go_at_call 15; refine (HIN.out _).mono ?_; rintro e w2 ⟨rfl, rfl⟩)
  go_upto_region 4 with (go_at_call 16; refine (CL.out _ HBP.out).mono ?_; rintro e q1 ⟨rfl, hb⟩; have HBN := Lib.hid (HBP.out.trans (hb.mono HBP.out.size)); have HRN := Lib.hid ((hb.block gz (heap_lt HR.out)).trans HR.out); clear HBP HR ldz hb; have HBP := HBN; have HR := HRN; clear HBN HRN; have ldz := run_loadZone HR.out)
  go_upto_region 5 with (go_at_call 17; refine (CRL.out _ HBP.out).mono ?_; rintro e q2 ⟨rfl, hb⟩; have HBN := Lib.hid (HBP.out.trans (hb.mono HBP.out.size)); have HRN := Lib.hid ((hb.block gz (heap_lt HR.out)).trans HR.out); clear HBP HR ldz hb; have HBP := HBN; have HR := HRN; clear HBN HRN; have ldz := run_loadZone HR.out)
  clear ldz HGZL
  have HGZL := Lib.hid (heap_lt HR.out)
  refine Roll.region_f 20 50 Dzc5 Lzc5 [(7, .pointer (some ⟨gz, 0, none⟩)), (8, .int .i64 t), (9, .int .i64 d), (10, .int .i64 m), (11, .int .i64 d), (12, .int .i64 m)] (fun p => Below q2.heap.size q2 p) (fun p p2 => Below p.heap.size p p2) [fun vv p => vv = .agg #[.int .i64 O, .slice az nz cz], fun vv p => vv = .int .i64 t, fun vv p => vv = .int .i64 x, fun vv p => vv = .agg #[.int .i64 O, .slice az nz cz], fun vv p => vv = .int .i64 t, fun vv p => vv = .int .i64 x, fun vv p => vv = .bool true, fun vv p => vv = .bool true, fun vv p => vv = .int .i64 d, fun vv p => vv = .int .i64 d, fun vv p => vv = .bool true, fun vv p => vv = .bool true, fun vv p => vv = .bool true, fun vv p => vv = .int .i64 m, fun vv p => vv = .int .i64 m, fun vv p => vv = .bool true, fun vv p => vv = .bool true, fun vv p => vv = .bool true, fun vv p => vv = .bool true, fun vv p => vv = .bool true] (by kernel_rfl) (by kernel_rfl) rfl ⟨rfl, rfl, rfl, rfl, rfl, rfl, trivial⟩ ((Below.refl _ _).drew) ?_ ?_ ?_
  · exact ⟨fun _ _ _ _ h => h, fun _ _ _ _ h => h, fun _ _ _ _ h => h, fun _ _ _ _ h => h, fun _ _ _ _ h => h, fun _ _ _ _ h => h, fun _ _ _ _ h => h, fun _ _ _ _ h => h, fun _ _ _ _ h => h, fun _ _ _ _ h => h, fun _ _ _ _ h => h, fun _ _ _ _ h => h, fun _ _ _ _ h => h, fun _ _ _ _ h => h, fun _ _ _ _ h => h, fun _ _ _ _ h => h, fun _ _ _ _ h => h, fun _ _ _ _ h => h, fun _ _ _ _ h => h, fun _ _ _ _ h => h, trivial⟩
  · intro b0 hN hlv
    refine ⟨?_, ?_, ?_, ?_, ?_, ?_, ?_, ?_, ?_, ?_, ?_, ?_, ?_, ?_, ?_, ?_, ?_, ?_, ?_, ?_, trivial⟩
    · intro vs p hI hp
      have e7 : (Roll.putD Dzc5 vs [] b0).eval (.tmp 7) = .pointer (some ⟨gz, 0, none⟩) := (Roll.eval_old rfl).trans (hlv.at 0 (7, .pointer (some ⟨gz, 0, none⟩)) rfl)
      clear hp hlv hN
      unfold Roll.Goes
      simp only [Lzc5, List.getD_cons_zero, List.getD_cons_succ]
      generalize Roll.putD Dzc5 vs [] b0 = a1 at *
      have ldz := run_loadZone ((hI.block gz HGZL.out).trans HR.out)
      refine Roll.goes_val (w' := p) (.agg #[.int .i64 O, .slice az nz cz]) rfl ?_ ⟨hI, Below.refl _ _, rfl⟩
      (have ec : ∀ x, a1.eval (.const x) = x := fun _ => rfl); (have ef : ∀ x, a1.eval (.func x) = .func (.func x) #[] #[] := fun _ => rfl); generalize a1.eval = ρ at *
      skip
      go_simp <;> (intros; first | (exfalso; omega) | rfl | omega)
    · intro vs p hI hp
      have e8 : (Roll.putD Dzc5 vs [] b0).eval (.tmp 8) = .int .i64 t := (Roll.eval_old rfl).trans (hlv.at 1 (8, .int .i64 t) rfl)
      clear hp hlv hN
      unfold Roll.Goes
      simp only [Lzc5, List.getD_cons_zero, List.getD_cons_succ]
      generalize Roll.putD Dzc5 vs [] b0 = a1 at *
      refine Roll.goes_val (w' := p) (.int .i64 t) rfl ?_ ⟨hI, Below.refl _ _, rfl⟩
      (have ec : ∀ x, a1.eval (.const x) = x := fun _ => rfl); (have ef : ∀ x, a1.eval (.func x) = .func (.func x) #[] #[] := fun _ => rfl); generalize a1.eval = ρ at *
      skip
      go_simp <;> (intros; first | (exfalso; omega) | rfl | omega)
    · intro vs p hI hp
      have h0 : (vs 0) = .agg #[.int .i64 O, .slice az nz cz] := hp 0 (by simp [Lzc5])
      have h1 : (vs 1) = .int .i64 t := hp 1 (by simp [Lzc5])
      have e30 : (Roll.putD Dzc5 vs [0, 1] b0).eval (.tmp 30) = .agg #[.int .i64 O, .slice az nz cz] := (Roll.eval_new 0 rfl (by decide) (by decide) (by omega)).trans h0
      have e31 : (Roll.putD Dzc5 vs [0, 1] b0).eval (.tmp 31) = .int .i64 t := (Roll.eval_new 1 rfl (by decide) (by decide) (by omega)).trans h1
      clear hp hlv hN
      unfold Roll.Goes
      simp only [Lzc5, List.getD_cons_zero, List.getD_cons_succ]
      generalize Roll.putD Dzc5 vs [0, 1] b0 = a1 at *
      refine Roll.goes_call 18 #[.agg #[.int .i64 O, .slice az nz cz], .int .i64 t] p rfl (by have ec : ∀ x, a1.eval (.const x) = x := fun _ => rfl; have ef : ∀ x, a1.eval (.func x) = .func (.func x) #[] #[] := fun _ => rfl; generalize a1.eval = ρ at *; go_simp) ?_
      refine (CO.out p (HBP.out.trans (hI.mono HBP.out.size))).mono ?_
      rintro q p2 ⟨rfl, hb⟩
      exact ⟨_, rfl, hI.trans (hb.mono hI.size), hb, rfl⟩
    · intro vs p hI hp
      have e7 : (Roll.putD Dzc5 vs [] b0).eval (.tmp 7) = .pointer (some ⟨gz, 0, none⟩) := (Roll.eval_old rfl).trans (hlv.at 0 (7, .pointer (some ⟨gz, 0, none⟩)) rfl)
      clear hp hlv hN
      unfold Roll.Goes
      simp only [Lzc5, List.getD_cons_zero, List.getD_cons_succ]
      generalize Roll.putD Dzc5 vs [] b0 = a1 at *
      have ldz := run_loadZone ((hI.block gz HGZL.out).trans HR.out)
      refine Roll.goes_val (w' := p) (.agg #[.int .i64 O, .slice az nz cz]) rfl ?_ ⟨hI, Below.refl _ _, rfl⟩
      (have ec : ∀ x, a1.eval (.const x) = x := fun _ => rfl); (have ef : ∀ x, a1.eval (.func x) = .func (.func x) #[] #[] := fun _ => rfl); generalize a1.eval = ρ at *
      skip
      go_simp <;> (intros; first | (exfalso; omega) | rfl | omega)
    · intro vs p hI hp
      have e8 : (Roll.putD Dzc5 vs [] b0).eval (.tmp 8) = .int .i64 t := (Roll.eval_old rfl).trans (hlv.at 1 (8, .int .i64 t) rfl)
      clear hp hlv hN
      unfold Roll.Goes
      simp only [Lzc5, List.getD_cons_zero, List.getD_cons_succ]
      generalize Roll.putD Dzc5 vs [] b0 = a1 at *
      refine Roll.goes_val (w' := p) (.int .i64 t) rfl ?_ ⟨hI, Below.refl _ _, rfl⟩
      (have ec : ∀ x, a1.eval (.const x) = x := fun _ => rfl); (have ef : ∀ x, a1.eval (.func x) = .func (.func x) #[] #[] := fun _ => rfl); generalize a1.eval = ρ at *
      skip
      go_simp <;> (intros; first | (exfalso; omega) | rfl | omega)
    · intro vs p hI hp
      have h3 : (vs 3) = .agg #[.int .i64 O, .slice az nz cz] := hp 3 (by simp [Lzc5])
      have h4 : (vs 4) = .int .i64 t := hp 4 (by simp [Lzc5])
      have e33 : (Roll.putD Dzc5 vs [3, 4] b0).eval (.tmp 33) = .agg #[.int .i64 O, .slice az nz cz] := (Roll.eval_new 3 rfl (by decide) (by decide) (by omega)).trans h3
      have e34 : (Roll.putD Dzc5 vs [3, 4] b0).eval (.tmp 34) = .int .i64 t := (Roll.eval_new 4 rfl (by decide) (by decide) (by omega)).trans h4
      clear hp hlv hN
      unfold Roll.Goes
      simp only [Lzc5, List.getD_cons_zero, List.getD_cons_succ]
      generalize Roll.putD Dzc5 vs [3, 4] b0 = a1 at *
      refine Roll.goes_call 19 #[.agg #[.int .i64 O, .slice az nz cz], .int .i64 t] p rfl (by have ec : ∀ x, a1.eval (.const x) = x := fun _ => rfl; have ef : ∀ x, a1.eval (.func x) = .func (.func x) #[] #[] := fun _ => rfl; generalize a1.eval = ρ at *; go_simp) ?_
      refine (CR.out p (HBP.out.trans (hI.mono HBP.out.size))).mono ?_
      rintro q p2 ⟨rfl, hb⟩
      exact ⟨_, rfl, hI.trans (hb.mono hI.size), hb, rfl⟩
    · intro vs p hI hp
      have h2 : (vs 2) = .int .i64 x := hp 2 (by simp [Lzc5])
      have h5 : (vs 5) = .int .i64 x := hp 5 (by simp [Lzc5])
      have e32 : (Roll.putD Dzc5 vs [2, 5] b0).eval (.tmp 32) = .int .i64 x := (Roll.eval_new 2 rfl (by decide) (by decide) (by omega)).trans h2
      have e35 : (Roll.putD Dzc5 vs [2, 5] b0).eval (.tmp 35) = .int .i64 x := (Roll.eval_new 5 rfl (by decide) (by decide) (by omega)).trans h5
      clear hp hlv hN
      unfold Roll.Goes
      simp only [Lzc5, List.getD_cons_zero, List.getD_cons_succ]
      generalize Roll.putD Dzc5 vs [2, 5] b0 = a1 at *
      refine Roll.goes_val (w' := p) (.bool true) rfl ?_ ⟨hI, Below.refl _ _, rfl⟩
      (have ec : ∀ x, a1.eval (.const x) = x := fun _ => rfl); (have ef : ∀ x, a1.eval (.func x) = .func (.func x) #[] #[] := fun _ => rfl); generalize a1.eval = ρ at *
      clear h2 h5
      go_simp <;> (intros; first | (exfalso; omega) | rfl | omega)
    · intro vs p hI hp
      have h6 : (vs 6) = .bool true := hp 6 (by simp [Lzc5])
      have e36 : (Roll.putD Dzc5 vs [6] b0).eval (.tmp 36) = .bool true := (Roll.eval_new 6 rfl (by decide) (by decide) (by omega)).trans h6
      clear hp hlv hN
      unfold Roll.Goes
      simp only [Lzc5, List.getD_cons_zero, List.getD_cons_succ]
      generalize Roll.putD Dzc5 vs [6] b0 = a1 at *
      refine Roll.goes_val (w' := p) (.bool true) rfl ?_ ⟨hI, Below.refl _ _, rfl⟩
      (have ec : ∀ x, a1.eval (.const x) = x := fun _ => rfl); (have ef : ∀ x, a1.eval (.func x) = .func (.func x) #[] #[] := fun _ => rfl); generalize a1.eval = ρ at *
      clear h6
      go_simp <;> (intros; first | (exfalso; omega) | rfl | omega)
    · intro vs p hI hp
      have h7 : (vs 7) = .bool true := hp 7 (by simp [Lzc5])
      have e9 : (Roll.putD Dzc5 vs [7] b0).eval (.tmp 9) = .int .i64 d := (Roll.eval_old rfl).trans (hlv.at 2 (9, .int .i64 d) rfl)
      clear hp hlv hN
      refine ⟨fun hg => ?_, fun hg => absurd h7 hg⟩
      clear hg
      unfold Roll.Goes
      simp only [Lzc5, List.getD_cons_zero, List.getD_cons_succ]
      generalize Roll.putD Dzc5 vs [7] b0 = a1 at *
      refine Roll.goes_val (w' := p) (.int .i64 d) rfl ?_ ⟨hI, Below.refl _ _, rfl⟩
      (have ec : ∀ x, a1.eval (.const x) = x := fun _ => rfl); (have ef : ∀ x, a1.eval (.func x) = .func (.func x) #[] #[] := fun _ => rfl); generalize a1.eval = ρ at *
      clear h7
      go_simp <;> (intros; first | (exfalso; omega) | rfl | omega)
    · intro vs p hI hp
      have h7 : (vs 7) = .bool true := hp 7 (by simp [Lzc5])
      have e11 : (Roll.putD Dzc5 vs [7] b0).eval (.tmp 11) = .int .i64 d := (Roll.eval_old rfl).trans (hlv.at 4 (11, .int .i64 d) rfl)
      clear hp hlv hN
      refine ⟨fun hg => ?_, fun hg => absurd h7 hg⟩
      clear hg
      unfold Roll.Goes
      simp only [Lzc5, List.getD_cons_zero, List.getD_cons_succ]
      generalize Roll.putD Dzc5 vs [7] b0 = a1 at *
      refine Roll.goes_val (w' := p) (.int .i64 d) rfl ?_ ⟨hI, Below.refl _ _, rfl⟩
      (have ec : ∀ x, a1.eval (.const x) = x := fun _ => rfl); (have ef : ∀ x, a1.eval (.func x) = .func (.func x) #[] #[] := fun _ => rfl); generalize a1.eval = ρ at *
      clear h7
      go_simp <;> (intros; first | (exfalso; omega) | rfl | omega)
    · intro vs p hI hp
      have h8 : (vs 8) = .int .i64 d := hp 8 (by simp [Lzc5])
      have h9 : (vs 9) = .int .i64 d := hp 9 (by simp [Lzc5])
      have h7 : (vs 7) = .bool true := hp 7 (by simp [Lzc5])
      have e38 : (Roll.putD Dzc5 vs [8, 9, 7] b0).eval (.tmp 38) = .int .i64 d := (Roll.eval_new 8 rfl (by decide) (by decide) (by omega)).trans h8
      have e39 : (Roll.putD Dzc5 vs [8, 9, 7] b0).eval (.tmp 39) = .int .i64 d := (Roll.eval_new 9 rfl (by decide) (by decide) (by omega)).trans h9
      clear hp hlv hN
      refine ⟨fun hg => ?_, fun hg => absurd h7 hg⟩
      clear hg
      unfold Roll.Goes
      simp only [Lzc5, List.getD_cons_zero, List.getD_cons_succ]
      generalize Roll.putD Dzc5 vs [8, 9, 7] b0 = a1 at *
      refine Roll.goes_val (w' := p) (.bool true) rfl ?_ ⟨hI, Below.refl _ _, rfl⟩
      (have ec : ∀ x, a1.eval (.const x) = x := fun _ => rfl); (have ef : ∀ x, a1.eval (.func x) = .func (.func x) #[] #[] := fun _ => rfl); generalize a1.eval = ρ at *
      clear h8 h9 h7
      go_simp <;> (intros; first | (exfalso; omega) | rfl | omega)
    · intro vs p hI hp
      have h7 : (vs 7) = .bool true := hp 7 (by simp [Lzc5])
      have h10 : (vs 10) = .bool true := hp 10 (by simp [Lzc5])
      have e37 : (Roll.putD Dzc5 vs [7, 10] b0).eval (.tmp 37) = .bool true := (Roll.eval_new 7 rfl (by decide) (by decide) (by omega)).trans h7
      have e40 : (Roll.putD Dzc5 vs [7, 10] b0).eval (.tmp 40) = .bool true := (Roll.eval_new 10 rfl (by decide) (by decide) (by omega)).trans h10
      clear hp hlv hN
      unfold Roll.Goes
      simp only [Lzc5, List.getD_cons_zero, List.getD_cons_succ]
      generalize Roll.putD Dzc5 vs [7, 10] b0 = a1 at *
      refine Roll.goes_val (w' := p) (.bool true) rfl ?_ ⟨hI, Below.refl _ _, rfl⟩
      (have ec : ∀ x, a1.eval (.const x) = x := fun _ => rfl); (have ef : ∀ x, a1.eval (.func x) = .func (.func x) #[] #[] := fun _ => rfl); generalize a1.eval = ρ at *
      clear h7 h10
      go_simp <;> (intros; first | (exfalso; omega) | rfl | omega)
    · intro vs p hI hp
      have h11 : (vs 11) = .bool true := hp 11 (by simp [Lzc5])
      have e41 : (Roll.putD Dzc5 vs [11] b0).eval (.tmp 41) = .bool true := (Roll.eval_new 11 rfl (by decide) (by decide) (by omega)).trans h11
      clear hp hlv hN
      unfold Roll.Goes
      simp only [Lzc5, List.getD_cons_zero, List.getD_cons_succ]
      generalize Roll.putD Dzc5 vs [11] b0 = a1 at *
      refine Roll.goes_val (w' := p) (.bool true) rfl ?_ ⟨hI, Below.refl _ _, rfl⟩
      (have ec : ∀ x, a1.eval (.const x) = x := fun _ => rfl); (have ef : ∀ x, a1.eval (.func x) = .func (.func x) #[] #[] := fun _ => rfl); generalize a1.eval = ρ at *
      clear h11
      go_simp <;> (intros; first | (exfalso; omega) | rfl | omega)
    · intro vs p hI hp
      have h12 : (vs 12) = .bool true := hp 12 (by simp [Lzc5])
      have e10 : (Roll.putD Dzc5 vs [12] b0).eval (.tmp 10) = .int .i64 m := (Roll.eval_old rfl).trans (hlv.at 3 (10, .int .i64 m) rfl)
      clear hp hlv hN
      refine ⟨fun hg => ?_, fun hg => absurd h12 hg⟩
      clear hg
      unfold Roll.Goes
      simp only [Lzc5, List.getD_cons_zero, List.getD_cons_succ]
      generalize Roll.putD Dzc5 vs [12] b0 = a1 at *
      refine Roll.goes_val (w' := p) (.int .i64 m) rfl ?_ ⟨hI, Below.refl _ _, rfl⟩
      (have ec : ∀ x, a1.eval (.const x) = x := fun _ => rfl); (have ef : ∀ x, a1.eval (.func x) = .func (.func x) #[] #[] := fun _ => rfl); generalize a1.eval = ρ at *
      clear h12
      go_simp <;> (intros; first | (exfalso; omega) | rfl | omega)
    · intro vs p hI hp
      have h12 : (vs 12) = .bool true := hp 12 (by simp [Lzc5])
      have e12 : (Roll.putD Dzc5 vs [12] b0).eval (.tmp 12) = .int .i64 m := (Roll.eval_old rfl).trans (hlv.at 5 (12, .int .i64 m) rfl)
      clear hp hlv hN
      refine ⟨fun hg => ?_, fun hg => absurd h12 hg⟩
      clear hg
      unfold Roll.Goes
      simp only [Lzc5, List.getD_cons_zero, List.getD_cons_succ]
      generalize Roll.putD Dzc5 vs [12] b0 = a1 at *
      refine Roll.goes_val (w' := p) (.int .i64 m) rfl ?_ ⟨hI, Below.refl _ _, rfl⟩
      (have ec : ∀ x, a1.eval (.const x) = x := fun _ => rfl); (have ef : ∀ x, a1.eval (.func x) = .func (.func x) #[] #[] := fun _ => rfl); generalize a1.eval = ρ at *
      clear h12
      go_simp <;> (intros; first | (exfalso; omega) | rfl | omega)
    · intro vs p hI hp
      have h13 : (vs 13) = .int .i64 m := hp 13 (by simp [Lzc5])
      have h14 : (vs 14) = .int .i64 m := hp 14 (by simp [Lzc5])
      have h12 : (vs 12) = .bool true := hp 12 (by simp [Lzc5])
      have e43 : (Roll.putD Dzc5 vs [13, 14, 12] b0).eval (.tmp 43) = .int .i64 m := (Roll.eval_new 13 rfl (by decide) (by decide) (by omega)).trans h13
      have e44 : (Roll.putD Dzc5 vs [13, 14, 12] b0).eval (.tmp 44) = .int .i64 m := (Roll.eval_new 14 rfl (by decide) (by decide) (by omega)).trans h14
      clear hp hlv hN
      refine ⟨fun hg => ?_, fun hg => absurd h12 hg⟩
      clear hg
      unfold Roll.Goes
      simp only [Lzc5, List.getD_cons_zero, List.getD_cons_succ]
      generalize Roll.putD Dzc5 vs [13, 14, 12] b0 = a1 at *
      refine Roll.goes_val (w' := p) (.bool true) rfl ?_ ⟨hI, Below.refl _ _, rfl⟩
      (have ec : ∀ x, a1.eval (.const x) = x := fun _ => rfl); (have ef : ∀ x, a1.eval (.func x) = .func (.func x) #[] #[] := fun _ => rfl); generalize a1.eval = ρ at *
      clear h13 h14 h12
      go_simp <;> (intros; first | (exfalso; omega) | rfl | omega)
    · intro vs p hI hp
      have h12 : (vs 12) = .bool true := hp 12 (by simp [Lzc5])
      have h15 : (vs 15) = .bool true := hp 15 (by simp [Lzc5])
      have e42 : (Roll.putD Dzc5 vs [12, 15] b0).eval (.tmp 42) = .bool true := (Roll.eval_new 12 rfl (by decide) (by decide) (by omega)).trans h12
      have e45 : (Roll.putD Dzc5 vs [12, 15] b0).eval (.tmp 45) = .bool true := (Roll.eval_new 15 rfl (by decide) (by decide) (by omega)).trans h15
      clear hp hlv hN
      unfold Roll.Goes
      simp only [Lzc5, List.getD_cons_zero, List.getD_cons_succ]
      generalize Roll.putD Dzc5 vs [12, 15] b0 = a1 at *
      refine Roll.goes_val (w' := p) (.bool true) rfl ?_ ⟨hI, Below.refl _ _, rfl⟩
      (have ec : ∀ x, a1.eval (.const x) = x := fun _ => rfl); (have ef : ∀ x, a1.eval (.func x) = .func (.func x) #[] #[] := fun _ => rfl); generalize a1.eval = ρ at *
      clear h12 h15
      go_simp <;> (intros; first | (exfalso; omega) | rfl | omega)
    · intro vs p hI hp
      have h16 : (vs 16) = .bool true := hp 16 (by simp [Lzc5])
      have e46 : (Roll.putD Dzc5 vs [16] b0).eval (.tmp 46) = .bool true := (Roll.eval_new 16 rfl (by decide) (by decide) (by omega)).trans h16
      clear hp hlv hN
      unfold Roll.Goes
      simp only [Lzc5, List.getD_cons_zero, List.getD_cons_succ]
      generalize Roll.putD Dzc5 vs [16] b0 = a1 at *
      refine Roll.goes_val (w' := p) (.bool true) rfl ?_ ⟨hI, Below.refl _ _, rfl⟩
      (have ec : ∀ x, a1.eval (.const x) = x := fun _ => rfl); (have ef : ∀ x, a1.eval (.func x) = .func (.func x) #[] #[] := fun _ => rfl); generalize a1.eval = ρ at *
      clear h16
      go_simp <;> (intros; first | (exfalso; omega) | rfl | omega)
    · intro vs p hI hp
      have h17 : (vs 17) = .bool true := hp 17 (by simp [Lzc5])
      clear hp hlv hN
      refine ⟨fun hg => ?_, fun hg => absurd h17 hg⟩
      clear hg
      unfold Roll.Goes
      simp only [Lzc5, List.getD_cons_zero, List.getD_cons_succ]
      generalize Roll.putD Dzc5 vs [17] b0 = a1 at *
      refine Roll.goes_call 11 #[] p rfl (by have ec : ∀ x, a1.eval (.const x) = x := fun _ => rfl; have ef : ∀ x, a1.eval (.func x) = .func (.func x) #[] #[] := fun _ => rfl; generalize a1.eval = ρ at *; go_simp) ?_
      refine (HLV.out p).mono ?_
      rintro q p2 ⟨rfl, hb⟩
      exact ⟨_, rfl, hI.trans (hb.mono hI.size), hb, rfl⟩
    · intro vs p hI hp
      have h17 : (vs 17) = .bool true := hp 17 (by simp [Lzc5])
      have h18 : (vs 18) = .bool true := hp 18 (by simp [Lzc5])
      have e47 : (Roll.putD Dzc5 vs [17, 18] b0).eval (.tmp 47) = .bool true := (Roll.eval_new 17 rfl (by decide) (by decide) (by omega)).trans h17
      have e48 : (Roll.putD Dzc5 vs [17, 18] b0).eval (.tmp 48) = .bool true := (Roll.eval_new 18 rfl (by decide) (by decide) (by omega)).trans h18
      clear hp hlv hN
      unfold Roll.Goes
      simp only [Lzc5, List.getD_cons_zero, List.getD_cons_succ]
      generalize Roll.putD Dzc5 vs [17, 18] b0 = a1 at *
      refine Roll.goes_val (w' := p) (.bool true) rfl ?_ ⟨hI, Below.refl _ _, rfl⟩
      (have ec : ∀ x, a1.eval (.const x) = x := fun _ => rfl); (have ef : ∀ x, a1.eval (.func x) = .func (.func x) #[] #[] := fun _ => rfl); generalize a1.eval = ρ at *
      clear h17 h18
      go_simp <;> (intros; first | (exfalso; omega) | rfl | omega)
  · intro vs p hI hR
    have h0 : (vs 0) = .agg #[.int .i64 O, .slice az nz cz] := hR 0 (by omega)
    have h1 : (vs 1) = .int .i64 t := hR 1 (by omega)
    have h2 : (vs 2) = .int .i64 x := hR 2 (by omega)
    have h3 : (vs 3) = .agg #[.int .i64 O, .slice az nz cz] := hR 3 (by omega)
    have h4 : (vs 4) = .int .i64 t := hR 4 (by omega)
    have h5 : (vs 5) = .int .i64 x := hR 5 (by omega)
    have h6 : (vs 6) = .bool true := hR 6 (by omega)
    have h7 : (vs 7) = .bool true := hR 7 (by omega)
    have h8 : (vs 8) = .int .i64 d := hR 8 (by omega)
    have h9 : (vs 9) = .int .i64 d := hR 9 (by omega)
    have h10 : (vs 10) = .bool true := hR 10 (by omega)
    have h11 : (vs 11) = .bool true := hR 11 (by omega)
    have h12 : (vs 12) = .bool true := hR 12 (by omega)
    have h13 : (vs 13) = .int .i64 m := hR 13 (by omega)
    have h14 : (vs 14) = .int .i64 m := hR 14 (by omega)
    have h15 : (vs 15) = .bool true := hR 15 (by omega)
    have h16 : (vs 16) = .bool true := hR 16 (by omega)
    have h17 : (vs 17) = .bool true := hR 17 (by omega)
    have h18 : (vs 18) = .bool true := hR 18 (by omega)
    have h19 : (vs 19) = .bool true := hR 19 (by omega)
    clear hR
    simp only [List.range_succ, List.range_zero, List.nil_append, List.cons_append, Roll.putD, Act.put, List.getD_cons_zero, List.getD_cons_succ, List.setIfInBounds_toArray, List.set_cons_zero, List.set_cons_succ, List.drop_succ_cons, List.drop_zero, Dzc5]
    simp only [h0, h1, h2, h3, h4, h5, h6, h7, h8, h9, h10, h11, h12, h13, h14, h15, h16, h17, h18, h19]
    clear h0 h1 h2 h3 h4 h5 h6 h7 h8 h9 h10 h11 h12 h13 h14 h15 h16 h17 h18 h19
    have HBE := Lib.hid (HBP.out.trans (hI.mono HBP.out.size))
    clear hI
    go_wp2_with fail
    go_ret
    exact ⟨rfl, HW.out.trans (HBE.out.mono HW.out.size)⟩
end Go.Proofs.Ytcdjilnlmihnhaa

/-
  The law ZoneSteps (written by gen_ZG.py).
-/
import Derived.Test.YtcdjilnlmihnhaaZD
import Derived.Test.YtcdjilnlmihnhaaZA
import Derived.Test.YtcdjilnlmihnhaaR4
namespace Go.Proofs.Ytcdjilnlmihnhaa
open Go.RowKit
set_option linter.unusedSimpArgs false
set_option linter.unusedVariables false
attribute [local go_sem ↓] exec_loadShift exec_storeShift exec_loadSeg exec_storeSeg exec_loadZone exec_storeZone
attribute [local go_sem] run_storeShift run_storeSeg run_storeZone
def Dzs5 : List (Option Tmp) := [some 35, some 36, some 37, some 38, some 39, some 40, some 41, some 42, some 13]
def Lzs5 : List (List Nat) := [[], [], [1], [0, 2], [], [], [4, 5], [3, 6], [7]]
set_option maxRecDepth 100000 in
set_option maxHeartbeats 4000000 in
theorem steps_law {w : World} {a : Option Addr} {n c : Nat} {l : List Int} (hI : Is (fun b => b < w.heap.size) w a n c l) (hk : Ok64Z l) (k : Int) (far : Bool) (k1 : -9223372036854775808 ≤ k) (k2 : k ≤ 9223372036854775807) : Calls Try.prog 8 #[.slice a n c, .int .i64 k, .bool far] w fun e w' => e = .returned (.bool true) ∧ Below w.heap.size w w' := by
  have HZO := Lib.hid (zone_any hI hk)
  have ho := zoneO_bd l
  have hf := zoneL_far l
  have hl := zoneL_len l
  obtain ⟨O, hO⟩ : ∃ O, O = zoneO l := ⟨_, rfl⟩
  obtain ⟨L, hL⟩ : ∃ L, L = zoneL l := ⟨_, rfl⟩
  rw [← hO, ← hL] at HZO
  rw [← hO] at ho
  rw [← hL] at hf hl
  have HO := Lib.hid ho
  have HF := Lib.hid hf
  have HLN := Lib.hid hl
  clear hI hk ho hf hl hO hL
  have HLV := Lib.hid (fun u => lives_any u)
  have HIN := Lib.hid (fun u => instZ_any k far u k1 k2)
  have hib := instZ_bd k far
  obtain ⟨T, hT⟩ : ∃ T, T = instZ k far := ⟨_, rfl⟩
  rw [← hT] at HIN hib
  obtain ⟨t, ht⟩ : ∃ t, t = (if 1099511627775 < T then 1099511627775 else T) := ⟨_, rfl⟩
  have ht2 : (if 1099511627775 < T then 1099511627775 else T) = t := ht.symm
  have htb : -1099511627776 ≤ t ∧ t ≤ 1099511627775 := by rw [ht]; split <;> omega
  obtain ⟨t1, ht1⟩ : ∃ t1, t1 = t + 1 := ⟨_, rfl⟩
  have j1 : IntKind.i64.wrap (t + 1) = t1 := by rw [i64_id _ (by omega) (by omega), ht1]
  have HTB : Hid ((-1099511627776 ≤ t ∧ t ≤ 1099511627775) ∧ t1 = t + 1) := Lib.hid ⟨htb, ht1⟩
  have J1 := Lib.hid j1
  clear hT hib ht htb ht1
  go_enter Try.func8, Try.ntmps8
  go_upto_region 2 with (go_at_call 14; refine HZO.out.mono ?_; rintro e w1 ⟨az, nz, cz, rfl, hs, hb⟩; unfold zV; have HS0 := Lib.hid hs; have HB0 := Lib.hid hb; have p0 : ZoneB (w1.alloc (.cells #[.int .i64 0, .slice none 0 0] 24)) w1.heap.size := ⟨_, _, heap_newZ⟩; clear hs hb HZO)
  obtain ⟨W1, hW1⟩ : ∃ W1, W1 = (w1.alloc (.cells #[.int .i64 0, .slice none 0 0] 24)).setRow w1.heap.size #[.int .i64 O, .slice az nz cz] := ⟨_, rfl⟩
  obtain ⟨gz, hgz⟩ : ∃ gz, gz = w1.heap.size := ⟨_, rfl⟩
  have hr1 : W1.heap[gz]? = some (.cells #[.int .i64 O, .slice az nz cz] 24 (0, 0)) := by rw [hW1, hgz]; exact setRow_heap _ _ _ _ _ _ heap_newZ
  have hb1 : Below w1.heap.size w1 W1 := by rw [hW1]; exact (((Kept.refl (fun _ => False) w1).alloc _).setRow (fun h => by omega) _).below (Nat.le_refl _) (fun _ _ h => h)
  rw [← hW1]
  rw [← hgz]
  have HS := Lib.hid ((HS0.out.below hb1).dom (D' := fun _ => True) (fun _ _ => trivial))
  have HW := Lib.hid (HB0.out.trans (hb1.mono HB0.out.size))
  have HR := Lib.hid hr1
  have HGZL := Lib.hid (heap_lt hr1)
  have HN1 : Hid (nz ≤ 20) := Lib.hid (by have := HS.out.1; have := HLN.out; omega)
  have ldz := run_loadZone hr1
  have HBP : Hid (Below W1.heap.size W1 W1) := Lib.hid (Below.refl _ _)
  clear hW1 hgz hr1 hb1 HS0 HB0 p0
  have CL0 : Hid (∀ u, Below W1.heap.size W1 u → Calls Try.prog 16 #[.agg #[.int .i64 O, .slice az nz cz], .int .i64 t] u fun e w' => e = .returned (.tuple #[.int .i64 (lclZ t O L / 1440), .int .i64 (lclZ t O L % 1440)]) ∧ Below u.heap.size u w') := Lib.hid (fun u hu => local_any (HS.out.below hu) HO.out HF.out (by have := HTB.out; omega) (by have := HTB.out; omega))
  have CL1 : Hid (∀ u, Below W1.heap.size W1 u → Calls Try.prog 16 #[.agg #[.int .i64 O, .slice az nz cz], .int .i64 t1] u fun e w' => e = .returned (.tuple #[.int .i64 (lclZ t1 O L / 1440), .int .i64 (lclZ t1 O L % 1440)]) ∧ Below u.heap.size u w') := Lib.hid (fun u hu => local_any (HS.out.below hu) HO.out HF.out (by have := HTB.out; omega) (by have := HTB.out; omega))
  have CO0 : Hid (∀ u, Below W1.heap.size W1 u → Calls Try.prog 18 #[.agg #[.int .i64 O, .slice az nz cz], .int .i64 t] u fun e w' => e = .returned (.int .i64 (offZ t O L)) ∧ Below u.heap.size u w') := Lib.hid (fun u hu => by have h := offset_any (o := O) (t := t) (HS.out.below hu); rw [offP_eq L minI O 0 (by have := HTB.out; unfold minI; omega)] at h; exact h)
  have CO1 : Hid (∀ u, Below W1.heap.size W1 u → Calls Try.prog 18 #[.agg #[.int .i64 O, .slice az nz cz], .int .i64 t1] u fun e w' => e = .returned (.int .i64 (offZ t1 O L)) ∧ Below u.heap.size u w') := Lib.hid (fun u hu => by have h := offset_any (o := O) (t := t1) (HS.out.below hu); rw [offP_eq L minI O 0 (by have := HTB.out; unfold minI; omega)] at h; exact h)
  have hx0 := offZ_bd (t := t) L 0 O HF.out HO.out.1 HO.out.2
  have hx1 := offZ_bd (t := t1) L 0 O HF.out HO.out.1 HO.out.2
  have hst := offZ_step (t := t) L 0 O HF.out
  rw [← HTB.out.2] at hst
  have hl0 : lclZ t O L = t + offZ t O L := rfl
  have hl1 : lclZ t1 O L = t1 + offZ t1 O L := rfl
  obtain ⟨x0, e0⟩ : ∃ x, x = offZ t O L := ⟨_, rfl⟩
  obtain ⟨x1, e1⟩ : ∃ x, x = offZ t1 O L := ⟨_, rfl⟩
  obtain ⟨N0, f0⟩ : ∃ x, x = lclZ t O L := ⟨_, rfl⟩
  obtain ⟨N1, f1⟩ : ∃ x, x = lclZ t1 O L := ⟨_, rfl⟩
  rw [← e0] at CO0 hx0 hst hl0
  rw [← e1] at CO1 hx1 hst hl1
  rw [← f0] at CL0 hl0
  rw [← f1] at CL1 hl1
  obtain ⟨ch, hch⟩ : ∃ ch, ch = x1 - x0 := ⟨_, rfl⟩
  obtain ⟨da, hda⟩ : ∃ x, x = N0 / 1440 := ⟨_, rfl⟩
  obtain ⟨ma, hma⟩ : ∃ x, x = N0 % 1440 := ⟨_, rfl⟩
  obtain ⟨dc, hdc⟩ : ∃ x, x = N1 / 1440 := ⟨_, rfl⟩
  obtain ⟨mc, hmc⟩ : ∃ x, x = N1 % 1440 := ⟨_, rfl⟩
  rw [← hda, ← hma] at CL0
  rw [← hdc, ← hmc] at CL1
  have htb := HTB.out
  have J2 : Hid (IntKind.i64.wrap (x1 - x0) = ch) := Lib.hid (by rw [i64_id _ (by omega) (by omega), hch])
  have HST : Hid (ch = 0 ∨ ∃ s ∈ L, s.t = t1) := Lib.hid (hst.imp (fun h => by omega) id)
  have K1 : Hid (IntKind.i64.wrap (1440 * dc) = 1440 * dc) := Lib.hid (i64_id _ (by omega) (by omega))
  have K2 : Hid (IntKind.i64.wrap (1440 * dc + mc) = N1) := Lib.hid (by rw [i64_id _ (by omega) (by omega)]; omega)
  have K3 : Hid (IntKind.i64.wrap (1440 * da) = 1440 * da) := Lib.hid (i64_id _ (by omega) (by omega))
  have K4 : Hid (IntKind.i64.wrap (1440 * da + ma) = N0) := Lib.hid (by rw [i64_id _ (by omega) (by omega)]; omega)
  have K5 : Hid (IntKind.i64.wrap (N0 + 1) = N0 + 1) := Lib.hid (i64_id _ (by omega) (by omega))
  have K6 : Hid (IntKind.i64.wrap (N0 + 1 + ch) = N1) := Lib.hid (by rw [i64_id _ (by omega) (by omega)]; omega)
  have K7 : Hid (IntKind.i64.wrap N1 = N1) := Lib.hid (i64_id _ (by omega) (by omega))
  clear e0 e1 f0 f1 hch hda hma hdc hmc htb hst hl0 hl1 hx0 hx1
  go_upto_region 3 with (go_at_call 15; refine (HIN.out _).mono ?_; rintro e w2 ⟨rfl, rfl⟩)
  clear ht2
  go_upto_region 4 with (go_at_call 16; refine (CL0.out _ HBP.out).mono ?_; rintro e q1 ⟨rfl, hb⟩; have HBN := Lib.hid (HBP.out.trans (hb.mono HBP.out.size)); have HRN := Lib.hid ((hb.block gz (heap_lt HR.out)).trans HR.out); clear HBP HR ldz hb; have HBP := HBN; have HR := HRN; clear HBN HRN; have ldz := run_loadZone HR.out)
  go_upto_region 5 with (go_at_call 16; refine (CL1.out _ HBP.out).mono ?_; rintro e q2 ⟨rfl, hb⟩; have HBN := Lib.hid (HBP.out.trans (hb.mono HBP.out.size)); have HRN := Lib.hid ((hb.block gz (heap_lt HR.out)).trans HR.out); clear HBP HR ldz hb; have HBP := HBN; have HR := HRN; clear HBN HRN; have ldz := run_loadZone HR.out)
  clear ldz HGZL
  have HGZL := Lib.hid (heap_lt HR.out)
  refine Roll.region_f 8 84 Dzs5 Lzs5 [(7, .pointer (some ⟨gz, 0, none⟩)), (8, .int .i64 t)] (fun p => Below q2.heap.size q2 p) (fun p p2 => Below p.heap.size p p2) [fun vv p => vv = .agg #[.int .i64 O, .slice az nz cz], fun vv p => vv = .int .i64 t, fun vv p => vv = .int .i64 t1, fun vv p => vv = .int .i64 x1, fun vv p => vv = .agg #[.int .i64 O, .slice az nz cz], fun vv p => vv = .int .i64 t, fun vv p => vv = .int .i64 x0, fun vv p => vv = .int .i64 ch] (by kernel_rfl) (by kernel_rfl) rfl ⟨rfl, rfl, trivial⟩ ((Below.refl _ _).drew) ?_ ?_ ?_
  · exact ⟨fun _ _ _ _ h => h, fun _ _ _ _ h => h, fun _ _ _ _ h => h, fun _ _ _ _ h => h, fun _ _ _ _ h => h, fun _ _ _ _ h => h, fun _ _ _ _ h => h, fun _ _ _ _ h => h, trivial⟩
  · intro b0 hN hlv
    refine ⟨?_, ?_, ?_, ?_, ?_, ?_, ?_, ?_, trivial⟩
    · intro vs p hI hp
      have e7 : (Roll.putD Dzs5 vs [] b0).eval (.tmp 7) = .pointer (some ⟨gz, 0, none⟩) := (Roll.eval_old rfl).trans (hlv.at 0 (7, .pointer (some ⟨gz, 0, none⟩)) rfl)
      clear hp hlv hN
      unfold Roll.Goes
      simp only [Lzs5, List.getD_cons_zero, List.getD_cons_succ]
      generalize Roll.putD Dzs5 vs [] b0 = a1 at *
      have ldz := run_loadZone ((hI.block gz HGZL.out).trans HR.out)
      refine Roll.goes_val (w' := p) (.agg #[.int .i64 O, .slice az nz cz]) rfl ?_ ⟨hI, Below.refl _ _, rfl⟩
      (have ec : ∀ x, a1.eval (.const x) = x := fun _ => rfl); (have ef : ∀ x, a1.eval (.func x) = .func (.func x) #[] #[] := fun _ => rfl); generalize a1.eval = ρ at *
      skip
      go_simp <;> (intros; first | (exfalso; omega) | rfl | omega)
    · intro vs p hI hp
      have e8 : (Roll.putD Dzs5 vs [] b0).eval (.tmp 8) = .int .i64 t := (Roll.eval_old rfl).trans (hlv.at 1 (8, .int .i64 t) rfl)
      clear hp hlv hN
      unfold Roll.Goes
      simp only [Lzs5, List.getD_cons_zero, List.getD_cons_succ]
      generalize Roll.putD Dzs5 vs [] b0 = a1 at *
      refine Roll.goes_val (w' := p) (.int .i64 t) rfl ?_ ⟨hI, Below.refl _ _, rfl⟩
      (have ec : ∀ x, a1.eval (.const x) = x := fun _ => rfl); (have ef : ∀ x, a1.eval (.func x) = .func (.func x) #[] #[] := fun _ => rfl); generalize a1.eval = ρ at *
      skip
      go_simp <;> (intros; first | (exfalso; omega) | rfl | omega)
    · intro vs p hI hp
      have h1 : (vs 1) = .int .i64 t := hp 1 (by simp [Lzs5])
      have e36 : (Roll.putD Dzs5 vs [1] b0).eval (.tmp 36) = .int .i64 t := (Roll.eval_new 1 rfl (by decide) (by decide) (by omega)).trans h1
      clear hp hlv hN
      unfold Roll.Goes
      simp only [Lzs5, List.getD_cons_zero, List.getD_cons_succ]
      generalize Roll.putD Dzs5 vs [1] b0 = a1 at *
      have f0 := J1.out
      refine Roll.goes_val (w' := p) (.int .i64 t1) rfl ?_ ⟨hI, Below.refl _ _, rfl⟩
      (have ec : ∀ x, a1.eval (.const x) = x := fun _ => rfl); (have ef : ∀ x, a1.eval (.func x) = .func (.func x) #[] #[] := fun _ => rfl); generalize a1.eval = ρ at *
      clear h1
      go_simp <;> (intros; first | (exfalso; omega) | rfl | omega)
    · intro vs p hI hp
      have h0 : (vs 0) = .agg #[.int .i64 O, .slice az nz cz] := hp 0 (by simp [Lzs5])
      have h2 : (vs 2) = .int .i64 t1 := hp 2 (by simp [Lzs5])
      have e35 : (Roll.putD Dzs5 vs [0, 2] b0).eval (.tmp 35) = .agg #[.int .i64 O, .slice az nz cz] := (Roll.eval_new 0 rfl (by decide) (by decide) (by omega)).trans h0
      have e37 : (Roll.putD Dzs5 vs [0, 2] b0).eval (.tmp 37) = .int .i64 t1 := (Roll.eval_new 2 rfl (by decide) (by decide) (by omega)).trans h2
      clear hp hlv hN
      unfold Roll.Goes
      simp only [Lzs5, List.getD_cons_zero, List.getD_cons_succ]
      generalize Roll.putD Dzs5 vs [0, 2] b0 = a1 at *
      refine Roll.goes_call 18 #[.agg #[.int .i64 O, .slice az nz cz], .int .i64 t1] p rfl (by have ec : ∀ x, a1.eval (.const x) = x := fun _ => rfl; have ef : ∀ x, a1.eval (.func x) = .func (.func x) #[] #[] := fun _ => rfl; generalize a1.eval = ρ at *; go_simp) ?_
      refine (CO1.out p (HBP.out.trans (hI.mono HBP.out.size))).mono ?_
      rintro q p2 ⟨rfl, hb⟩
      exact ⟨_, rfl, hI.trans (hb.mono hI.size), hb, rfl⟩
    · intro vs p hI hp
      have e7 : (Roll.putD Dzs5 vs [] b0).eval (.tmp 7) = .pointer (some ⟨gz, 0, none⟩) := (Roll.eval_old rfl).trans (hlv.at 0 (7, .pointer (some ⟨gz, 0, none⟩)) rfl)
      clear hp hlv hN
      unfold Roll.Goes
      simp only [Lzs5, List.getD_cons_zero, List.getD_cons_succ]
      generalize Roll.putD Dzs5 vs [] b0 = a1 at *
      have ldz := run_loadZone ((hI.block gz HGZL.out).trans HR.out)
      refine Roll.goes_val (w' := p) (.agg #[.int .i64 O, .slice az nz cz]) rfl ?_ ⟨hI, Below.refl _ _, rfl⟩
      (have ec : ∀ x, a1.eval (.const x) = x := fun _ => rfl); (have ef : ∀ x, a1.eval (.func x) = .func (.func x) #[] #[] := fun _ => rfl); generalize a1.eval = ρ at *
      skip
      go_simp <;> (intros; first | (exfalso; omega) | rfl | omega)
    · intro vs p hI hp
      have e8 : (Roll.putD Dzs5 vs [] b0).eval (.tmp 8) = .int .i64 t := (Roll.eval_old rfl).trans (hlv.at 1 (8, .int .i64 t) rfl)
      clear hp hlv hN
      unfold Roll.Goes
      simp only [Lzs5, List.getD_cons_zero, List.getD_cons_succ]
      generalize Roll.putD Dzs5 vs [] b0 = a1 at *
      refine Roll.goes_val (w' := p) (.int .i64 t) rfl ?_ ⟨hI, Below.refl _ _, rfl⟩
      (have ec : ∀ x, a1.eval (.const x) = x := fun _ => rfl); (have ef : ∀ x, a1.eval (.func x) = .func (.func x) #[] #[] := fun _ => rfl); generalize a1.eval = ρ at *
      skip
      go_simp <;> (intros; first | (exfalso; omega) | rfl | omega)
    · intro vs p hI hp
      have h4 : (vs 4) = .agg #[.int .i64 O, .slice az nz cz] := hp 4 (by simp [Lzs5])
      have h5 : (vs 5) = .int .i64 t := hp 5 (by simp [Lzs5])
      have e39 : (Roll.putD Dzs5 vs [4, 5] b0).eval (.tmp 39) = .agg #[.int .i64 O, .slice az nz cz] := (Roll.eval_new 4 rfl (by decide) (by decide) (by omega)).trans h4
      have e40 : (Roll.putD Dzs5 vs [4, 5] b0).eval (.tmp 40) = .int .i64 t := (Roll.eval_new 5 rfl (by decide) (by decide) (by omega)).trans h5
      clear hp hlv hN
      unfold Roll.Goes
      simp only [Lzs5, List.getD_cons_zero, List.getD_cons_succ]
      generalize Roll.putD Dzs5 vs [4, 5] b0 = a1 at *
      refine Roll.goes_call 18 #[.agg #[.int .i64 O, .slice az nz cz], .int .i64 t] p rfl (by have ec : ∀ x, a1.eval (.const x) = x := fun _ => rfl; have ef : ∀ x, a1.eval (.func x) = .func (.func x) #[] #[] := fun _ => rfl; generalize a1.eval = ρ at *; go_simp) ?_
      refine (CO0.out p (HBP.out.trans (hI.mono HBP.out.size))).mono ?_
      rintro q p2 ⟨rfl, hb⟩
      exact ⟨_, rfl, hI.trans (hb.mono hI.size), hb, rfl⟩
    · intro vs p hI hp
      have h3 : (vs 3) = .int .i64 x1 := hp 3 (by simp [Lzs5])
      have h6 : (vs 6) = .int .i64 x0 := hp 6 (by simp [Lzs5])
      have e38 : (Roll.putD Dzs5 vs [3, 6] b0).eval (.tmp 38) = .int .i64 x1 := (Roll.eval_new 3 rfl (by decide) (by decide) (by omega)).trans h3
      have e41 : (Roll.putD Dzs5 vs [3, 6] b0).eval (.tmp 41) = .int .i64 x0 := (Roll.eval_new 6 rfl (by decide) (by decide) (by omega)).trans h6
      clear hp hlv hN
      unfold Roll.Goes
      simp only [Lzs5, List.getD_cons_zero, List.getD_cons_succ]
      generalize Roll.putD Dzs5 vs [3, 6] b0 = a1 at *
      have f0 := J2.out
      refine Roll.goes_val (w' := p) (.int .i64 ch) rfl ?_ ⟨hI, Below.refl _ _, rfl⟩
      (have ec : ∀ x, a1.eval (.const x) = x := fun _ => rfl); (have ef : ∀ x, a1.eval (.func x) = .func (.func x) #[] #[] := fun _ => rfl); generalize a1.eval = ρ at *
      clear h3 h6
      go_simp <;> (intros; first | (exfalso; omega) | rfl | omega)
  · intro vs p hI hR
    have h0 : (vs 0) = .agg #[.int .i64 O, .slice az nz cz] := hR 0 (by omega)
    have h1 : (vs 1) = .int .i64 t := hR 1 (by omega)
    have h2 : (vs 2) = .int .i64 t1 := hR 2 (by omega)
    have h3 : (vs 3) = .int .i64 x1 := hR 3 (by omega)
    have h4 : (vs 4) = .agg #[.int .i64 O, .slice az nz cz] := hR 4 (by omega)
    have h5 : (vs 5) = .int .i64 t := hR 5 (by omega)
    have h6 : (vs 6) = .int .i64 x0 := hR 6 (by omega)
    have h7 : (vs 7) = .int .i64 ch := hR 7 (by omega)
    clear hR
    simp only [List.range_succ, List.range_zero, List.nil_append, List.cons_append, Roll.putD, Act.put, List.getD_cons_zero, List.getD_cons_succ, List.setIfInBounds_toArray, List.set_cons_zero, List.set_cons_succ, List.drop_succ_cons, List.drop_zero, Dzs5]
    simp only [h0, h1, h2, h3, h4, h5, h6, h7]
    clear h0 h1 h2 h3 h4 h5 h6 h7
    have HB3 := Lib.hid (HBP.out.trans (hI.mono HBP.out.size))
    have HR3 := Lib.hid ((hI.block gz HGZL.out).trans HR.out)
    clear hI HBP
    go_upto_region 6 with fail
    have cgz : p.cell? ⟨gz, 1, none⟩ = some (.slice az nz cz) := cell_of_row p gz 1 _ _ _ HR3.out
    have HSP := Lib.hid (HS.out.below HB3.out)
    have hm1 : nz ≤ cz := HS.out.2.2.1
    have hm2 : cz ≤ 9223372036854775807 := HS.out.2.2.2.1
    go_wp2_with fail
    go_loopw [14, 15] (fun x y wr => ∃ (i : Nat) (sh : Bool), i ≤ nz ∧ x = .bool sh ∧ y = .int .i64 (i : Int) ∧ (sh = false → ∀ s ∈ L.take i, ¬ s.t = t1) ∧ (sh = true → ∃ s ∈ L, s.t = t1) ∧ p = wr) (fun _ y _ => nz - (intOf y).toNat)
    case atStart => exact ⟨0, false, Nat.zero_le _, rfl, rfl, (fun _ s hs => by simp at hs), (fun h => by cases h), rfl⟩
    case round =>
      obtain ⟨i, sh, hi, rfl, rfl, hsh1, hsh2, rfl⟩ := hrel
      have HS1 := Lib.hid hsh1
      have HS2 := Lib.hid hsh2
      have HII := Lib.hid hi
      clear hsh1 hsh2 hi
      by_cases hlt : i < nz
      · have hil : i < L.length := by rw [HS.out.1]; exact hlt
        have hlt2 : (i : Int) < (nz : Int) := by omega
        have k1 : IntKind.i64.wrap ((i : Int) + 1) = (i : Int) + 1 := i64_id _ (by omega) (by omega)
        have HTK := Lib.hid (List.take_succ_eq_append_getElem hil)
        have HMEM := Lib.hid (List.getElem_mem hil)
        obtain ⟨b, off, -, hbl, rfl, hc⟩ := HSP.out.cells (by omega)
        obtain ⟨hct, hco⟩ := hc i hil
        obtain ⟨ob, hob⟩ : ∃ ob, ob = off + i * 2 := ⟨_, rfl⟩
        rw [← hob] at hct
        have hob2 : off + i * 2 = ob := hob.symm
        generalize L[i] = s at *
        have HLT := Lib.hid hlt
        clear hc hob hco hil
        cases sh with
        | true =>
          go_wp2
          go_roundw
          case rel => exact ⟨i + 1, true, by have := HLT.out; omega, rfl, by go_num, (fun h => by cases h), (fun _ => HS2.out rfl), trivial⟩
          case measure => simp [intOf]; have := HLT.out; omega
        | false =>
          by_cases he : s.t = t1
          · have HE := Lib.hid he
            have hb1 : (t1 == t1) = true := beq_self_eq_true t1
            rw [he] at hct
            clear he
            go_wp2
            go_roundw
            case rel => exact ⟨i + 1, true, by have := HLT.out; omega, rfl, by go_num, (fun h => by cases h), (fun _ => ⟨s, HMEM.out, HE.out⟩), trivial⟩
            case measure => simp [intOf]; have := HLT.out; omega
          · have HE := Lib.hid he
            have hb1 : (s.t == t1) = false := beq_eq_false_iff_ne.2 he
            clear he
            go_wp2
            go_roundw
            case rel => exact ⟨i + 1, false, by have := HLT.out; omega, rfl, by go_num, (fun _ s' hs' => by
              rw [HTK.out] at hs'
              rcases List.mem_append.1 hs' with h | h
              · exact HS1.out rfl s' h
              · rw [List.mem_singleton.1 h]; exact HE.out), (fun h => by cases h), trivial⟩
            case measure => simp [intOf]; have := HLT.out; omega
      · have hge : (nz : Int) ≤ (i : Int) := by omega
        have HCH : Hid (sh = false → ch = 0) := Lib.hid (fun hs => by
          rcases HST.out with h | ⟨s, hs1, hs2⟩
          · exact h
          · exact absurd hs2 (HS1.out hs s (by rw [List.take_of_length_le (by rw [HS.out.1]; omega)]; exact hs1)))
        have k1 := K1.out
        have k2 := K2.out
        have k3 := K3.out
        have k4 := K4.out
        have k5 := K5.out
        have k6 := K6.out
        clear hlt HSP
        cases sh with
        | true =>
          go_wp2_with (go_at_call 11; refine (HLV.out _).mono ?_; rintro e w9 ⟨rfl, hb⟩; have HBE := Lib.hid (HB3.out.trans (hb.mono HB3.out.size)); clear hb)
          go_ret
          exact ⟨rfl, HW.out.trans (HBE.out.mono HW.out.size)⟩
        | false =>
          have hch := HCH.out rfl
          have f0 : (ch == 0) = true := by rw [hch]; rfl
          have f1 : decide (ch = 0) = true := decide_eq_true hch
          clear hch
          go_wp2_with (go_at_call 11; refine (HLV.out _).mono ?_; rintro e w9 ⟨rfl, hb⟩; have HBE := Lib.hid (HB3.out.trans (hb.mono HB3.out.size)); clear hb)
          go_ret
          exact ⟨rfl, HW.out.trans (HBE.out.mono HW.out.size)⟩
end Go.Proofs.Ytcdjilnlmihnhaa

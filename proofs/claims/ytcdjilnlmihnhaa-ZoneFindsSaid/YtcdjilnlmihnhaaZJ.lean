/-
  The law ZoneOrders (written by gen_ZJ.py).
-/
import Derived.Test.YtcdjilnlmihnhaaZD
import Derived.Test.YtcdjilnlmihnhaaZA
import Derived.Test.YtcdjilnlmihnhaaR4
namespace Go.Proofs.Ytcdjilnlmihnhaa
open Go.RowKit
set_option linter.unusedSimpArgs false
set_option linter.unusedVariables false
attribute [local go_sem ↓] exec_loadShift exec_storeShift exec_loadSeg exec_storeSeg exec_loadZone exec_storeZone
attribute [local go_sem] run_storeShift run_storeSeg run_storeZone
def Dzo8 : List (Option Tmp) := [some 44, some 45, some 46, some 47, some 48, some 49, some 50, some 51, some 52, some 53, some 54, some 55, some 56, some 57, some 58, some 59, some 60, some 61, some 62, some 63, some 64, some 65, some 66, some 8]
def Lzo8 : List (List Nat) := [[], [], [0, 1], [2], [3], [3], [3], [3], [7, 3], [6, 8, 3], [4, 5, 9, 3], [3], [3], [3], [3], [14, 3], [13, 15, 3], [11, 12, 16, 3], [10, 17, 3], [3, 18], [19], [20], [20, 21], [22]]
theorem far_min {L : List SM} (h : Far 0 L) : Far minI L := h.mono (by decide)
set_option maxRecDepth 100000 in
set_option maxHeartbeats 4000000 in
theorem orders_law {w : World} {a : Option Addr} {n c : Nat} {l : List Int} (hI : Is (fun b => b < w.heap.size) w a n c l) (hk : Ok64Z l) (x y : Int) (late : Bool) (x1 : -9223372036854775808 ≤ x) (x2 : x ≤ 9223372036854775807) (y1 : -9223372036854775808 ≤ y) (y2 : y ≤ 9223372036854775807) : Calls Try.prog 7 #[.slice a n c, .int .i64 x, .int .i64 y, .bool late] w fun e w' => e = .returned (.bool true) ∧ Below w.heap.size w w' := by
  have HZO := Lib.hid (zone_any hI hk)
  have ho := zoneO_bd l
  have hf := zoneL_far l
  have hl := zoneL_len l
  obtain ⟨O, hO⟩ : ∃ O, O = zoneO l := ⟨_, rfl⟩
  obtain ⟨L, hL⟩ : ∃ L, L = zoneL l := ⟨_, rfl⟩
  rw [← hO, ← hL] at HZO
  rw [← hO] at ho
  rw [← hL] at hf hl
  have HO := Lib.hid ho
  have HF := Lib.hid hf
  have HLN := Lib.hid hl
  clear hI hk ho hf hl hO hL
  have HLV := Lib.hid (fun u => lives_any u)
  have HBO := Lib.hid (fun u => boundZ_any x 400000 u x1 x2 (by omega) (by omega))
  have HAR := Lib.hid (fun u => aroundZ_any y 4000 u y1 y2 (by omega) (by omega))
  have hkb := boundZ_bd x 400000 (by omega)
  have hyb := aroundZ_bd y 4000 (by omega)
  obtain ⟨k, hk⟩ : ∃ k, k = boundZ x 400000 := ⟨_, rfl⟩
  obtain ⟨g, hg⟩ : ∃ g, g = aroundZ y 4000 := ⟨_, rfl⟩
  rw [← hk] at HBO hkb
  rw [← hg] at HAR hyb
  obtain ⟨m, hm⟩ : ∃ m, m = k + g := ⟨_, rfl⟩
  have j0 : IntKind.i64.wrap (k + g) = m := by rw [i64_id _ (by omega) (by omega), hm]
  have HFL1 := Lib.hid (fun u => floorZ_any k u (by omega) (by omega))
  have HFL2 := Lib.hid (fun u => floorZ_any m u (by omega) (by omega))
  obtain ⟨d1, hd1⟩ : ∃ d1, d1 = k / 1440 := ⟨_, rfl⟩
  obtain ⟨d2, hd2⟩ : ∃ d2, d2 = m / 1440 := ⟨_, rfl⟩
  rw [← hd1] at HFL1
  rw [← hd2] at HFL2
  obtain ⟨s1, hs1⟩ : ∃ s1, s1 = k - 1440 * d1 := ⟨_, rfl⟩
  obtain ⟨s2, hs2⟩ : ∃ s2, s2 = m - 1440 * d2 := ⟨_, rfl⟩
  have j1 : IntKind.i64.wrap (1440 * d1) = 1440 * d1 := i64_id _ (by omega) (by omega)
  have j2 : IntKind.i64.wrap (k - 1440 * d1) = s1 := by rw [i64_id _ (by omega) (by omega), hs1]
  have j3 : IntKind.i64.wrap (1440 * d2) = 1440 * d2 := i64_id _ (by omega) (by omega)
  have j4 : IntKind.i64.wrap (m - 1440 * d2) = s2 := by rw [i64_id _ (by omega) (by omega), hs2]
  have HKB : Hid ((-400000 ≤ k ∧ k ≤ 400000) ∧ -300 ≤ d1 ∧ d1 ≤ 300 ∧ 0 ≤ s1 ∧ s1 < 1440 ∧ k = 1440 * d1 + s1) := Lib.hid (by omega)
  have HMB : Hid ((k ≤ m ∧ m ≤ 410000) ∧ -300 ≤ d2 ∧ d2 ≤ 300 ∧ 0 ≤ s2 ∧ s2 < 1440 ∧ m = 1440 * d2 + s2) := Lib.hid (by omega)
  have J1 := Lib.hid j1
  have J2 := Lib.hid j2
  clear hk hg hm hd1 hd2 hs1 hs2 hkb hyb
  go_enter Try.func7, Try.ntmps7
  go_upto_region 2 with (go_at_call 14; refine HZO.out.mono ?_; rintro e w1 ⟨az, nz, cz, rfl, hs, hb⟩; unfold zV; have HS0 := Lib.hid hs; have HB0 := Lib.hid hb; have p0 : ZoneB (w1.alloc (.cells #[.int .i64 0, .slice none 0 0] 24)) w1.heap.size := ⟨_, _, heap_newZ⟩; clear hs hb HZO)
  obtain ⟨W1, hW1⟩ : ∃ W1, W1 = (w1.alloc (.cells #[.int .i64 0, .slice none 0 0] 24)).setRow w1.heap.size #[.int .i64 O, .slice az nz cz] := ⟨_, rfl⟩
  obtain ⟨gz, hgz⟩ : ∃ gz, gz = w1.heap.size := ⟨_, rfl⟩
  have hr1 : W1.heap[gz]? = some (.cells #[.int .i64 O, .slice az nz cz] 24 (0, 0)) := by rw [hW1, hgz]; exact setRow_heap _ _ _ _ _ _ heap_newZ
  have hb1 : Below w1.heap.size w1 W1 := by rw [hW1]; exact (((Kept.refl (fun _ => False) w1).alloc _).setRow (fun h => by omega) _).below (Nat.le_refl _) (fun _ _ h => h)
  rw [← hW1]
  rw [← hgz]
  have HS := Lib.hid ((HS0.out.below hb1).dom (D' := fun _ => True) (fun _ _ => trivial))
  have HW := Lib.hid (HB0.out.trans (hb1.mono HB0.out.size))
  have HR := Lib.hid hr1
  have HGZL := Lib.hid (heap_lt hr1)
  have HN1 : Hid (nz ≤ 20) := Lib.hid (by have := HS.out.1; have := HLN.out; omega)
  have ldz := run_loadZone hr1
  have HBP : Hid (Below W1.heap.size W1 W1) := Lib.hid (Below.refl _ _)
  clear hW1 hgz hr1 hb1 HS0 HB0 p0
  have CA : Hid (∀ u, Below W1.heap.size W1 u → Calls Try.prog 24 #[.agg #[.int .i64 O, .slice az nz cz], .int .i64 d1, .int .i64 s1, .bool late] u fun e w' => e = .returned (.int .i64 (resP late k 0 (segL minI O L))) ∧ Below u.heap.size u w') := Lib.hid (fun u hu => resolve_any (HS.out.below hu) HO.out HF.out.offs (by have := HKB.out; have := HMB.out; omega) (by have := HKB.out; have := HMB.out; omega) (by have := HKB.out; have := HMB.out; omega))
  have CB : Hid (∀ u, Below W1.heap.size W1 u → Calls Try.prog 24 #[.agg #[.int .i64 O, .slice az nz cz], .int .i64 d2, .int .i64 s2, .bool late] u fun e w' => e = .returned (.int .i64 (resP late m 0 (segL minI O L))) ∧ Below u.heap.size u w') := Lib.hid (fun u hu => resolve_any (HS.out.below hu) HO.out HF.out.offs (by have := HKB.out; have := HMB.out; omega) (by have := HKB.out; have := HMB.out; omega) (by have := HKB.out; have := HMB.out; omega))
  have CE : Hid (∀ u, Below W1.heap.size W1 u → Calls Try.prog 24 #[.agg #[.int .i64 O, .slice az nz cz], .int .i64 d1, .int .i64 s1, .bool false] u fun e w' => e = .returned (.int .i64 (resP false k 0 (segL minI O L))) ∧ Below u.heap.size u w') := Lib.hid (fun u hu => resolve_any (HS.out.below hu) HO.out HF.out.offs (by have := HKB.out; have := HMB.out; omega) (by have := HKB.out; have := HMB.out; omega) (by have := HKB.out; have := HMB.out; omega))
  have CF : Hid (∀ u, Below W1.heap.size W1 u → Calls Try.prog 24 #[.agg #[.int .i64 O, .slice az nz cz], .int .i64 d1, .int .i64 s1, .bool true] u fun e w' => e = .returned (.int .i64 (resP true k 0 (segL minI O L))) ∧ Below u.heap.size u w') := Lib.hid (fun u hu => resolve_any (HS.out.below hu) HO.out HF.out.offs (by have := HKB.out; have := HMB.out; omega) (by have := HKB.out; have := HMB.out; omega) (by have := HKB.out; have := HMB.out; omega))
  have hab : resP late k 0 (segL minI O L) ≤ resP late m 0 (segL minI O L) := resP_mono HMB.out.1.1 L minI O 0 0 (far_min HF.out) (by have := HO.out; have := HKB.out; unfold minI; omega)
  have hef : resP false k 0 (segL minI O L) ≤ resP true k 0 (segL minI O L) := resP_late L minI O 0 0 (far_min HF.out) (by have := HO.out; have := HKB.out; unfold minI; omega)
  obtain ⟨ra, hra⟩ : ∃ ra, ra = resP late k 0 (segL minI O L) := ⟨_, rfl⟩
  obtain ⟨rb, hrb⟩ : ∃ rb, rb = resP late m 0 (segL minI O L) := ⟨_, rfl⟩
  obtain ⟨re, hre⟩ : ∃ re, re = resP false k 0 (segL minI O L) := ⟨_, rfl⟩
  obtain ⟨rf, hrf⟩ : ∃ rf, rf = resP true k 0 (segL minI O L) := ⟨_, rfl⟩
  rw [← hra] at CA hab
  rw [← hrb] at CB hab
  rw [← hre] at CE hef
  rw [← hrf] at CF hef
  have HAB := Lib.hid hab
  have HEF := Lib.hid hef
  clear hra hrb hre hrf hab hef
  go_upto_region 4 with (first
    | (go_at_call 26; refine (HBO.out _).mono ?_; rintro e w2 ⟨rfl, rfl⟩)
    | (go_at_call 27; refine (HAR.out _).mono ?_; rintro e w2 ⟨rfl, rfl⟩))
  go_upto_region 5 with (go_at_call 28; refine (HFL1.out _).mono ?_; rintro e w2 ⟨rfl, rfl⟩)
  go_upto_region 6 with (go_at_call 28; refine (HFL2.out _).mono ?_; rintro e w2 ⟨rfl, rfl⟩)
  go_upto_region 7 with (go_at_call 24; refine (CA.out _ HBP.out).mono ?_; rintro e q1 ⟨rfl, hb⟩; have HBN := Lib.hid (HBP.out.trans (hb.mono HBP.out.size)); have HRN := Lib.hid ((hb.block gz (heap_lt HR.out)).trans HR.out); clear HBP HR ldz hb; have HBP := HBN; have HR := HRN; clear HBN HRN; have ldz := run_loadZone HR.out)
  go_upto_region 8 with (go_at_call 24; refine (CB.out _ HBP.out).mono ?_; rintro e q2 ⟨rfl, hb⟩; have HBN := Lib.hid (HBP.out.trans (hb.mono HBP.out.size)); have HRN := Lib.hid ((hb.block gz (heap_lt HR.out)).trans HR.out); clear HBP HR ldz hb; have HBP := HBN; have HR := HRN; clear HBN HRN; have ldz := run_loadZone HR.out)
  clear ldz HGZL
  have HGZL := Lib.hid (heap_lt HR.out)
  refine Roll.region_f 23 67 Dzo8 Lzo8 [(9, .pointer (some ⟨gz, 0, none⟩)), (10, .int .i64 k), (12, .int .i64 d1), (14, .int .i64 ra), (15, .int .i64 rb)] (fun p => Below q2.heap.size q2 p) (fun p p2 => Below p.heap.size p p2) [fun vv p => vv = .int .i64 ra, fun vv p => vv = .int .i64 rb, fun vv p => vv = .bool true, fun vv p => vv = .bool true, fun vv p => vv = .agg #[.int .i64 O, .slice az nz cz], fun vv p => vv = .int .i64 d1, fun vv p => vv = .int .i64 k, fun vv p => vv = .int .i64 d1, fun vv p => vv = .int .i64 (1440 * d1), fun vv p => vv = .int .i64 s1, fun vv p => vv = .int .i64 re, fun vv p => vv = .agg #[.int .i64 O, .slice az nz cz], fun vv p => vv = .int .i64 d1, fun vv p => vv = .int .i64 k, fun vv p => vv = .int .i64 d1, fun vv p => vv = .int .i64 (1440 * d1), fun vv p => vv = .int .i64 s1, fun vv p => vv = .int .i64 rf, fun vv p => vv = .bool true, fun vv p => vv = .bool true, fun vv p => vv = .bool true, fun vv p => vv = .bool true, fun vv p => vv = .bool true] (by kernel_rfl) (by kernel_rfl) rfl ⟨rfl, rfl, rfl, rfl, rfl, trivial⟩ ((Below.refl _ _).drew) ?_ ?_ ?_
  · exact ⟨fun _ _ _ _ h => h, fun _ _ _ _ h => h, fun _ _ _ _ h => h, fun _ _ _ _ h => h, fun _ _ _ _ h => h, fun _ _ _ _ h => h, fun _ _ _ _ h => h, fun _ _ _ _ h => h, fun _ _ _ _ h => h, fun _ _ _ _ h => h, fun _ _ _ _ h => h, fun _ _ _ _ h => h, fun _ _ _ _ h => h, fun _ _ _ _ h => h, fun _ _ _ _ h => h, fun _ _ _ _ h => h, fun _ _ _ _ h => h, fun _ _ _ _ h => h, fun _ _ _ _ h => h, fun _ _ _ _ h => h, fun _ _ _ _ h => h, fun _ _ _ _ h => h, fun _ _ _ _ h => h, trivial⟩
  · intro b0 hN hlv
    refine ⟨?_, ?_, ?_, ?_, ?_, ?_, ?_, ?_, ?_, ?_, ?_, ?_, ?_, ?_, ?_, ?_, ?_, ?_, ?_, ?_, ?_, ?_, ?_, trivial⟩
    · intro vs p hI hp
      have e14 : (Roll.putD Dzo8 vs [] b0).eval (.tmp 14) = .int .i64 ra := (Roll.eval_old rfl).trans (hlv.at 3 (14, .int .i64 ra) rfl)
      clear hp hlv hN
      unfold Roll.Goes
      simp only [Lzo8, List.getD_cons_zero, List.getD_cons_succ]
      generalize Roll.putD Dzo8 vs [] b0 = a1 at *
      refine Roll.goes_val (w' := p) (.int .i64 ra) rfl ?_ ⟨hI, Below.refl _ _, rfl⟩
      (have ec : ∀ x, a1.eval (.const x) = x := fun _ => rfl); (have ef : ∀ x, a1.eval (.func x) = .func (.func x) #[] #[] := fun _ => rfl); generalize a1.eval = ρ at *
      skip
      go_simp <;> (intros; first | (exfalso; omega) | rfl | omega)
    · intro vs p hI hp
      have e15 : (Roll.putD Dzo8 vs [] b0).eval (.tmp 15) = .int .i64 rb := (Roll.eval_old rfl).trans (hlv.at 4 (15, .int .i64 rb) rfl)
      clear hp hlv hN
      unfold Roll.Goes
      simp only [Lzo8, List.getD_cons_zero, List.getD_cons_succ]
      generalize Roll.putD Dzo8 vs [] b0 = a1 at *
      refine Roll.goes_val (w' := p) (.int .i64 rb) rfl ?_ ⟨hI, Below.refl _ _, rfl⟩
      (have ec : ∀ x, a1.eval (.const x) = x := fun _ => rfl); (have ef : ∀ x, a1.eval (.func x) = .func (.func x) #[] #[] := fun _ => rfl); generalize a1.eval = ρ at *
      skip
      go_simp <;> (intros; first | (exfalso; omega) | rfl | omega)
    · intro vs p hI hp
      have h0 : (vs 0) = .int .i64 ra := hp 0 (by simp [Lzo8])
      have h1 : (vs 1) = .int .i64 rb := hp 1 (by simp [Lzo8])
      have e44 : (Roll.putD Dzo8 vs [0, 1] b0).eval (.tmp 44) = .int .i64 ra := (Roll.eval_new 0 rfl (by decide) (by decide) (by omega)).trans h0
      have e45 : (Roll.putD Dzo8 vs [0, 1] b0).eval (.tmp 45) = .int .i64 rb := (Roll.eval_new 1 rfl (by decide) (by decide) (by omega)).trans h1
      clear hp hlv hN
      unfold Roll.Goes
      simp only [Lzo8, List.getD_cons_zero, List.getD_cons_succ]
      generalize Roll.putD Dzo8 vs [0, 1] b0 = a1 at *
      have f0 := HAB.out
      refine Roll.goes_val (w' := p) (.bool true) rfl ?_ ⟨hI, Below.refl _ _, rfl⟩
      (have ec : ∀ x, a1.eval (.const x) = x := fun _ => rfl); (have ef : ∀ x, a1.eval (.func x) = .func (.func x) #[] #[] := fun _ => rfl); generalize a1.eval = ρ at *
      clear h0 h1
      go_simp <;> (intros; first | (exfalso; omega) | rfl | omega)
    · intro vs p hI hp
      have h2 : (vs 2) = .bool true := hp 2 (by simp [Lzo8])
      have e46 : (Roll.putD Dzo8 vs [2] b0).eval (.tmp 46) = .bool true := (Roll.eval_new 2 rfl (by decide) (by decide) (by omega)).trans h2
      clear hp hlv hN
      unfold Roll.Goes
      simp only [Lzo8, List.getD_cons_zero, List.getD_cons_succ]
      generalize Roll.putD Dzo8 vs [2] b0 = a1 at *
      refine Roll.goes_val (w' := p) (.bool true) rfl ?_ ⟨hI, Below.refl _ _, rfl⟩
      (have ec : ∀ x, a1.eval (.const x) = x := fun _ => rfl); (have ef : ∀ x, a1.eval (.func x) = .func (.func x) #[] #[] := fun _ => rfl); generalize a1.eval = ρ at *
      clear h2
      go_simp <;> (intros; first | (exfalso; omega) | rfl | omega)
    · intro vs p hI hp
      have h3 : (vs 3) = .bool true := hp 3 (by simp [Lzo8])
      have e9 : (Roll.putD Dzo8 vs [3] b0).eval (.tmp 9) = .pointer (some ⟨gz, 0, none⟩) := (Roll.eval_old rfl).trans (hlv.at 0 (9, .pointer (some ⟨gz, 0, none⟩)) rfl)
      clear hp hlv hN
      refine ⟨fun hg => ?_, fun hg => absurd h3 hg⟩
      clear hg
      unfold Roll.Goes
      simp only [Lzo8, List.getD_cons_zero, List.getD_cons_succ]
      generalize Roll.putD Dzo8 vs [3] b0 = a1 at *
      have ldz := run_loadZone ((hI.block gz HGZL.out).trans HR.out)
      refine Roll.goes_val (w' := p) (.agg #[.int .i64 O, .slice az nz cz]) rfl ?_ ⟨hI, Below.refl _ _, rfl⟩
      (have ec : ∀ x, a1.eval (.const x) = x := fun _ => rfl); (have ef : ∀ x, a1.eval (.func x) = .func (.func x) #[] #[] := fun _ => rfl); generalize a1.eval = ρ at *
      clear h3
      go_simp <;> (intros; first | (exfalso; omega) | rfl | omega)
    · intro vs p hI hp
      have h3 : (vs 3) = .bool true := hp 3 (by simp [Lzo8])
      have e12 : (Roll.putD Dzo8 vs [3] b0).eval (.tmp 12) = .int .i64 d1 := (Roll.eval_old rfl).trans (hlv.at 2 (12, .int .i64 d1) rfl)
      clear hp hlv hN
      refine ⟨fun hg => ?_, fun hg => absurd h3 hg⟩
      clear hg
      unfold Roll.Goes
      simp only [Lzo8, List.getD_cons_zero, List.getD_cons_succ]
      generalize Roll.putD Dzo8 vs [3] b0 = a1 at *
      refine Roll.goes_val (w' := p) (.int .i64 d1) rfl ?_ ⟨hI, Below.refl _ _, rfl⟩
      (have ec : ∀ x, a1.eval (.const x) = x := fun _ => rfl); (have ef : ∀ x, a1.eval (.func x) = .func (.func x) #[] #[] := fun _ => rfl); generalize a1.eval = ρ at *
      clear h3
      go_simp <;> (intros; first | (exfalso; omega) | rfl | omega)
    · intro vs p hI hp
      have h3 : (vs 3) = .bool true := hp 3 (by simp [Lzo8])
      have e10 : (Roll.putD Dzo8 vs [3] b0).eval (.tmp 10) = .int .i64 k := (Roll.eval_old rfl).trans (hlv.at 1 (10, .int .i64 k) rfl)
      clear hp hlv hN
      refine ⟨fun hg => ?_, fun hg => absurd h3 hg⟩
      clear hg
      unfold Roll.Goes
      simp only [Lzo8, List.getD_cons_zero, List.getD_cons_succ]
      generalize Roll.putD Dzo8 vs [3] b0 = a1 at *
      refine Roll.goes_val (w' := p) (.int .i64 k) rfl ?_ ⟨hI, Below.refl _ _, rfl⟩
      (have ec : ∀ x, a1.eval (.const x) = x := fun _ => rfl); (have ef : ∀ x, a1.eval (.func x) = .func (.func x) #[] #[] := fun _ => rfl); generalize a1.eval = ρ at *
      clear h3
      go_simp <;> (intros; first | (exfalso; omega) | rfl | omega)
    · intro vs p hI hp
      have h3 : (vs 3) = .bool true := hp 3 (by simp [Lzo8])
      have e12 : (Roll.putD Dzo8 vs [3] b0).eval (.tmp 12) = .int .i64 d1 := (Roll.eval_old rfl).trans (hlv.at 2 (12, .int .i64 d1) rfl)
      clear hp hlv hN
      refine ⟨fun hg => ?_, fun hg => absurd h3 hg⟩
      clear hg
      unfold Roll.Goes
      simp only [Lzo8, List.getD_cons_zero, List.getD_cons_succ]
      generalize Roll.putD Dzo8 vs [3] b0 = a1 at *
      refine Roll.goes_val (w' := p) (.int .i64 d1) rfl ?_ ⟨hI, Below.refl _ _, rfl⟩
      (have ec : ∀ x, a1.eval (.const x) = x := fun _ => rfl); (have ef : ∀ x, a1.eval (.func x) = .func (.func x) #[] #[] := fun _ => rfl); generalize a1.eval = ρ at *
      clear h3
      go_simp <;> (intros; first | (exfalso; omega) | rfl | omega)
    · intro vs p hI hp
      have h7 : (vs 7) = .int .i64 d1 := hp 7 (by simp [Lzo8])
      have h3 : (vs 3) = .bool true := hp 3 (by simp [Lzo8])
      have e51 : (Roll.putD Dzo8 vs [7, 3] b0).eval (.tmp 51) = .int .i64 d1 := (Roll.eval_new 7 rfl (by decide) (by decide) (by omega)).trans h7
      clear hp hlv hN
      refine ⟨fun hg => ?_, fun hg => absurd h3 hg⟩
      clear hg
      unfold Roll.Goes
      simp only [Lzo8, List.getD_cons_zero, List.getD_cons_succ]
      generalize Roll.putD Dzo8 vs [7, 3] b0 = a1 at *
      have f0 := J1.out
      refine Roll.goes_val (w' := p) (.int .i64 (1440 * d1)) rfl ?_ ⟨hI, Below.refl _ _, rfl⟩
      (have ec : ∀ x, a1.eval (.const x) = x := fun _ => rfl); (have ef : ∀ x, a1.eval (.func x) = .func (.func x) #[] #[] := fun _ => rfl); generalize a1.eval = ρ at *
      clear h7 h3
      go_simp <;> (intros; first | (exfalso; omega) | rfl | omega)
    · intro vs p hI hp
      have h6 : (vs 6) = .int .i64 k := hp 6 (by simp [Lzo8])
      have h8 : (vs 8) = .int .i64 (1440 * d1) := hp 8 (by simp [Lzo8])
      have h3 : (vs 3) = .bool true := hp 3 (by simp [Lzo8])
      have e50 : (Roll.putD Dzo8 vs [6, 8, 3] b0).eval (.tmp 50) = .int .i64 k := (Roll.eval_new 6 rfl (by decide) (by decide) (by omega)).trans h6
      have e52 : (Roll.putD Dzo8 vs [6, 8, 3] b0).eval (.tmp 52) = .int .i64 (1440 * d1) := (Roll.eval_new 8 rfl (by decide) (by decide) (by omega)).trans h8
      clear hp hlv hN
      refine ⟨fun hg => ?_, fun hg => absurd h3 hg⟩
      clear hg
      unfold Roll.Goes
      simp only [Lzo8, List.getD_cons_zero, List.getD_cons_succ]
      generalize Roll.putD Dzo8 vs [6, 8, 3] b0 = a1 at *
      have f0 := J2.out
      refine Roll.goes_val (w' := p) (.int .i64 s1) rfl ?_ ⟨hI, Below.refl _ _, rfl⟩
      (have ec : ∀ x, a1.eval (.const x) = x := fun _ => rfl); (have ef : ∀ x, a1.eval (.func x) = .func (.func x) #[] #[] := fun _ => rfl); generalize a1.eval = ρ at *
      clear h6 h8 h3
      go_simp <;> (intros; first | (exfalso; omega) | rfl | omega)
    · intro vs p hI hp
      have h4 : (vs 4) = .agg #[.int .i64 O, .slice az nz cz] := hp 4 (by simp [Lzo8])
      have h5 : (vs 5) = .int .i64 d1 := hp 5 (by simp [Lzo8])
      have h9 : (vs 9) = .int .i64 s1 := hp 9 (by simp [Lzo8])
      have h3 : (vs 3) = .bool true := hp 3 (by simp [Lzo8])
      have e48 : (Roll.putD Dzo8 vs [4, 5, 9, 3] b0).eval (.tmp 48) = .agg #[.int .i64 O, .slice az nz cz] := (Roll.eval_new 4 rfl (by decide) (by decide) (by omega)).trans h4
      have e49 : (Roll.putD Dzo8 vs [4, 5, 9, 3] b0).eval (.tmp 49) = .int .i64 d1 := (Roll.eval_new 5 rfl (by decide) (by decide) (by omega)).trans h5
      have e53 : (Roll.putD Dzo8 vs [4, 5, 9, 3] b0).eval (.tmp 53) = .int .i64 s1 := (Roll.eval_new 9 rfl (by decide) (by decide) (by omega)).trans h9
      clear hp hlv hN
      refine ⟨fun hg => ?_, fun hg => absurd h3 hg⟩
      clear hg
      unfold Roll.Goes
      simp only [Lzo8, List.getD_cons_zero, List.getD_cons_succ]
      generalize Roll.putD Dzo8 vs [4, 5, 9, 3] b0 = a1 at *
      refine Roll.goes_call 24 #[.agg #[.int .i64 O, .slice az nz cz], .int .i64 d1, .int .i64 s1, .bool false] p rfl (by have ec : ∀ x, a1.eval (.const x) = x := fun _ => rfl; have ef : ∀ x, a1.eval (.func x) = .func (.func x) #[] #[] := fun _ => rfl; generalize a1.eval = ρ at *; go_simp) ?_
      refine (CE.out p (HBP.out.trans (hI.mono HBP.out.size))).mono ?_
      rintro q p2 ⟨rfl, hb⟩
      exact ⟨_, rfl, hI.trans (hb.mono hI.size), hb, rfl⟩
    · intro vs p hI hp
      have h3 : (vs 3) = .bool true := hp 3 (by simp [Lzo8])
      have e9 : (Roll.putD Dzo8 vs [3] b0).eval (.tmp 9) = .pointer (some ⟨gz, 0, none⟩) := (Roll.eval_old rfl).trans (hlv.at 0 (9, .pointer (some ⟨gz, 0, none⟩)) rfl)
      clear hp hlv hN
      refine ⟨fun hg => ?_, fun hg => absurd h3 hg⟩
      clear hg
      unfold Roll.Goes
      simp only [Lzo8, List.getD_cons_zero, List.getD_cons_succ]
      generalize Roll.putD Dzo8 vs [3] b0 = a1 at *
      have ldz := run_loadZone ((hI.block gz HGZL.out).trans HR.out)
      refine Roll.goes_val (w' := p) (.agg #[.int .i64 O, .slice az nz cz]) rfl ?_ ⟨hI, Below.refl _ _, rfl⟩
      (have ec : ∀ x, a1.eval (.const x) = x := fun _ => rfl); (have ef : ∀ x, a1.eval (.func x) = .func (.func x) #[] #[] := fun _ => rfl); generalize a1.eval = ρ at *
      clear h3
      go_simp <;> (intros; first | (exfalso; omega) | rfl | omega)
    · intro vs p hI hp
      have h3 : (vs 3) = .bool true := hp 3 (by simp [Lzo8])
      have e12 : (Roll.putD Dzo8 vs [3] b0).eval (.tmp 12) = .int .i64 d1 := (Roll.eval_old rfl).trans (hlv.at 2 (12, .int .i64 d1) rfl)
      clear hp hlv hN
      refine ⟨fun hg => ?_, fun hg => absurd h3 hg⟩
      clear hg
      unfold Roll.Goes
      simp only [Lzo8, List.getD_cons_zero, List.getD_cons_succ]
      generalize Roll.putD Dzo8 vs [3] b0 = a1 at *
      refine Roll.goes_val (w' := p) (.int .i64 d1) rfl ?_ ⟨hI, Below.refl _ _, rfl⟩
      (have ec : ∀ x, a1.eval (.const x) = x := fun _ => rfl); (have ef : ∀ x, a1.eval (.func x) = .func (.func x) #[] #[] := fun _ => rfl); generalize a1.eval = ρ at *
      clear h3
      go_simp <;> (intros; first | (exfalso; omega) | rfl | omega)
    · intro vs p hI hp
      have h3 : (vs 3) = .bool true := hp 3 (by simp [Lzo8])
      have e10 : (Roll.putD Dzo8 vs [3] b0).eval (.tmp 10) = .int .i64 k := (Roll.eval_old rfl).trans (hlv.at 1 (10, .int .i64 k) rfl)
      clear hp hlv hN
      refine ⟨fun hg => ?_, fun hg => absurd h3 hg⟩
      clear hg
      unfold Roll.Goes
      simp only [Lzo8, List.getD_cons_zero, List.getD_cons_succ]
      generalize Roll.putD Dzo8 vs [3] b0 = a1 at *
      refine Roll.goes_val (w' := p) (.int .i64 k) rfl ?_ ⟨hI, Below.refl _ _, rfl⟩
      (have ec : ∀ x, a1.eval (.const x) = x := fun _ => rfl); (have ef : ∀ x, a1.eval (.func x) = .func (.func x) #[] #[] := fun _ => rfl); generalize a1.eval = ρ at *
      clear h3
      go_simp <;> (intros; first | (exfalso; omega) | rfl | omega)
    · intro vs p hI hp
      have h3 : (vs 3) = .bool true := hp 3 (by simp [Lzo8])
      have e12 : (Roll.putD Dzo8 vs [3] b0).eval (.tmp 12) = .int .i64 d1 := (Roll.eval_old rfl).trans (hlv.at 2 (12, .int .i64 d1) rfl)
      clear hp hlv hN
      refine ⟨fun hg => ?_, fun hg => absurd h3 hg⟩
      clear hg
      unfold Roll.Goes
      simp only [Lzo8, List.getD_cons_zero, List.getD_cons_succ]
      generalize Roll.putD Dzo8 vs [3] b0 = a1 at *
      refine Roll.goes_val (w' := p) (.int .i64 d1) rfl ?_ ⟨hI, Below.refl _ _, rfl⟩
      (have ec : ∀ x, a1.eval (.const x) = x := fun _ => rfl); (have ef : ∀ x, a1.eval (.func x) = .func (.func x) #[] #[] := fun _ => rfl); generalize a1.eval = ρ at *
      clear h3
      go_simp <;> (intros; first | (exfalso; omega) | rfl | omega)
    · intro vs p hI hp
      have h14 : (vs 14) = .int .i64 d1 := hp 14 (by simp [Lzo8])
      have h3 : (vs 3) = .bool true := hp 3 (by simp [Lzo8])
      have e58 : (Roll.putD Dzo8 vs [14, 3] b0).eval (.tmp 58) = .int .i64 d1 := (Roll.eval_new 14 rfl (by decide) (by decide) (by omega)).trans h14
      clear hp hlv hN
      refine ⟨fun hg => ?_, fun hg => absurd h3 hg⟩
      clear hg
      unfold Roll.Goes
      simp only [Lzo8, List.getD_cons_zero, List.getD_cons_succ]
      generalize Roll.putD Dzo8 vs [14, 3] b0 = a1 at *
      have f0 := J1.out
      refine Roll.goes_val (w' := p) (.int .i64 (1440 * d1)) rfl ?_ ⟨hI, Below.refl _ _, rfl⟩
      (have ec : ∀ x, a1.eval (.const x) = x := fun _ => rfl); (have ef : ∀ x, a1.eval (.func x) = .func (.func x) #[] #[] := fun _ => rfl); generalize a1.eval = ρ at *
      clear h14 h3
      go_simp <;> (intros; first | (exfalso; omega) | rfl | omega)
    · intro vs p hI hp
      have h13 : (vs 13) = .int .i64 k := hp 13 (by simp [Lzo8])
      have h15 : (vs 15) = .int .i64 (1440 * d1) := hp 15 (by simp [Lzo8])
      have h3 : (vs 3) = .bool true := hp 3 (by simp [Lzo8])
      have e57 : (Roll.putD Dzo8 vs [13, 15, 3] b0).eval (.tmp 57) = .int .i64 k := (Roll.eval_new 13 rfl (by decide) (by decide) (by omega)).trans h13
      have e59 : (Roll.putD Dzo8 vs [13, 15, 3] b0).eval (.tmp 59) = .int .i64 (1440 * d1) := (Roll.eval_new 15 rfl (by decide) (by decide) (by omega)).trans h15
      clear hp hlv hN
      refine ⟨fun hg => ?_, fun hg => absurd h3 hg⟩
      clear hg
      unfold Roll.Goes
      simp only [Lzo8, List.getD_cons_zero, List.getD_cons_succ]
      generalize Roll.putD Dzo8 vs [13, 15, 3] b0 = a1 at *
      have f0 := J2.out
      refine Roll.goes_val (w' := p) (.int .i64 s1) rfl ?_ ⟨hI, Below.refl _ _, rfl⟩
      (have ec : ∀ x, a1.eval (.const x) = x := fun _ => rfl); (have ef : ∀ x, a1.eval (.func x) = .func (.func x) #[] #[] := fun _ => rfl); generalize a1.eval = ρ at *
      clear h13 h15 h3
      go_simp <;> (intros; first | (exfalso; omega) | rfl | omega)
    · intro vs p hI hp
      have h11 : (vs 11) = .agg #[.int .i64 O, .slice az nz cz] := hp 11 (by simp [Lzo8])
      have h12 : (vs 12) = .int .i64 d1 := hp 12 (by simp [Lzo8])
      have h16 : (vs 16) = .int .i64 s1 := hp 16 (by simp [Lzo8])
      have h3 : (vs 3) = .bool true := hp 3 (by simp [Lzo8])
      have e55 : (Roll.putD Dzo8 vs [11, 12, 16, 3] b0).eval (.tmp 55) = .agg #[.int .i64 O, .slice az nz cz] := (Roll.eval_new 11 rfl (by decide) (by decide) (by omega)).trans h11
      have e56 : (Roll.putD Dzo8 vs [11, 12, 16, 3] b0).eval (.tmp 56) = .int .i64 d1 := (Roll.eval_new 12 rfl (by decide) (by decide) (by omega)).trans h12
      have e60 : (Roll.putD Dzo8 vs [11, 12, 16, 3] b0).eval (.tmp 60) = .int .i64 s1 := (Roll.eval_new 16 rfl (by decide) (by decide) (by omega)).trans h16
      clear hp hlv hN
      refine ⟨fun hg => ?_, fun hg => absurd h3 hg⟩
      clear hg
      unfold Roll.Goes
      simp only [Lzo8, List.getD_cons_zero, List.getD_cons_succ]
      generalize Roll.putD Dzo8 vs [11, 12, 16, 3] b0 = a1 at *
      refine Roll.goes_call 24 #[.agg #[.int .i64 O, .slice az nz cz], .int .i64 d1, .int .i64 s1, .bool true] p rfl (by have ec : ∀ x, a1.eval (.const x) = x := fun _ => rfl; have ef : ∀ x, a1.eval (.func x) = .func (.func x) #[] #[] := fun _ => rfl; generalize a1.eval = ρ at *; go_simp) ?_
      refine (CF.out p (HBP.out.trans (hI.mono HBP.out.size))).mono ?_
      rintro q p2 ⟨rfl, hb⟩
      exact ⟨_, rfl, hI.trans (hb.mono hI.size), hb, rfl⟩
    · intro vs p hI hp
      have h10 : (vs 10) = .int .i64 re := hp 10 (by simp [Lzo8])
      have h17 : (vs 17) = .int .i64 rf := hp 17 (by simp [Lzo8])
      have h3 : (vs 3) = .bool true := hp 3 (by simp [Lzo8])
      have e54 : (Roll.putD Dzo8 vs [10, 17, 3] b0).eval (.tmp 54) = .int .i64 re := (Roll.eval_new 10 rfl (by decide) (by decide) (by omega)).trans h10
      have e61 : (Roll.putD Dzo8 vs [10, 17, 3] b0).eval (.tmp 61) = .int .i64 rf := (Roll.eval_new 17 rfl (by decide) (by decide) (by omega)).trans h17
      clear hp hlv hN
      refine ⟨fun hg => ?_, fun hg => absurd h3 hg⟩
      clear hg
      unfold Roll.Goes
      simp only [Lzo8, List.getD_cons_zero, List.getD_cons_succ]
      generalize Roll.putD Dzo8 vs [10, 17, 3] b0 = a1 at *
      have f0 := HEF.out
      refine Roll.goes_val (w' := p) (.bool true) rfl ?_ ⟨hI, Below.refl _ _, rfl⟩
      (have ec : ∀ x, a1.eval (.const x) = x := fun _ => rfl); (have ef : ∀ x, a1.eval (.func x) = .func (.func x) #[] #[] := fun _ => rfl); generalize a1.eval = ρ at *
      clear h10 h17 h3
      go_simp <;> (intros; first | (exfalso; omega) | rfl | omega)
    · intro vs p hI hp
      have h3 : (vs 3) = .bool true := hp 3 (by simp [Lzo8])
      have h18 : (vs 18) = .bool true := hp 18 (by simp [Lzo8])
      have e47 : (Roll.putD Dzo8 vs [3, 18] b0).eval (.tmp 47) = .bool true := (Roll.eval_new 3 rfl (by decide) (by decide) (by omega)).trans h3
      have e62 : (Roll.putD Dzo8 vs [3, 18] b0).eval (.tmp 62) = .bool true := (Roll.eval_new 18 rfl (by decide) (by decide) (by omega)).trans h18
      clear hp hlv hN
      unfold Roll.Goes
      simp only [Lzo8, List.getD_cons_zero, List.getD_cons_succ]
      generalize Roll.putD Dzo8 vs [3, 18] b0 = a1 at *
      refine Roll.goes_val (w' := p) (.bool true) rfl ?_ ⟨hI, Below.refl _ _, rfl⟩
      (have ec : ∀ x, a1.eval (.const x) = x := fun _ => rfl); (have ef : ∀ x, a1.eval (.func x) = .func (.func x) #[] #[] := fun _ => rfl); generalize a1.eval = ρ at *
      clear h3 h18
      go_simp <;> (intros; first | (exfalso; omega) | rfl | omega)
    · intro vs p hI hp
      have h19 : (vs 19) = .bool true := hp 19 (by simp [Lzo8])
      have e63 : (Roll.putD Dzo8 vs [19] b0).eval (.tmp 63) = .bool true := (Roll.eval_new 19 rfl (by decide) (by decide) (by omega)).trans h19
      clear hp hlv hN
      unfold Roll.Goes
      simp only [Lzo8, List.getD_cons_zero, List.getD_cons_succ]
      generalize Roll.putD Dzo8 vs [19] b0 = a1 at *
      refine Roll.goes_val (w' := p) (.bool true) rfl ?_ ⟨hI, Below.refl _ _, rfl⟩
      (have ec : ∀ x, a1.eval (.const x) = x := fun _ => rfl); (have ef : ∀ x, a1.eval (.func x) = .func (.func x) #[] #[] := fun _ => rfl); generalize a1.eval = ρ at *
      clear h19
      go_simp <;> (intros; first | (exfalso; omega) | rfl | omega)
    · intro vs p hI hp
      have h20 : (vs 20) = .bool true := hp 20 (by simp [Lzo8])
      clear hp hlv hN
      refine ⟨fun hg => ?_, fun hg => absurd h20 hg⟩
      clear hg
      unfold Roll.Goes
      simp only [Lzo8, List.getD_cons_zero, List.getD_cons_succ]
      generalize Roll.putD Dzo8 vs [20] b0 = a1 at *
      refine Roll.goes_call 11 #[] p rfl (by have ec : ∀ x, a1.eval (.const x) = x := fun _ => rfl; have ef : ∀ x, a1.eval (.func x) = .func (.func x) #[] #[] := fun _ => rfl; generalize a1.eval = ρ at *; go_simp) ?_
      refine (HLV.out p).mono ?_
      rintro q p2 ⟨rfl, hb⟩
      exact ⟨_, rfl, hI.trans (hb.mono hI.size), hb, rfl⟩
    · intro vs p hI hp
      have h20 : (vs 20) = .bool true := hp 20 (by simp [Lzo8])
      have h21 : (vs 21) = .bool true := hp 21 (by simp [Lzo8])
      have e64 : (Roll.putD Dzo8 vs [20, 21] b0).eval (.tmp 64) = .bool true := (Roll.eval_new 20 rfl (by decide) (by decide) (by omega)).trans h20
      have e65 : (Roll.putD Dzo8 vs [20, 21] b0).eval (.tmp 65) = .bool true := (Roll.eval_new 21 rfl (by decide) (by decide) (by omega)).trans h21
      clear hp hlv hN
      unfold Roll.Goes
      simp only [Lzo8, List.getD_cons_zero, List.getD_cons_succ]
      generalize Roll.putD Dzo8 vs [20, 21] b0 = a1 at *
      refine Roll.goes_val (w' := p) (.bool true) rfl ?_ ⟨hI, Below.refl _ _, rfl⟩
      (have ec : ∀ x, a1.eval (.const x) = x := fun _ => rfl); (have ef : ∀ x, a1.eval (.func x) = .func (.func x) #[] #[] := fun _ => rfl); generalize a1.eval = ρ at *
      clear h20 h21
      go_simp <;> (intros; first | (exfalso; omega) | rfl | omega)
  · intro vs p hI hR
    have h0 : (vs 0) = .int .i64 ra := hR 0 (by omega)
    have h1 : (vs 1) = .int .i64 rb := hR 1 (by omega)
    have h2 : (vs 2) = .bool true := hR 2 (by omega)
    have h3 : (vs 3) = .bool true := hR 3 (by omega)
    have h4 : (vs 4) = .agg #[.int .i64 O, .slice az nz cz] := hR 4 (by omega)
    have h5 : (vs 5) = .int .i64 d1 := hR 5 (by omega)
    have h6 : (vs 6) = .int .i64 k := hR 6 (by omega)
    have h7 : (vs 7) = .int .i64 d1 := hR 7 (by omega)
    have h8 : (vs 8) = .int .i64 (1440 * d1) := hR 8 (by omega)
    have h9 : (vs 9) = .int .i64 s1 := hR 9 (by omega)
    have h10 : (vs 10) = .int .i64 re := hR 10 (by omega)
    have h11 : (vs 11) = .agg #[.int .i64 O, .slice az nz cz] := hR 11 (by omega)
    have h12 : (vs 12) = .int .i64 d1 := hR 12 (by omega)
    have h13 : (vs 13) = .int .i64 k := hR 13 (by omega)
    have h14 : (vs 14) = .int .i64 d1 := hR 14 (by omega)
    have h15 : (vs 15) = .int .i64 (1440 * d1) := hR 15 (by omega)
    have h16 : (vs 16) = .int .i64 s1 := hR 16 (by omega)
    have h17 : (vs 17) = .int .i64 rf := hR 17 (by omega)
    have h18 : (vs 18) = .bool true := hR 18 (by omega)
    have h19 : (vs 19) = .bool true := hR 19 (by omega)
    have h20 : (vs 20) = .bool true := hR 20 (by omega)
    have h21 : (vs 21) = .bool true := hR 21 (by omega)
    have h22 : (vs 22) = .bool true := hR 22 (by omega)
    clear hR
    simp only [List.range_succ, List.range_zero, List.nil_append, List.cons_append, Roll.putD, Act.put, List.getD_cons_zero, List.getD_cons_succ, List.setIfInBounds_toArray, List.set_cons_zero, List.set_cons_succ, List.drop_succ_cons, List.drop_zero, Dzo8]
    simp only [h0, h1, h2, h3, h4, h5, h6, h7, h8, h9, h10, h11, h12, h13, h14, h15, h16, h17, h18, h19, h20, h21, h22]
    clear h0 h1 h2 h3 h4 h5 h6 h7 h8 h9 h10 h11 h12 h13 h14 h15 h16 h17 h18 h19 h20 h21 h22
    have HBE := Lib.hid (HBP.out.trans (hI.mono HBP.out.size))
    clear hI
    go_wp2_with fail
    go_ret
    exact ⟨rfl, HW.out.trans (HBE.out.mono HW.out.size)⟩
end Go.Proofs.Ytcdjilnlmihnhaa

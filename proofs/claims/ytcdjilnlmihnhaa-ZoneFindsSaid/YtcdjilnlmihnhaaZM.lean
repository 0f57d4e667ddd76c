/-
  The law ZoneFinds (written by gen_ZM.py).
-/
import Derived.Test.YtcdjilnlmihnhaaZN
namespace Go.Proofs.Ytcdjilnlmihnhaa
open Go.RowKit
set_option linter.unusedSimpArgs false
set_option linter.unusedVariables false
attribute [local go_sem ↓] exec_loadShift exec_storeShift exec_loadSeg exec_storeSeg exec_loadZone exec_storeZone
attribute [local go_sem] run_storeShift run_storeSeg run_storeZone
/-- the instants of a day and any minute -/
def qI (O : Int) (L : List SM) (d m : Int) : List Int := if 0 ≤ m ∧ m < 1440 then insP (1440 * d + m) (segL minI O L) else []
theorem Is.nilZ (w : World) : Is (fun _ => True) w none 0 0 [] := ⟨rfl, Sl.empty _ _ _ _ _ (Nat.zero_le _) (fun _ => rfl)⟩
theorem instAll_any {w : World} {D : Nat → Prop} {O d m : Int} {az : Option Addr} {nz cz : Nat} {L : List SM} (h : Ss D w az nz cz L) (hnz : nz ≤ 1000) (ho : -900 ≤ O ∧ O ≤ 900) (hF : Far 0 L) (hd : -1000000 ≤ d ∧ d ≤ 1000000) :
    Calls Try.prog 22 #[zV O az nz cz, .int .i64 d, .int .i64 m] w fun e w' => ∃ a n c, e = .returned (.slice a n c) ∧ Is (fun _ => True) w' a n c (qI O L d m) ∧ Below w.heap.size w w' := by
  by_cases hm : 0 ≤ m ∧ m < 1440
  · unfold qI
    rw [if_pos hm]
    refine (instants_any (N := 1440 * d + m) h ho hF.offs (by rw [h.1]; omega) (by omega) hm.1 hm.2 rfl).mono ?_
    rintro e w' ⟨v, rfl, hr, hb⟩
    obtain ⟨a, n, c, rfl, hi⟩ := Is.row hr
    exact ⟨a, n, c, rfl, hi.dom (fun _ _ => trivial), hb⟩
  · unfold qI
    rw [if_neg hm]
    refine (instants_bad (by omega)).mono ?_
    rintro e w' ⟨rfl, hb⟩
    exact ⟨_, _, _, rfl, Is.nilZ _, hb⟩
set_option maxRecDepth 100000 in
theorem refInstAll_any {w : World} {D : Nat → Prop} {O d m : Int} {az : Option Addr} {nz cz : Nat} {L : List SM} (h : Ss D w az nz cz L) (hnz : nz ≤ 1000) (ho : -900 ≤ O ∧ O ≤ 900) (hF : Far 0 L) (hd : -1000000 ≤ d ∧ d ≤ 1000000) :
    Calls Try.prog 23 #[zV O az nz cz, .int .i64 d, .int .i64 m] w fun e w' => ∃ a n c, e = .returned (.slice a n c) ∧ Is (fun _ => True) w' a n c (qI O L d m) ∧ Below w.heap.size w w' := by
  by_cases hm : 0 ≤ m ∧ m < 1440
  · unfold qI
    rw [if_pos hm]
    exact refInstants_any h hnz ho hF hd hm.1 hm.2 rfl
  · have HQ : Hid (qI O L d m = []) := Lib.hid (by unfold qI; rw [if_neg hm])
    have HIN : Hid (∀ u, Calls Try.prog 31 #[.int .i64 m, .int .i64 0, .int .i64 1439] u fun e w' => e = .returned (.bool false) ∧ u = w') := Lib.hid (fun u => by have := inZ_any m 0 1439 u; rw [decide_eq_false (show ¬ (0 ≤ m ∧ m ≤ 1439) by omega)] at this; exact this)
    have HB : Hid (Below w.heap.size w (w.alloc (.cells #[.int .i64 O, .slice az nz cz] 24))) := Lib.hid ((Below.refl _ w).alloc (Nat.le_refl _) _)
    clear hm h hnz ho hF hd
    unfold zV
    go_enter Try.func23, Try.ntmps23
    go_wp2_with (go_at_call 31; refine (HIN.out _).mono ?_; rintro e w2 ⟨rfl, rfl⟩)
    go_ret
    exact ⟨_, _, _, rfl, by rw [HQ.out]; exact Is.nilZ _, HB.out⟩
def Dzf5 : List (Option Tmp) := [some 39, some 40, some 41, some 42, some 43, some 44, some 45, some 46, some 47, some 48, some 49, some 50, some 51, some 52, some 53, some 54, some 55, some 56, some 57, some 58, some 59, some 60, some 61, some 6]
def Lzf5 : List (List Nat) := [[], [], [], [0, 1, 2], [], [], [], [4, 5, 6], [3, 7], [8], [9], [9], [9], [10, 11, 12, 9], [9], [9], [9], [14, 15, 16, 9], [13, 17, 9], [9, 18], [19], [20], [20, 21], [22]]
def Dzf3 : List (Option Tmp) := [some 17, some 18, some 19, some 20, some 21, some 22, some 23, some 24, some 25, some 26, some 27, some 28, some 29, some 30, some 31, some 32, some 33, some 34, some 35, some 36, some 37, some 38]
def Lzf3 : List (List Nat) := [[], [], [], [0, 1, 2], [], [], [], [4, 5, 6], [3, 7], [8], [9], [10], [10], [10], [11, 12, 13, 10], [10], [10], [10], [15, 16, 17, 10], [14, 18, 10], [19, 10], [10, 20]]
set_option maxRecDepth 100000 in
set_option maxHeartbeats 8000000 in
theorem finds_law {w : World} {a : Option Addr} {n c : Nat} {l : List Int} (hI : Is (fun b => b < w.heap.size) w a n c l) (hk : Ok64Z l) (x y : Int) (x1 : -9223372036854775808 ≤ x) (x2 : x ≤ 9223372036854775807) (y1 : -9223372036854775808 ≤ y) (y2 : y ≤ 9223372036854775807) : Calls Try.prog 5 #[.slice a n c, .int .i64 x, .int .i64 y] w fun e w' => e = .returned (.bool true) ∧ Below w.heap.size w w' := by
  have HZO := Lib.hid (zone_any hI hk)
  have ho := zoneO_bd l
  have hf := zoneL_far l
  have hl := zoneL_len l
  obtain ⟨O, hO⟩ : ∃ O, O = zoneO l := ⟨_, rfl⟩
  obtain ⟨L, hL⟩ : ∃ L, L = zoneL l := ⟨_, rfl⟩
  rw [← hO, ← hL] at HZO
  rw [← hO] at ho
  rw [← hL] at hf hl
  have HO := Lib.hid ho
  have HF := Lib.hid hf
  have HLN := Lib.hid hl
  clear hI hk ho hf hl hO hL
  have HLV := Lib.hid (fun u => lives_any u)
  have HLO := Lib.hid (fun u => localZ_any x u x1 x2)
  have hkb := boundZ_bd x 500000 (by omega)
  obtain ⟨k, hk⟩ : ∃ k, k = boundZ x 500000 := ⟨_, rfl⟩
  rw [← hk] at HLO hkb
  obtain ⟨d, hd⟩ : ∃ d, d = k / 1440 := ⟨_, rfl⟩
  obtain ⟨s, hs⟩ : ∃ s, s = k % 1440 := ⟨_, rfl⟩
  rw [← hd, ← hs] at HLO
  have HKB : Hid ((-500000 ≤ k ∧ k ≤ 500000) ∧ (-400 ≤ d ∧ d ≤ 400) ∧ (0 ≤ s ∧ s < 1440) ∧ k = 1440 * d + s) := Lib.hid (by omega)
  clear hk hd hs hkb
  go_enter Try.func5, Try.ntmps5
  go_upto_region 2 with (go_at_call 14; refine HZO.out.mono ?_; rintro e w1 ⟨az, nz, cz, rfl, hs, hb⟩; unfold zV; have HS0 := Lib.hid hs; have HB0 := Lib.hid hb; have p0 : ZoneB (w1.alloc (.cells #[.int .i64 0, .slice none 0 0] 24)) w1.heap.size := ⟨_, _, heap_newZ⟩; clear hs hb HZO)
  obtain ⟨W1, hW1⟩ : ∃ W1, W1 = (w1.alloc (.cells #[.int .i64 0, .slice none 0 0] 24)).setRow w1.heap.size #[.int .i64 O, .slice az nz cz] := ⟨_, rfl⟩
  obtain ⟨gz, hgz⟩ : ∃ gz, gz = w1.heap.size := ⟨_, rfl⟩
  have hr1 : W1.heap[gz]? = some (.cells #[.int .i64 O, .slice az nz cz] 24 (0, 0)) := by rw [hW1, hgz]; exact setRow_heap _ _ _ _ _ _ heap_newZ
  have hb1 : Below w1.heap.size w1 W1 := by rw [hW1]; exact (((Kept.refl (fun _ => False) w1).alloc _).setRow (fun h => by omega) _).below (Nat.le_refl _) (fun _ _ h => h)
  rw [← hW1]
  rw [← hgz]
  have HS := Lib.hid ((HS0.out.below hb1).dom (D' := fun _ => True) (fun _ _ => trivial))
  have HW := Lib.hid (HB0.out.trans (hb1.mono HB0.out.size))
  have HR := Lib.hid hr1
  have HGZL := Lib.hid (heap_lt hr1)
  have HN1 : Hid (nz ≤ 20) := Lib.hid (by have := HS.out.1; have := HLN.out; omega)
  have ldz := run_loadZone hr1
  have HBP : Hid (Below W1.heap.size W1 W1) := Lib.hid (Below.refl _ _)
  clear hW1 hgz hr1 hb1 HS0 HB0 p0
  have CI1 : Hid (∀ u, Below W1.heap.size W1 u → Calls Try.prog 22 #[.agg #[.int .i64 O, .slice az nz cz], .int .i64 d, .int .i64 s] u fun e w' => ∃ a n c, e = .returned (.slice a n c) ∧ Is (fun _ => True) w' a n c (qI O L d s) ∧ Below u.heap.size u w') := Lib.hid (fun u hu => instAll_any (HS.out.below hu) (by have := HN1.out; omega) HO.out HF.out (by have := HKB.out; omega))
  have CRI1 : Hid (∀ u, Below W1.heap.size W1 u → Calls Try.prog 23 #[.agg #[.int .i64 O, .slice az nz cz], .int .i64 d, .int .i64 s] u fun e w' => ∃ a n c, e = .returned (.slice a n c) ∧ Is (fun _ => True) w' a n c (qI O L d s) ∧ Below u.heap.size u w') := Lib.hid (fun u hu => refInstAll_any (HS.out.below hu) (by have := HN1.out; omega) HO.out HF.out (by have := HKB.out; omega))
  have CI2 : Hid (∀ u, Below W1.heap.size W1 u → Calls Try.prog 22 #[.agg #[.int .i64 O, .slice az nz cz], .int .i64 d, .int .i64 y] u fun e w' => ∃ a n c, e = .returned (.slice a n c) ∧ Is (fun _ => True) w' a n c (qI O L d y) ∧ Below u.heap.size u w') := Lib.hid (fun u hu => instAll_any (HS.out.below hu) (by have := HN1.out; omega) HO.out HF.out (by have := HKB.out; omega))
  have CRI2 : Hid (∀ u, Below W1.heap.size W1 u → Calls Try.prog 23 #[.agg #[.int .i64 O, .slice az nz cz], .int .i64 d, .int .i64 y] u fun e w' => ∃ a n c, e = .returned (.slice a n c) ∧ Is (fun _ => True) w' a n c (qI O L d y) ∧ Below u.heap.size u w') := Lib.hid (fun u hu => refInstAll_any (HS.out.below hu) (by have := HN1.out; omega) HO.out HF.out (by have := HKB.out; omega))
  have CT : Hid (∀ u, Below W1.heap.size W1 u → Calls Try.prog 24 #[.agg #[.int .i64 O, .slice az nz cz], .int .i64 d, .int .i64 s, .bool true] u fun e w' => e = .returned (.int .i64 (resP true k 0 (segL minI O L))) ∧ Below u.heap.size u w') := Lib.hid (fun u hu => resolve_any (HS.out.below hu) HO.out HF.out.offs (by have := HKB.out; omega) (by have := HKB.out; omega) (by have := HKB.out; omega))
  have CF : Hid (∀ u, Below W1.heap.size W1 u → Calls Try.prog 24 #[.agg #[.int .i64 O, .slice az nz cz], .int .i64 d, .int .i64 s, .bool false] u fun e w' => e = .returned (.int .i64 (resP false k 0 (segL minI O L))) ∧ Below u.heap.size u w') := Lib.hid (fun u hu => resolve_any (HS.out.below hu) HO.out HF.out.offs (by have := HKB.out; omega) (by have := HKB.out; omega) (by have := HKB.out; omega))
  have CRT : Hid (∀ u, Below W1.heap.size W1 u → Calls Try.prog 25 #[.agg #[.int .i64 O, .slice az nz cz], .int .i64 d, .int .i64 s, .bool true] u fun e w' => e = .returned (.int .i64 (resP true k 0 (segL minI O L))) ∧ Below u.heap.size u w') := Lib.hid (fun u hu => refResolve_any (HS.out.below hu) (by have := HN1.out; omega) HO.out HF.out (by have := HKB.out; omega) (by have := HKB.out; omega) (by have := HKB.out; omega) (by have := HKB.out; omega))
  have CRF : Hid (∀ u, Below W1.heap.size W1 u → Calls Try.prog 25 #[.agg #[.int .i64 O, .slice az nz cz], .int .i64 d, .int .i64 s, .bool false] u fun e w' => e = .returned (.int .i64 (resP false k 0 (segL minI O L))) ∧ Below u.heap.size u w') := Lib.hid (fun u hu => refResolve_any (HS.out.below hu) (by have := HN1.out; omega) HO.out HF.out (by have := HKB.out; omega) (by have := HKB.out; omega) (by have := HKB.out; omega) (by have := HKB.out; omega))
  obtain ⟨P1, hP1⟩ : ∃ P, P = qI O L d s := ⟨_, rfl⟩
  obtain ⟨P2, hP2⟩ : ∃ P, P = qI O L d y := ⟨_, rfl⟩
  obtain ⟨rt, hrt⟩ : ∃ r, r = resP true k 0 (segL minI O L) := ⟨_, rfl⟩
  obtain ⟨rf, hrf⟩ : ∃ r, r = resP false k 0 (segL minI O L) := ⟨_, rfl⟩
  rw [← hP1] at CI1 CRI1
  rw [← hP2] at CI2 CRI2
  rw [← hrt] at CT CRT
  rw [← hrf] at CF CRF
  clear hP1 hP2 hrt hrf ldz
  go_upto_region 3 with (go_at_call 20; refine (HLO.out _).mono ?_; rintro e w2 ⟨rfl, rfl⟩)
  refine Roll.region_f 22 62 Dzf3 Lzf3 [(2, .int .i64 y), (7, .pointer (some ⟨gz, 0, none⟩)), (8, .int .i64 d), (9, .int .i64 s)] (fun p => Below W1.heap.size W1 p) (fun p p2 => Below p.heap.size p p2) [fun vv p => vv = .agg #[.int .i64 O, .slice az nz cz], fun vv p => vv = .int .i64 d, fun vv p => vv = .int .i64 s, fun vv p => ∃ a n c, vv = .slice a n c ∧ Is (fun _ => True) p a n c P1, fun vv p => vv = .agg #[.int .i64 O, .slice az nz cz], fun vv p => vv = .int .i64 d, fun vv p => vv = .int .i64 s, fun vv p => ∃ a n c, vv = .slice a n c ∧ Is (fun _ => True) p a n c P1, fun vv p => vv = .bool true, fun vv p => vv = .bool false, fun vv p => vv = .bool false, fun vv p => vv = .agg #[.int .i64 O, .slice az nz cz], fun vv p => vv = .int .i64 d, fun vv p => vv = .int .i64 y, fun vv p => ∃ a n c, vv = .slice a n c ∧ Is (fun _ => True) p a n c P2, fun vv p => vv = .agg #[.int .i64 O, .slice az nz cz], fun vv p => vv = .int .i64 d, fun vv p => vv = .int .i64 y, fun vv p => ∃ a n c, vv = .slice a n c ∧ Is (fun _ => True) p a n c P2, fun vv p => vv = .bool true, fun vv p => vv = .bool false, fun vv p => vv = .bool false] (by kernel_rfl) (by kernel_rfl) rfl ⟨rfl, rfl, rfl, rfl, trivial⟩ ((Below.refl _ _).drew) ?_ ?_ ?_
  · exact ⟨fun _ _ _ _ h => h, fun _ _ _ _ h => h, fun _ _ _ _ h => h, fun _ _ _ hs h => by obtain ⟨a9, n9, c9, e, hi⟩ := h; exact ⟨a9, n9, c9, e, hi.kept (Kept.of_below (fun _ => False) hs) (fun _ _ _ h => h)⟩, fun _ _ _ _ h => h, fun _ _ _ _ h => h, fun _ _ _ _ h => h, fun _ _ _ hs h => by obtain ⟨a9, n9, c9, e, hi⟩ := h; exact ⟨a9, n9, c9, e, hi.kept (Kept.of_below (fun _ => False) hs) (fun _ _ _ h => h)⟩, fun _ _ _ _ h => h, fun _ _ _ _ h => h, fun _ _ _ _ h => h, fun _ _ _ _ h => h, fun _ _ _ _ h => h, fun _ _ _ _ h => h, fun _ _ _ hs h => by obtain ⟨a9, n9, c9, e, hi⟩ := h; exact ⟨a9, n9, c9, e, hi.kept (Kept.of_below (fun _ => False) hs) (fun _ _ _ h => h)⟩, fun _ _ _ _ h => h, fun _ _ _ _ h => h, fun _ _ _ _ h => h, fun _ _ _ hs h => by obtain ⟨a9, n9, c9, e, hi⟩ := h; exact ⟨a9, n9, c9, e, hi.kept (Kept.of_below (fun _ => False) hs) (fun _ _ _ h => h)⟩, fun _ _ _ _ h => h, fun _ _ _ _ h => h, fun _ _ _ _ h => h, trivial⟩
  · intro b0 hN hlv
    refine ⟨?_, ?_, ?_, ?_, ?_, ?_, ?_, ?_, ?_, ?_, ?_, ?_, ?_, ?_, ?_, ?_, ?_, ?_, ?_, ?_, ?_, ?_, trivial⟩
    · intro vs p hI hp
      have e7 : (Roll.putD Dzf3 vs [] b0).eval (.tmp 7) = .pointer (some ⟨gz, 0, none⟩) := (Roll.eval_old rfl).trans (hlv.at 1 (7, .pointer (some ⟨gz, 0, none⟩)) rfl)
      clear hp hlv hN
      unfold Roll.Goes
      simp only [Lzf3, List.getD_cons_zero, List.getD_cons_succ]
      generalize Roll.putD Dzf3 vs [] b0 = a1 at *
      have ldz := run_loadZone ((hI.block gz HGZL.out).trans HR.out)
      refine Roll.goes_val (w' := p) (.agg #[.int .i64 O, .slice az nz cz]) rfl ?_ ⟨hI, Below.refl _ _, rfl⟩
      (have ec : ∀ x, a1.eval (.const x) = x := fun _ => rfl); (have ef : ∀ x, a1.eval (.func x) = .func (.func x) #[] #[] := fun _ => rfl); generalize a1.eval = ρ at *
      skip
      go_simp <;> (intros; first | (exfalso; omega) | rfl | omega)
    · intro vs p hI hp
      have e8 : (Roll.putD Dzf3 vs [] b0).eval (.tmp 8) = .int .i64 d := (Roll.eval_old rfl).trans (hlv.at 2 (8, .int .i64 d) rfl)
      clear hp hlv hN
      unfold Roll.Goes
      simp only [Lzf3, List.getD_cons_zero, List.getD_cons_succ]
      generalize Roll.putD Dzf3 vs [] b0 = a1 at *
      refine Roll.goes_val (w' := p) (.int .i64 d) rfl ?_ ⟨hI, Below.refl _ _, rfl⟩
      (have ec : ∀ x, a1.eval (.const x) = x := fun _ => rfl); (have ef : ∀ x, a1.eval (.func x) = .func (.func x) #[] #[] := fun _ => rfl); generalize a1.eval = ρ at *
      skip
      go_simp <;> (intros; first | (exfalso; omega) | rfl | omega)
    · intro vs p hI hp
      have e9 : (Roll.putD Dzf3 vs [] b0).eval (.tmp 9) = .int .i64 s := (Roll.eval_old rfl).trans (hlv.at 3 (9, .int .i64 s) rfl)
      clear hp hlv hN
      unfold Roll.Goes
      simp only [Lzf3, List.getD_cons_zero, List.getD_cons_succ]
      generalize Roll.putD Dzf3 vs [] b0 = a1 at *
      refine Roll.goes_val (w' := p) (.int .i64 s) rfl ?_ ⟨hI, Below.refl _ _, rfl⟩
      (have ec : ∀ x, a1.eval (.const x) = x := fun _ => rfl); (have ef : ∀ x, a1.eval (.func x) = .func (.func x) #[] #[] := fun _ => rfl); generalize a1.eval = ρ at *
      skip
      go_simp <;> (intros; first | (exfalso; omega) | rfl | omega)
    · intro vs p hI hp
      have h0 : (vs 0) = .agg #[.int .i64 O, .slice az nz cz] := hp 0 (by simp [Lzf3])
      have h1 : (vs 1) = .int .i64 d := hp 1 (by simp [Lzf3])
      have h2 : (vs 2) = .int .i64 s := hp 2 (by simp [Lzf3])
      have e17 : (Roll.putD Dzf3 vs [0, 1, 2] b0).eval (.tmp 17) = .agg #[.int .i64 O, .slice az nz cz] := (Roll.eval_new 0 rfl (by decide) (by decide) (by omega)).trans h0
      have e18 : (Roll.putD Dzf3 vs [0, 1, 2] b0).eval (.tmp 18) = .int .i64 d := (Roll.eval_new 1 rfl (by decide) (by decide) (by omega)).trans h1
      have e19 : (Roll.putD Dzf3 vs [0, 1, 2] b0).eval (.tmp 19) = .int .i64 s := (Roll.eval_new 2 rfl (by decide) (by decide) (by omega)).trans h2
      clear hp hlv hN
      unfold Roll.Goes
      simp only [Lzf3, List.getD_cons_zero, List.getD_cons_succ]
      generalize Roll.putD Dzf3 vs [0, 1, 2] b0 = a1 at *
      refine Roll.goes_call 22 #[.agg #[.int .i64 O, .slice az nz cz], .int .i64 d, .int .i64 s] p rfl (by have ec : ∀ x, a1.eval (.const x) = x := fun _ => rfl; have ef : ∀ x, a1.eval (.func x) = .func (.func x) #[] #[] := fun _ => rfl; generalize a1.eval = ρ at *; go_simp) ?_
      refine (CI1.out p hI).mono ?_
      rintro q p2 ⟨a9, n9, c9, rfl, hi, hb⟩
      exact ⟨_, rfl, hI.trans (hb.mono hI.size), hb, a9, n9, c9, rfl, hi⟩
    · intro vs p hI hp
      have e7 : (Roll.putD Dzf3 vs [] b0).eval (.tmp 7) = .pointer (some ⟨gz, 0, none⟩) := (Roll.eval_old rfl).trans (hlv.at 1 (7, .pointer (some ⟨gz, 0, none⟩)) rfl)
      clear hp hlv hN
      unfold Roll.Goes
      simp only [Lzf3, List.getD_cons_zero, List.getD_cons_succ]
      generalize Roll.putD Dzf3 vs [] b0 = a1 at *
      have ldz := run_loadZone ((hI.block gz HGZL.out).trans HR.out)
      refine Roll.goes_val (w' := p) (.agg #[.int .i64 O, .slice az nz cz]) rfl ?_ ⟨hI, Below.refl _ _, rfl⟩
      (have ec : ∀ x, a1.eval (.const x) = x := fun _ => rfl); (have ef : ∀ x, a1.eval (.func x) = .func (.func x) #[] #[] := fun _ => rfl); generalize a1.eval = ρ at *
      skip
      go_simp <;> (intros; first | (exfalso; omega) | rfl | omega)
    · intro vs p hI hp
      have e8 : (Roll.putD Dzf3 vs [] b0).eval (.tmp 8) = .int .i64 d := (Roll.eval_old rfl).trans (hlv.at 2 (8, .int .i64 d) rfl)
      clear hp hlv hN
      unfold Roll.Goes
      simp only [Lzf3, List.getD_cons_zero, List.getD_cons_succ]
      generalize Roll.putD Dzf3 vs [] b0 = a1 at *
      refine Roll.goes_val (w' := p) (.int .i64 d) rfl ?_ ⟨hI, Below.refl _ _, rfl⟩
      (have ec : ∀ x, a1.eval (.const x) = x := fun _ => rfl); (have ef : ∀ x, a1.eval (.func x) = .func (.func x) #[] #[] := fun _ => rfl); generalize a1.eval = ρ at *
      skip
      go_simp <;> (intros; first | (exfalso; omega) | rfl | omega)
    · intro vs p hI hp
      have e9 : (Roll.putD Dzf3 vs [] b0).eval (.tmp 9) = .int .i64 s := (Roll.eval_old rfl).trans (hlv.at 3 (9, .int .i64 s) rfl)
      clear hp hlv hN
      unfold Roll.Goes
      simp only [Lzf3, List.getD_cons_zero, List.getD_cons_succ]
      generalize Roll.putD Dzf3 vs [] b0 = a1 at *
      refine Roll.goes_val (w' := p) (.int .i64 s) rfl ?_ ⟨hI, Below.refl _ _, rfl⟩
      (have ec : ∀ x, a1.eval (.const x) = x := fun _ => rfl); (have ef : ∀ x, a1.eval (.func x) = .func (.func x) #[] #[] := fun _ => rfl); generalize a1.eval = ρ at *
      skip
      go_simp <;> (intros; first | (exfalso; omega) | rfl | omega)
    · intro vs p hI hp
      have h4 : (vs 4) = .agg #[.int .i64 O, .slice az nz cz] := hp 4 (by simp [Lzf3])
      have h5 : (vs 5) = .int .i64 d := hp 5 (by simp [Lzf3])
      have h6 : (vs 6) = .int .i64 s := hp 6 (by simp [Lzf3])
      have e21 : (Roll.putD Dzf3 vs [4, 5, 6] b0).eval (.tmp 21) = .agg #[.int .i64 O, .slice az nz cz] := (Roll.eval_new 4 rfl (by decide) (by decide) (by omega)).trans h4
      have e22 : (Roll.putD Dzf3 vs [4, 5, 6] b0).eval (.tmp 22) = .int .i64 d := (Roll.eval_new 5 rfl (by decide) (by decide) (by omega)).trans h5
      have e23 : (Roll.putD Dzf3 vs [4, 5, 6] b0).eval (.tmp 23) = .int .i64 s := (Roll.eval_new 6 rfl (by decide) (by decide) (by omega)).trans h6
      clear hp hlv hN
      unfold Roll.Goes
      simp only [Lzf3, List.getD_cons_zero, List.getD_cons_succ]
      generalize Roll.putD Dzf3 vs [4, 5, 6] b0 = a1 at *
      refine Roll.goes_call 23 #[.agg #[.int .i64 O, .slice az nz cz], .int .i64 d, .int .i64 s] p rfl (by have ec : ∀ x, a1.eval (.const x) = x := fun _ => rfl; have ef : ∀ x, a1.eval (.func x) = .func (.func x) #[] #[] := fun _ => rfl; generalize a1.eval = ρ at *; go_simp) ?_
      refine (CRI1.out p hI).mono ?_
      rintro q p2 ⟨a9, n9, c9, rfl, hi, hb⟩
      exact ⟨_, rfl, hI.trans (hb.mono hI.size), hb, a9, n9, c9, rfl, hi⟩
    · intro vs p hI hp
      have h3 : ∃ a n c, (vs 3) = .slice a n c ∧ Is (fun _ => True) p a n c P1 := hp 3 (by simp [Lzf3])
      have h7 : ∃ a n c, (vs 7) = .slice a n c ∧ Is (fun _ => True) p a n c P1 := hp 7 (by simp [Lzf3])
      have e20 : (Roll.putD Dzf3 vs [3, 7] b0).eval (.tmp 20) = vs 3 := (Roll.eval_new 3 rfl (by decide) (by decide) (by omega))
      have e24 : (Roll.putD Dzf3 vs [3, 7] b0).eval (.tmp 24) = vs 7 := (Roll.eval_new 7 rfl (by decide) (by decide) (by omega))
      clear hp hlv hN
      unfold Roll.Goes
      simp only [Lzf3, List.getD_cons_zero, List.getD_cons_succ]
      generalize Roll.putD Dzf3 vs [3, 7] b0 = a1 at *
      obtain ⟨a8, n8, c8, hva, hia⟩ := h3
      obtain ⟨a9, n9, c9, hvb, hib⟩ := h7
      rw [hva] at e20
      rw [hvb] at e24
      refine Roll.goes_call 21 #[.slice a8 n8 c8, .slice a9 n9 c9] p rfl (by have ec : ∀ x, a1.eval (.const x) = x := fun _ => rfl; have ef : ∀ x, a1.eval (.func x) = .func (.func x) #[] #[] := fun _ => rfl; generalize a1.eval = ρ at *; go_simp) ?_
      refine (sameIntsZ_any _ _ _ _ _ _ _ _ _ _ _ hia hib).mono ?_
      rintro q p2 ⟨rfl, hb⟩
      exact ⟨_, rfl, hI.trans (hb.mono hI.size), hb, by rw [beq_self_eq_true]; rfl⟩
    · intro vs p hI hp
      have h8 : (vs 8) = .bool true := hp 8 (by simp [Lzf3])
      have e25 : (Roll.putD Dzf3 vs [8] b0).eval (.tmp 25) = .bool true := (Roll.eval_new 8 rfl (by decide) (by decide) (by omega)).trans h8
      clear hp hlv hN
      unfold Roll.Goes
      simp only [Lzf3, List.getD_cons_zero, List.getD_cons_succ]
      generalize Roll.putD Dzf3 vs [8] b0 = a1 at *
      refine Roll.goes_val (w' := p) (.bool false) rfl ?_ ⟨hI, Below.refl _ _, rfl⟩
      (have ec : ∀ x, a1.eval (.const x) = x := fun _ => rfl); (have ef : ∀ x, a1.eval (.func x) = .func (.func x) #[] #[] := fun _ => rfl); generalize a1.eval = ρ at *
      clear h8
      go_simp <;> (intros; first | (exfalso; omega) | rfl | omega)
    · intro vs p hI hp
      have h9 : (vs 9) = .bool false := hp 9 (by simp [Lzf3])
      have e26 : (Roll.putD Dzf3 vs [9] b0).eval (.tmp 26) = .bool false := (Roll.eval_new 9 rfl (by decide) (by decide) (by omega)).trans h9
      clear hp hlv hN
      unfold Roll.Goes
      simp only [Lzf3, List.getD_cons_zero, List.getD_cons_succ]
      generalize Roll.putD Dzf3 vs [9] b0 = a1 at *
      refine Roll.goes_val (w' := p) (.bool false) rfl ?_ ⟨hI, Below.refl _ _, rfl⟩
      (have ec : ∀ x, a1.eval (.const x) = x := fun _ => rfl); (have ef : ∀ x, a1.eval (.func x) = .func (.func x) #[] #[] := fun _ => rfl); generalize a1.eval = ρ at *
      clear h9
      go_simp <;> (intros; first | (exfalso; omega) | rfl | omega)
    · intro vs p hI hp
      have h10 : (vs 10) = .bool false := hp 10 (by simp [Lzf3])
      have e7 : (Roll.putD Dzf3 vs [10] b0).eval (.tmp 7) = .pointer (some ⟨gz, 0, none⟩) := (Roll.eval_old rfl).trans (hlv.at 1 (7, .pointer (some ⟨gz, 0, none⟩)) rfl)
      clear hp hlv hN
      refine ⟨fun hg => ?_, fun hg => absurd h10 hg⟩
      clear hg
      unfold Roll.Goes
      simp only [Lzf3, List.getD_cons_zero, List.getD_cons_succ]
      generalize Roll.putD Dzf3 vs [10] b0 = a1 at *
      have ldz := run_loadZone ((hI.block gz HGZL.out).trans HR.out)
      refine Roll.goes_val (w' := p) (.agg #[.int .i64 O, .slice az nz cz]) rfl ?_ ⟨hI, Below.refl _ _, rfl⟩
      (have ec : ∀ x, a1.eval (.const x) = x := fun _ => rfl); (have ef : ∀ x, a1.eval (.func x) = .func (.func x) #[] #[] := fun _ => rfl); generalize a1.eval = ρ at *
      clear h10
      go_simp <;> (intros; first | (exfalso; omega) | rfl | omega)
    · intro vs p hI hp
      have h10 : (vs 10) = .bool false := hp 10 (by simp [Lzf3])
      have e8 : (Roll.putD Dzf3 vs [10] b0).eval (.tmp 8) = .int .i64 d := (Roll.eval_old rfl).trans (hlv.at 2 (8, .int .i64 d) rfl)
      clear hp hlv hN
      refine ⟨fun hg => ?_, fun hg => absurd h10 hg⟩
      clear hg
      unfold Roll.Goes
      simp only [Lzf3, List.getD_cons_zero, List.getD_cons_succ]
      generalize Roll.putD Dzf3 vs [10] b0 = a1 at *
      refine Roll.goes_val (w' := p) (.int .i64 d) rfl ?_ ⟨hI, Below.refl _ _, rfl⟩
      (have ec : ∀ x, a1.eval (.const x) = x := fun _ => rfl); (have ef : ∀ x, a1.eval (.func x) = .func (.func x) #[] #[] := fun _ => rfl); generalize a1.eval = ρ at *
      clear h10
      go_simp <;> (intros; first | (exfalso; omega) | rfl | omega)
    · intro vs p hI hp
      have h10 : (vs 10) = .bool false := hp 10 (by simp [Lzf3])
      have e2 : (Roll.putD Dzf3 vs [10] b0).eval (.tmp 2) = .int .i64 y := (Roll.eval_old rfl).trans (hlv.at 0 (2, .int .i64 y) rfl)
      clear hp hlv hN
      refine ⟨fun hg => ?_, fun hg => absurd h10 hg⟩
      clear hg
      unfold Roll.Goes
      simp only [Lzf3, List.getD_cons_zero, List.getD_cons_succ]
      generalize Roll.putD Dzf3 vs [10] b0 = a1 at *
      refine Roll.goes_val (w' := p) (.int .i64 y) rfl ?_ ⟨hI, Below.refl _ _, rfl⟩
      (have ec : ∀ x, a1.eval (.const x) = x := fun _ => rfl); (have ef : ∀ x, a1.eval (.func x) = .func (.func x) #[] #[] := fun _ => rfl); generalize a1.eval = ρ at *
      clear h10
      go_simp <;> (intros; first | (exfalso; omega) | rfl | omega)
    · intro vs p hI hp
      have h11 : (vs 11) = .agg #[.int .i64 O, .slice az nz cz] := hp 11 (by simp [Lzf3])
      have h12 : (vs 12) = .int .i64 d := hp 12 (by simp [Lzf3])
      have h13 : (vs 13) = .int .i64 y := hp 13 (by simp [Lzf3])
      have h10 : (vs 10) = .bool false := hp 10 (by simp [Lzf3])
      have e28 : (Roll.putD Dzf3 vs [11, 12, 13, 10] b0).eval (.tmp 28) = .agg #[.int .i64 O, .slice az nz cz] := (Roll.eval_new 11 rfl (by decide) (by decide) (by omega)).trans h11
      have e29 : (Roll.putD Dzf3 vs [11, 12, 13, 10] b0).eval (.tmp 29) = .int .i64 d := (Roll.eval_new 12 rfl (by decide) (by decide) (by omega)).trans h12
      have e30 : (Roll.putD Dzf3 vs [11, 12, 13, 10] b0).eval (.tmp 30) = .int .i64 y := (Roll.eval_new 13 rfl (by decide) (by decide) (by omega)).trans h13
      clear hp hlv hN
      refine ⟨fun hg => ?_, fun hg => absurd h10 hg⟩
      clear hg
      unfold Roll.Goes
      simp only [Lzf3, List.getD_cons_zero, List.getD_cons_succ]
      generalize Roll.putD Dzf3 vs [11, 12, 13, 10] b0 = a1 at *
      refine Roll.goes_call 22 #[.agg #[.int .i64 O, .slice az nz cz], .int .i64 d, .int .i64 y] p rfl (by have ec : ∀ x, a1.eval (.const x) = x := fun _ => rfl; have ef : ∀ x, a1.eval (.func x) = .func (.func x) #[] #[] := fun _ => rfl; generalize a1.eval = ρ at *; go_simp) ?_
      refine (CI2.out p hI).mono ?_
      rintro q p2 ⟨a9, n9, c9, rfl, hi, hb⟩
      exact ⟨_, rfl, hI.trans (hb.mono hI.size), hb, a9, n9, c9, rfl, hi⟩
    · intro vs p hI hp
      have h10 : (vs 10) = .bool false := hp 10 (by simp [Lzf3])
      have e7 : (Roll.putD Dzf3 vs [10] b0).eval (.tmp 7) = .pointer (some ⟨gz, 0, none⟩) := (Roll.eval_old rfl).trans (hlv.at 1 (7, .pointer (some ⟨gz, 0, none⟩)) rfl)
      clear hp hlv hN
      refine ⟨fun hg => ?_, fun hg => absurd h10 hg⟩
      clear hg
      unfold Roll.Goes
      simp only [Lzf3, List.getD_cons_zero, List.getD_cons_succ]
      generalize Roll.putD Dzf3 vs [10] b0 = a1 at *
      have ldz := run_loadZone ((hI.block gz HGZL.out).trans HR.out)
      refine Roll.goes_val (w' := p) (.agg #[.int .i64 O, .slice az nz cz]) rfl ?_ ⟨hI, Below.refl _ _, rfl⟩
      (have ec : ∀ x, a1.eval (.const x) = x := fun _ => rfl); (have ef : ∀ x, a1.eval (.func x) = .func (.func x) #[] #[] := fun _ => rfl); generalize a1.eval = ρ at *
      clear h10
      go_simp <;> (intros; first | (exfalso; omega) | rfl | omega)
    · intro vs p hI hp
      have h10 : (vs 10) = .bool false := hp 10 (by simp [Lzf3])
      have e8 : (Roll.putD Dzf3 vs [10] b0).eval (.tmp 8) = .int .i64 d := (Roll.eval_old rfl).trans (hlv.at 2 (8, .int .i64 d) rfl)
      clear hp hlv hN
      refine ⟨fun hg => ?_, fun hg => absurd h10 hg⟩
      clear hg
      unfold Roll.Goes
      simp only [Lzf3, List.getD_cons_zero, List.getD_cons_succ]
      generalize Roll.putD Dzf3 vs [10] b0 = a1 at *
      refine Roll.goes_val (w' := p) (.int .i64 d) rfl ?_ ⟨hI, Below.refl _ _, rfl⟩
      (have ec : ∀ x, a1.eval (.const x) = x := fun _ => rfl); (have ef : ∀ x, a1.eval (.func x) = .func (.func x) #[] #[] := fun _ => rfl); generalize a1.eval = ρ at *
      clear h10
      go_simp <;> (intros; first | (exfalso; omega) | rfl | omega)
    · intro vs p hI hp
      have h10 : (vs 10) = .bool false := hp 10 (by simp [Lzf3])
      have e2 : (Roll.putD Dzf3 vs [10] b0).eval (.tmp 2) = .int .i64 y := (Roll.eval_old rfl).trans (hlv.at 0 (2, .int .i64 y) rfl)
      clear hp hlv hN
      refine ⟨fun hg => ?_, fun hg => absurd h10 hg⟩
      clear hg
      unfold Roll.Goes
      simp only [Lzf3, List.getD_cons_zero, List.getD_cons_succ]
      generalize Roll.putD Dzf3 vs [10] b0 = a1 at *
      refine Roll.goes_val (w' := p) (.int .i64 y) rfl ?_ ⟨hI, Below.refl _ _, rfl⟩
      (have ec : ∀ x, a1.eval (.const x) = x := fun _ => rfl); (have ef : ∀ x, a1.eval (.func x) = .func (.func x) #[] #[] := fun _ => rfl); generalize a1.eval = ρ at *
      clear h10
      go_simp <;> (intros; first | (exfalso; omega) | rfl | omega)
    · intro vs p hI hp
      have h15 : (vs 15) = .agg #[.int .i64 O, .slice az nz cz] := hp 15 (by simp [Lzf3])
      have h16 : (vs 16) = .int .i64 d := hp 16 (by simp [Lzf3])
      have h17 : (vs 17) = .int .i64 y := hp 17 (by simp [Lzf3])
      have h10 : (vs 10) = .bool false := hp 10 (by simp [Lzf3])
      have e32 : (Roll.putD Dzf3 vs [15, 16, 17, 10] b0).eval (.tmp 32) = .agg #[.int .i64 O, .slice az nz cz] := (Roll.eval_new 15 rfl (by decide) (by decide) (by omega)).trans h15
      have e33 : (Roll.putD Dzf3 vs [15, 16, 17, 10] b0).eval (.tmp 33) = .int .i64 d := (Roll.eval_new 16 rfl (by decide) (by decide) (by omega)).trans h16
      have e34 : (Roll.putD Dzf3 vs [15, 16, 17, 10] b0).eval (.tmp 34) = .int .i64 y := (Roll.eval_new 17 rfl (by decide) (by decide) (by omega)).trans h17
      clear hp hlv hN
      refine ⟨fun hg => ?_, fun hg => absurd h10 hg⟩
      clear hg
      unfold Roll.Goes
      simp only [Lzf3, List.getD_cons_zero, List.getD_cons_succ]
      generalize Roll.putD Dzf3 vs [15, 16, 17, 10] b0 = a1 at *
      refine Roll.goes_call 23 #[.agg #[.int .i64 O, .slice az nz cz], .int .i64 d, .int .i64 y] p rfl (by have ec : ∀ x, a1.eval (.const x) = x := fun _ => rfl; have ef : ∀ x, a1.eval (.func x) = .func (.func x) #[] #[] := fun _ => rfl; generalize a1.eval = ρ at *; go_simp) ?_
      refine (CRI2.out p hI).mono ?_
      rintro q p2 ⟨a9, n9, c9, rfl, hi, hb⟩
      exact ⟨_, rfl, hI.trans (hb.mono hI.size), hb, a9, n9, c9, rfl, hi⟩
    · intro vs p hI hp
      have h14 : ∃ a n c, (vs 14) = .slice a n c ∧ Is (fun _ => True) p a n c P2 := hp 14 (by simp [Lzf3])
      have h18 : ∃ a n c, (vs 18) = .slice a n c ∧ Is (fun _ => True) p a n c P2 := hp 18 (by simp [Lzf3])
      have h10 : (vs 10) = .bool false := hp 10 (by simp [Lzf3])
      have e31 : (Roll.putD Dzf3 vs [14, 18, 10] b0).eval (.tmp 31) = vs 14 := (Roll.eval_new 14 rfl (by decide) (by decide) (by omega))
      have e35 : (Roll.putD Dzf3 vs [14, 18, 10] b0).eval (.tmp 35) = vs 18 := (Roll.eval_new 18 rfl (by decide) (by decide) (by omega))
      clear hp hlv hN
      refine ⟨fun hg => ?_, fun hg => absurd h10 hg⟩
      clear hg
      unfold Roll.Goes
      simp only [Lzf3, List.getD_cons_zero, List.getD_cons_succ]
      generalize Roll.putD Dzf3 vs [14, 18, 10] b0 = a1 at *
      obtain ⟨a8, n8, c8, hva, hia⟩ := h14
      obtain ⟨a9, n9, c9, hvb, hib⟩ := h18
      rw [hva] at e31
      rw [hvb] at e35
      refine Roll.goes_call 21 #[.slice a8 n8 c8, .slice a9 n9 c9] p rfl (by have ec : ∀ x, a1.eval (.const x) = x := fun _ => rfl; have ef : ∀ x, a1.eval (.func x) = .func (.func x) #[] #[] := fun _ => rfl; generalize a1.eval = ρ at *; go_simp) ?_
      refine (sameIntsZ_any _ _ _ _ _ _ _ _ _ _ _ hia hib).mono ?_
      rintro q p2 ⟨rfl, hb⟩
      exact ⟨_, rfl, hI.trans (hb.mono hI.size), hb, by rw [beq_self_eq_true]; rfl⟩
    · intro vs p hI hp
      have h19 : (vs 19) = .bool true := hp 19 (by simp [Lzf3])
      have h10 : (vs 10) = .bool false := hp 10 (by simp [Lzf3])
      have e36 : (Roll.putD Dzf3 vs [19, 10] b0).eval (.tmp 36) = .bool true := (Roll.eval_new 19 rfl (by decide) (by decide) (by omega)).trans h19
      clear hp hlv hN
      refine ⟨fun hg => ?_, fun hg => absurd h10 hg⟩
      clear hg
      unfold Roll.Goes
      simp only [Lzf3, List.getD_cons_zero, List.getD_cons_succ]
      generalize Roll.putD Dzf3 vs [19, 10] b0 = a1 at *
      refine Roll.goes_val (w' := p) (.bool false) rfl ?_ ⟨hI, Below.refl _ _, rfl⟩
      (have ec : ∀ x, a1.eval (.const x) = x := fun _ => rfl); (have ef : ∀ x, a1.eval (.func x) = .func (.func x) #[] #[] := fun _ => rfl); generalize a1.eval = ρ at *
      clear h19 h10
      go_simp <;> (intros; first | (exfalso; omega) | rfl | omega)
    · intro vs p hI hp
      have h10 : (vs 10) = .bool false := hp 10 (by simp [Lzf3])
      have h20 : (vs 20) = .bool false := hp 20 (by simp [Lzf3])
      have e27 : (Roll.putD Dzf3 vs [10, 20] b0).eval (.tmp 27) = .bool false := (Roll.eval_new 10 rfl (by decide) (by decide) (by omega)).trans h10
      have e37 : (Roll.putD Dzf3 vs [10, 20] b0).eval (.tmp 37) = .bool false := (Roll.eval_new 20 rfl (by decide) (by decide) (by omega)).trans h20
      clear hp hlv hN
      unfold Roll.Goes
      simp only [Lzf3, List.getD_cons_zero, List.getD_cons_succ]
      generalize Roll.putD Dzf3 vs [10, 20] b0 = a1 at *
      refine Roll.goes_val (w' := p) (.bool false) rfl ?_ ⟨hI, Below.refl _ _, rfl⟩
      (have ec : ∀ x, a1.eval (.const x) = x := fun _ => rfl); (have ef : ∀ x, a1.eval (.func x) = .func (.func x) #[] #[] := fun _ => rfl); generalize a1.eval = ρ at *
      clear h10 h20
      go_simp <;> (intros; first | (exfalso; omega) | rfl | omega)
  · intro vs p hI hR
    have h0 : (vs 0) = .agg #[.int .i64 O, .slice az nz cz] := hR 0 (by omega)
    have h1 : (vs 1) = .int .i64 d := hR 1 (by omega)
    have h2 : (vs 2) = .int .i64 s := hR 2 (by omega)
    have h3 : ∃ a n c, (vs 3) = .slice a n c ∧ Is (fun _ => True) p a n c P1 := hR 3 (by omega)
    have h4 : (vs 4) = .agg #[.int .i64 O, .slice az nz cz] := hR 4 (by omega)
    have h5 : (vs 5) = .int .i64 d := hR 5 (by omega)
    have h6 : (vs 6) = .int .i64 s := hR 6 (by omega)
    have h7 : ∃ a n c, (vs 7) = .slice a n c ∧ Is (fun _ => True) p a n c P1 := hR 7 (by omega)
    have h8 : (vs 8) = .bool true := hR 8 (by omega)
    have h9 : (vs 9) = .bool false := hR 9 (by omega)
    have h10 : (vs 10) = .bool false := hR 10 (by omega)
    have h11 : (vs 11) = .agg #[.int .i64 O, .slice az nz cz] := hR 11 (by omega)
    have h12 : (vs 12) = .int .i64 d := hR 12 (by omega)
    have h13 : (vs 13) = .int .i64 y := hR 13 (by omega)
    have h14 : ∃ a n c, (vs 14) = .slice a n c ∧ Is (fun _ => True) p a n c P2 := hR 14 (by omega)
    have h15 : (vs 15) = .agg #[.int .i64 O, .slice az nz cz] := hR 15 (by omega)
    have h16 : (vs 16) = .int .i64 d := hR 16 (by omega)
    have h17 : (vs 17) = .int .i64 y := hR 17 (by omega)
    have h18 : ∃ a n c, (vs 18) = .slice a n c ∧ Is (fun _ => True) p a n c P2 := hR 18 (by omega)
    have h19 : (vs 19) = .bool true := hR 19 (by omega)
    have h20 : (vs 20) = .bool false := hR 20 (by omega)
    have h21 : (vs 21) = .bool false := hR 21 (by omega)
    clear hR
    simp only [List.range_succ, List.range_zero, List.nil_append, List.cons_append, Roll.putD, Act.put, List.getD_cons_zero, List.getD_cons_succ, List.setIfInBounds_toArray, List.set_cons_zero, List.set_cons_succ, List.drop_succ_cons, List.drop_zero, Dzf3]
    simp only [h0, h1, h2, h4, h5, h6, h8, h9, h10, h11, h12, h13, h15, h16, h17, h19, h20, h21]
    clear h0 h1 h2 h4 h5 h6 h8 h9 h10 h11 h12 h13 h15 h16 h17 h19 h20 h21
    have HB3 := Lib.hid hI
    have HR3 := Lib.hid ((hI.block gz HGZL.out).trans HR.out)
    clear hI h3 h7 h14 h18
    obtain ⟨W3, hW3⟩ : ∃ W3, W3 = p := ⟨_, rfl⟩
    subst hW3
    have HGZ3 := Lib.hid (heap_lt HR3.out)
    go_upto_region 5 with fail
    refine Roll.region_f 23 62 Dzf5 Lzf5 [(7, .pointer (some ⟨gz, 0, none⟩)), (8, .int .i64 d), (9, .int .i64 s)] (fun p => Below W3.heap.size W3 p) (fun p p2 => Below p.heap.size p p2) [fun vv p => vv = .agg #[.int .i64 O, .slice az nz cz], fun vv p => vv = .int .i64 d, fun vv p => vv = .int .i64 s, fun vv p => vv = .int .i64 rt, fun vv p => vv = .agg #[.int .i64 O, .slice az nz cz], fun vv p => vv = .int .i64 d, fun vv p => vv = .int .i64 s, fun vv p => vv = .int .i64 rt, fun vv p => vv = .bool true, fun vv p => vv = .bool true, fun vv p => vv = .agg #[.int .i64 O, .slice az nz cz], fun vv p => vv = .int .i64 d, fun vv p => vv = .int .i64 s, fun vv p => vv = .int .i64 rf, fun vv p => vv = .agg #[.int .i64 O, .slice az nz cz], fun vv p => vv = .int .i64 d, fun vv p => vv = .int .i64 s, fun vv p => vv = .int .i64 rf, fun vv p => vv = .bool true, fun vv p => vv = .bool true, fun vv p => vv = .bool true, fun vv p => vv = .bool true, fun vv p => vv = .bool true] (by kernel_rfl) (by kernel_rfl) rfl ⟨rfl, rfl, rfl, trivial⟩ ((Below.refl _ _).drew) ?_ ?_ ?_
    · exact ⟨fun _ _ _ _ h => h, fun _ _ _ _ h => h, fun _ _ _ _ h => h, fun _ _ _ _ h => h, fun _ _ _ _ h => h, fun _ _ _ _ h => h, fun _ _ _ _ h => h, fun _ _ _ _ h => h, fun _ _ _ _ h => h, fun _ _ _ _ h => h, fun _ _ _ _ h => h, fun _ _ _ _ h => h, fun _ _ _ _ h => h, fun _ _ _ _ h => h, fun _ _ _ _ h => h, fun _ _ _ _ h => h, fun _ _ _ _ h => h, fun _ _ _ _ h => h, fun _ _ _ _ h => h, fun _ _ _ _ h => h, fun _ _ _ _ h => h, fun _ _ _ _ h => h, fun _ _ _ _ h => h, trivial⟩
    · intro b0 hN hlv
      refine ⟨?_, ?_, ?_, ?_, ?_, ?_, ?_, ?_, ?_, ?_, ?_, ?_, ?_, ?_, ?_, ?_, ?_, ?_, ?_, ?_, ?_, ?_, ?_, trivial⟩
      · intro vs p hI hp
        have e7 : (Roll.putD Dzf5 vs [] b0).eval (.tmp 7) = .pointer (some ⟨gz, 0, none⟩) := (Roll.eval_old rfl).trans (hlv.at 0 (7, .pointer (some ⟨gz, 0, none⟩)) rfl)
        clear hp hlv hN
        unfold Roll.Goes
        simp only [Lzf5, List.getD_cons_zero, List.getD_cons_succ]
        generalize Roll.putD Dzf5 vs [] b0 = a1 at *
        have ldz := run_loadZone ((hI.block gz HGZ3.out).trans HR3.out)
        refine Roll.goes_val (w' := p) (.agg #[.int .i64 O, .slice az nz cz]) rfl ?_ ⟨hI, Below.refl _ _, rfl⟩
        (have ec : ∀ x, a1.eval (.const x) = x := fun _ => rfl); (have ef : ∀ x, a1.eval (.func x) = .func (.func x) #[] #[] := fun _ => rfl); generalize a1.eval = ρ at *
        skip
        go_simp <;> (intros; first | (exfalso; omega) | rfl | omega)
      · intro vs p hI hp
        have e8 : (Roll.putD Dzf5 vs [] b0).eval (.tmp 8) = .int .i64 d := (Roll.eval_old rfl).trans (hlv.at 1 (8, .int .i64 d) rfl)
        clear hp hlv hN
        unfold Roll.Goes
        simp only [Lzf5, List.getD_cons_zero, List.getD_cons_succ]
        generalize Roll.putD Dzf5 vs [] b0 = a1 at *
        refine Roll.goes_val (w' := p) (.int .i64 d) rfl ?_ ⟨hI, Below.refl _ _, rfl⟩
        (have ec : ∀ x, a1.eval (.const x) = x := fun _ => rfl); (have ef : ∀ x, a1.eval (.func x) = .func (.func x) #[] #[] := fun _ => rfl); generalize a1.eval = ρ at *
        skip
        go_simp <;> (intros; first | (exfalso; omega) | rfl | omega)
      · intro vs p hI hp
        have e9 : (Roll.putD Dzf5 vs [] b0).eval (.tmp 9) = .int .i64 s := (Roll.eval_old rfl).trans (hlv.at 2 (9, .int .i64 s) rfl)
        clear hp hlv hN
        unfold Roll.Goes
        simp only [Lzf5, List.getD_cons_zero, List.getD_cons_succ]
        generalize Roll.putD Dzf5 vs [] b0 = a1 at *
        refine Roll.goes_val (w' := p) (.int .i64 s) rfl ?_ ⟨hI, Below.refl _ _, rfl⟩
        (have ec : ∀ x, a1.eval (.const x) = x := fun _ => rfl); (have ef : ∀ x, a1.eval (.func x) = .func (.func x) #[] #[] := fun _ => rfl); generalize a1.eval = ρ at *
        skip
        go_simp <;> (intros; first | (exfalso; omega) | rfl | omega)
      · intro vs p hI hp
        have h0 : (vs 0) = .agg #[.int .i64 O, .slice az nz cz] := hp 0 (by simp [Lzf5])
        have h1 : (vs 1) = .int .i64 d := hp 1 (by simp [Lzf5])
        have h2 : (vs 2) = .int .i64 s := hp 2 (by simp [Lzf5])
        have e39 : (Roll.putD Dzf5 vs [0, 1, 2] b0).eval (.tmp 39) = .agg #[.int .i64 O, .slice az nz cz] := (Roll.eval_new 0 rfl (by decide) (by decide) (by omega)).trans h0
        have e40 : (Roll.putD Dzf5 vs [0, 1, 2] b0).eval (.tmp 40) = .int .i64 d := (Roll.eval_new 1 rfl (by decide) (by decide) (by omega)).trans h1
        have e41 : (Roll.putD Dzf5 vs [0, 1, 2] b0).eval (.tmp 41) = .int .i64 s := (Roll.eval_new 2 rfl (by decide) (by decide) (by omega)).trans h2
        clear hp hlv hN
        unfold Roll.Goes
        simp only [Lzf5, List.getD_cons_zero, List.getD_cons_succ]
        generalize Roll.putD Dzf5 vs [0, 1, 2] b0 = a1 at *
        refine Roll.goes_call 24 #[.agg #[.int .i64 O, .slice az nz cz], .int .i64 d, .int .i64 s, .bool true] p rfl (by have ec : ∀ x, a1.eval (.const x) = x := fun _ => rfl; have ef : ∀ x, a1.eval (.func x) = .func (.func x) #[] #[] := fun _ => rfl; generalize a1.eval = ρ at *; go_simp) ?_
        refine (CT.out p (HB3.out.trans (hI.mono HB3.out.size))).mono ?_
        rintro q p2 ⟨rfl, hb⟩
        exact ⟨_, rfl, hI.trans (hb.mono hI.size), hb, rfl⟩
      · intro vs p hI hp
        have e7 : (Roll.putD Dzf5 vs [] b0).eval (.tmp 7) = .pointer (some ⟨gz, 0, none⟩) := (Roll.eval_old rfl).trans (hlv.at 0 (7, .pointer (some ⟨gz, 0, none⟩)) rfl)
        clear hp hlv hN
        unfold Roll.Goes
        simp only [Lzf5, List.getD_cons_zero, List.getD_cons_succ]
        generalize Roll.putD Dzf5 vs [] b0 = a1 at *
        have ldz := run_loadZone ((hI.block gz HGZ3.out).trans HR3.out)
        refine Roll.goes_val (w' := p) (.agg #[.int .i64 O, .slice az nz cz]) rfl ?_ ⟨hI, Below.refl _ _, rfl⟩
        (have ec : ∀ x, a1.eval (.const x) = x := fun _ => rfl); (have ef : ∀ x, a1.eval (.func x) = .func (.func x) #[] #[] := fun _ => rfl); generalize a1.eval = ρ at *
        skip
        go_simp <;> (intros; first | (exfalso; omega) | rfl | omega)
      · intro vs p hI hp
        have e8 : (Roll.putD Dzf5 vs [] b0).eval (.tmp 8) = .int .i64 d := (Roll.eval_old rfl).trans (hlv.at 1 (8, .int .i64 d) rfl)
        clear hp hlv hN
        unfold Roll.Goes
        simp only [Lzf5, List.getD_cons_zero, List.getD_cons_succ]
        generalize Roll.putD Dzf5 vs [] b0 = a1 at *
        refine Roll.goes_val (w' := p) (.int .i64 d) rfl ?_ ⟨hI, Below.refl _ _, rfl⟩
        (have ec : ∀ x, a1.eval (.const x) = x := fun _ => rfl); (have ef : ∀ x, a1.eval (.func x) = .func (.func x) #[] #[] := fun _ => rfl); generalize a1.eval = ρ at *
        skip
        go_simp <;> (intros; first | (exfalso; omega) | rfl | omega)
      · intro vs p hI hp
        have e9 : (Roll.putD Dzf5 vs [] b0).eval (.tmp 9) = .int .i64 s := (Roll.eval_old rfl).trans (hlv.at 2 (9, .int .i64 s) rfl)
        clear hp hlv hN
        unfold Roll.Goes
        simp only [Lzf5, List.getD_cons_zero, List.getD_cons_succ]
        generalize Roll.putD Dzf5 vs [] b0 = a1 at *
        refine Roll.goes_val (w' := p) (.int .i64 s) rfl ?_ ⟨hI, Below.refl _ _, rfl⟩
        (have ec : ∀ x, a1.eval (.const x) = x := fun _ => rfl); (have ef : ∀ x, a1.eval (.func x) = .func (.func x) #[] #[] := fun _ => rfl); generalize a1.eval = ρ at *
        skip
        go_simp <;> (intros; first | (exfalso; omega) | rfl | omega)
      · intro vs p hI hp
        have h4 : (vs 4) = .agg #[.int .i64 O, .slice az nz cz] := hp 4 (by simp [Lzf5])
        have h5 : (vs 5) = .int .i64 d := hp 5 (by simp [Lzf5])
        have h6 : (vs 6) = .int .i64 s := hp 6 (by simp [Lzf5])
        have e43 : (Roll.putD Dzf5 vs [4, 5, 6] b0).eval (.tmp 43) = .agg #[.int .i64 O, .slice az nz cz] := (Roll.eval_new 4 rfl (by decide) (by decide) (by omega)).trans h4
        have e44 : (Roll.putD Dzf5 vs [4, 5, 6] b0).eval (.tmp 44) = .int .i64 d := (Roll.eval_new 5 rfl (by decide) (by decide) (by omega)).trans h5
        have e45 : (Roll.putD Dzf5 vs [4, 5, 6] b0).eval (.tmp 45) = .int .i64 s := (Roll.eval_new 6 rfl (by decide) (by decide) (by omega)).trans h6
        clear hp hlv hN
        unfold Roll.Goes
        simp only [Lzf5, List.getD_cons_zero, List.getD_cons_succ]
        generalize Roll.putD Dzf5 vs [4, 5, 6] b0 = a1 at *
        refine Roll.goes_call 25 #[.agg #[.int .i64 O, .slice az nz cz], .int .i64 d, .int .i64 s, .bool true] p rfl (by have ec : ∀ x, a1.eval (.const x) = x := fun _ => rfl; have ef : ∀ x, a1.eval (.func x) = .func (.func x) #[] #[] := fun _ => rfl; generalize a1.eval = ρ at *; go_simp) ?_
        refine (CRT.out p (HB3.out.trans (hI.mono HB3.out.size))).mono ?_
        rintro q p2 ⟨rfl, hb⟩
        exact ⟨_, rfl, hI.trans (hb.mono hI.size), hb, rfl⟩
      · intro vs p hI hp
        have h3 : (vs 3) = .int .i64 rt := hp 3 (by simp [Lzf5])
        have h7 : (vs 7) = .int .i64 rt := hp 7 (by simp [Lzf5])
        have e42 : (Roll.putD Dzf5 vs [3, 7] b0).eval (.tmp 42) = .int .i64 rt := (Roll.eval_new 3 rfl (by decide) (by decide) (by omega)).trans h3
        have e46 : (Roll.putD Dzf5 vs [3, 7] b0).eval (.tmp 46) = .int .i64 rt := (Roll.eval_new 7 rfl (by decide) (by decide) (by omega)).trans h7
        clear hp hlv hN
        unfold Roll.Goes
        simp only [Lzf5, List.getD_cons_zero, List.getD_cons_succ]
        generalize Roll.putD Dzf5 vs [3, 7] b0 = a1 at *
        refine Roll.goes_val (w' := p) (.bool true) rfl ?_ ⟨hI, Below.refl _ _, rfl⟩
        (have ec : ∀ x, a1.eval (.const x) = x := fun _ => rfl); (have ef : ∀ x, a1.eval (.func x) = .func (.func x) #[] #[] := fun _ => rfl); generalize a1.eval = ρ at *
        clear h3 h7
        go_simp <;> (intros; first | (exfalso; omega) | rfl | omega)
      · intro vs p hI hp
        have h8 : (vs 8) = .bool true := hp 8 (by simp [Lzf5])
        have e47 : (Roll.putD Dzf5 vs [8] b0).eval (.tmp 47) = .bool true := (Roll.eval_new 8 rfl (by decide) (by decide) (by omega)).trans h8
        clear hp hlv hN
        unfold Roll.Goes
        simp only [Lzf5, List.getD_cons_zero, List.getD_cons_succ]
        generalize Roll.putD Dzf5 vs [8] b0 = a1 at *
        refine Roll.goes_val (w' := p) (.bool true) rfl ?_ ⟨hI, Below.refl _ _, rfl⟩
        (have ec : ∀ x, a1.eval (.const x) = x := fun _ => rfl); (have ef : ∀ x, a1.eval (.func x) = .func (.func x) #[] #[] := fun _ => rfl); generalize a1.eval = ρ at *
        clear h8
        go_simp <;> (intros; first | (exfalso; omega) | rfl | omega)
      · intro vs p hI hp
        have h9 : (vs 9) = .bool true := hp 9 (by simp [Lzf5])
        have e7 : (Roll.putD Dzf5 vs [9] b0).eval (.tmp 7) = .pointer (some ⟨gz, 0, none⟩) := (Roll.eval_old rfl).trans (hlv.at 0 (7, .pointer (some ⟨gz, 0, none⟩)) rfl)
        clear hp hlv hN
        refine ⟨fun hg => ?_, fun hg => absurd h9 hg⟩
        clear hg
        unfold Roll.Goes
        simp only [Lzf5, List.getD_cons_zero, List.getD_cons_succ]
        generalize Roll.putD Dzf5 vs [9] b0 = a1 at *
        have ldz := run_loadZone ((hI.block gz HGZ3.out).trans HR3.out)
        refine Roll.goes_val (w' := p) (.agg #[.int .i64 O, .slice az nz cz]) rfl ?_ ⟨hI, Below.refl _ _, rfl⟩
        (have ec : ∀ x, a1.eval (.const x) = x := fun _ => rfl); (have ef : ∀ x, a1.eval (.func x) = .func (.func x) #[] #[] := fun _ => rfl); generalize a1.eval = ρ at *
        clear h9
        go_simp <;> (intros; first | (exfalso; omega) | rfl | omega)
      · intro vs p hI hp
        have h9 : (vs 9) = .bool true := hp 9 (by simp [Lzf5])
        have e8 : (Roll.putD Dzf5 vs [9] b0).eval (.tmp 8) = .int .i64 d := (Roll.eval_old rfl).trans (hlv.at 1 (8, .int .i64 d) rfl)
        clear hp hlv hN
        refine ⟨fun hg => ?_, fun hg => absurd h9 hg⟩
        clear hg
        unfold Roll.Goes
        simp only [Lzf5, List.getD_cons_zero, List.getD_cons_succ]
        generalize Roll.putD Dzf5 vs [9] b0 = a1 at *
        refine Roll.goes_val (w' := p) (.int .i64 d) rfl ?_ ⟨hI, Below.refl _ _, rfl⟩
        (have ec : ∀ x, a1.eval (.const x) = x := fun _ => rfl); (have ef : ∀ x, a1.eval (.func x) = .func (.func x) #[] #[] := fun _ => rfl); generalize a1.eval = ρ at *
        clear h9
        go_simp <;> (intros; first | (exfalso; omega) | rfl | omega)
      · intro vs p hI hp
        have h9 : (vs 9) = .bool true := hp 9 (by simp [Lzf5])
        have e9 : (Roll.putD Dzf5 vs [9] b0).eval (.tmp 9) = .int .i64 s := (Roll.eval_old rfl).trans (hlv.at 2 (9, .int .i64 s) rfl)
        clear hp hlv hN
        refine ⟨fun hg => ?_, fun hg => absurd h9 hg⟩
        clear hg
        unfold Roll.Goes
        simp only [Lzf5, List.getD_cons_zero, List.getD_cons_succ]
        generalize Roll.putD Dzf5 vs [9] b0 = a1 at *
        refine Roll.goes_val (w' := p) (.int .i64 s) rfl ?_ ⟨hI, Below.refl _ _, rfl⟩
        (have ec : ∀ x, a1.eval (.const x) = x := fun _ => rfl); (have ef : ∀ x, a1.eval (.func x) = .func (.func x) #[] #[] := fun _ => rfl); generalize a1.eval = ρ at *
        clear h9
        go_simp <;> (intros; first | (exfalso; omega) | rfl | omega)
      · intro vs p hI hp
        have h10 : (vs 10) = .agg #[.int .i64 O, .slice az nz cz] := hp 10 (by simp [Lzf5])
        have h11 : (vs 11) = .int .i64 d := hp 11 (by simp [Lzf5])
        have h12 : (vs 12) = .int .i64 s := hp 12 (by simp [Lzf5])
        have h9 : (vs 9) = .bool true := hp 9 (by simp [Lzf5])
        have e49 : (Roll.putD Dzf5 vs [10, 11, 12, 9] b0).eval (.tmp 49) = .agg #[.int .i64 O, .slice az nz cz] := (Roll.eval_new 10 rfl (by decide) (by decide) (by omega)).trans h10
        have e50 : (Roll.putD Dzf5 vs [10, 11, 12, 9] b0).eval (.tmp 50) = .int .i64 d := (Roll.eval_new 11 rfl (by decide) (by decide) (by omega)).trans h11
        have e51 : (Roll.putD Dzf5 vs [10, 11, 12, 9] b0).eval (.tmp 51) = .int .i64 s := (Roll.eval_new 12 rfl (by decide) (by decide) (by omega)).trans h12
        clear hp hlv hN
        refine ⟨fun hg => ?_, fun hg => absurd h9 hg⟩
        clear hg
        unfold Roll.Goes
        simp only [Lzf5, List.getD_cons_zero, List.getD_cons_succ]
        generalize Roll.putD Dzf5 vs [10, 11, 12, 9] b0 = a1 at *
        refine Roll.goes_call 24 #[.agg #[.int .i64 O, .slice az nz cz], .int .i64 d, .int .i64 s, .bool false] p rfl (by have ec : ∀ x, a1.eval (.const x) = x := fun _ => rfl; have ef : ∀ x, a1.eval (.func x) = .func (.func x) #[] #[] := fun _ => rfl; generalize a1.eval = ρ at *; go_simp) ?_
        refine (CF.out p (HB3.out.trans (hI.mono HB3.out.size))).mono ?_
        rintro q p2 ⟨rfl, hb⟩
        exact ⟨_, rfl, hI.trans (hb.mono hI.size), hb, rfl⟩
      · intro vs p hI hp
        have h9 : (vs 9) = .bool true := hp 9 (by simp [Lzf5])
        have e7 : (Roll.putD Dzf5 vs [9] b0).eval (.tmp 7) = .pointer (some ⟨gz, 0, none⟩) := (Roll.eval_old rfl).trans (hlv.at 0 (7, .pointer (some ⟨gz, 0, none⟩)) rfl)
        clear hp hlv hN
        refine ⟨fun hg => ?_, fun hg => absurd h9 hg⟩
        clear hg
        unfold Roll.Goes
        simp only [Lzf5, List.getD_cons_zero, List.getD_cons_succ]
        generalize Roll.putD Dzf5 vs [9] b0 = a1 at *
        have ldz := run_loadZone ((hI.block gz HGZ3.out).trans HR3.out)
        refine Roll.goes_val (w' := p) (.agg #[.int .i64 O, .slice az nz cz]) rfl ?_ ⟨hI, Below.refl _ _, rfl⟩
        (have ec : ∀ x, a1.eval (.const x) = x := fun _ => rfl); (have ef : ∀ x, a1.eval (.func x) = .func (.func x) #[] #[] := fun _ => rfl); generalize a1.eval = ρ at *
        clear h9
        go_simp <;> (intros; first | (exfalso; omega) | rfl | omega)
      · intro vs p hI hp
        have h9 : (vs 9) = .bool true := hp 9 (by simp [Lzf5])
        have e8 : (Roll.putD Dzf5 vs [9] b0).eval (.tmp 8) = .int .i64 d := (Roll.eval_old rfl).trans (hlv.at 1 (8, .int .i64 d) rfl)
        clear hp hlv hN
        refine ⟨fun hg => ?_, fun hg => absurd h9 hg⟩
        clear hg
        unfold Roll.Goes
        simp only [Lzf5, List.getD_cons_zero, List.getD_cons_succ]
        generalize Roll.putD Dzf5 vs [9] b0 = a1 at *
        refine Roll.goes_val (w' := p) (.int .i64 d) rfl ?_ ⟨hI, Below.refl _ _, rfl⟩
        (have ec : ∀ x, a1.eval (.const x) = x := fun _ => rfl); (have ef : ∀ x, a1.eval (.func x) = .func (.func x) #[] #[] := fun _ => rfl); generalize a1.eval = ρ at *
        clear h9
        go_simp <;> (intros; first | (exfalso; omega) | rfl | omega)
      · intro vs p hI hp
        have h9 : (vs 9) = .bool true := hp 9 (by simp [Lzf5])
        have e9 : (Roll.putD Dzf5 vs [9] b0).eval (.tmp 9) = .int .i64 s := (Roll.eval_old rfl).trans (hlv.at 2 (9, .int .i64 s) rfl)
        clear hp hlv hN
        refine ⟨fun hg => ?_, fun hg => absurd h9 hg⟩
        clear hg
        unfold Roll.Goes
        simp only [Lzf5, List.getD_cons_zero, List.getD_cons_succ]
        generalize Roll.putD Dzf5 vs [9] b0 = a1 at *
        refine Roll.goes_val (w' := p) (.int .i64 s) rfl ?_ ⟨hI, Below.refl _ _, rfl⟩
        (have ec : ∀ x, a1.eval (.const x) = x := fun _ => rfl); (have ef : ∀ x, a1.eval (.func x) = .func (.func x) #[] #[] := fun _ => rfl); generalize a1.eval = ρ at *
        clear h9
        go_simp <;> (intros; first | (exfalso; omega) | rfl | omega)
      · intro vs p hI hp
        have h14 : (vs 14) = .agg #[.int .i64 O, .slice az nz cz] := hp 14 (by simp [Lzf5])
        have h15 : (vs 15) = .int .i64 d := hp 15 (by simp [Lzf5])
        have h16 : (vs 16) = .int .i64 s := hp 16 (by simp [Lzf5])
        have h9 : (vs 9) = .bool true := hp 9 (by simp [Lzf5])
        have e53 : (Roll.putD Dzf5 vs [14, 15, 16, 9] b0).eval (.tmp 53) = .agg #[.int .i64 O, .slice az nz cz] := (Roll.eval_new 14 rfl (by decide) (by decide) (by omega)).trans h14
        have e54 : (Roll.putD Dzf5 vs [14, 15, 16, 9] b0).eval (.tmp 54) = .int .i64 d := (Roll.eval_new 15 rfl (by decide) (by decide) (by omega)).trans h15
        have e55 : (Roll.putD Dzf5 vs [14, 15, 16, 9] b0).eval (.tmp 55) = .int .i64 s := (Roll.eval_new 16 rfl (by decide) (by decide) (by omega)).trans h16
        clear hp hlv hN
        refine ⟨fun hg => ?_, fun hg => absurd h9 hg⟩
        clear hg
        unfold Roll.Goes
        simp only [Lzf5, List.getD_cons_zero, List.getD_cons_succ]
        generalize Roll.putD Dzf5 vs [14, 15, 16, 9] b0 = a1 at *
        refine Roll.goes_call 25 #[.agg #[.int .i64 O, .slice az nz cz], .int .i64 d, .int .i64 s, .bool false] p rfl (by have ec : ∀ x, a1.eval (.const x) = x := fun _ => rfl; have ef : ∀ x, a1.eval (.func x) = .func (.func x) #[] #[] := fun _ => rfl; generalize a1.eval = ρ at *; go_simp) ?_
        refine (CRF.out p (HB3.out.trans (hI.mono HB3.out.size))).mono ?_
        rintro q p2 ⟨rfl, hb⟩
        exact ⟨_, rfl, hI.trans (hb.mono hI.size), hb, rfl⟩
      · intro vs p hI hp
        have h13 : (vs 13) = .int .i64 rf := hp 13 (by simp [Lzf5])
        have h17 : (vs 17) = .int .i64 rf := hp 17 (by simp [Lzf5])
        have h9 : (vs 9) = .bool true := hp 9 (by simp [Lzf5])
        have e52 : (Roll.putD Dzf5 vs [13, 17, 9] b0).eval (.tmp 52) = .int .i64 rf := (Roll.eval_new 13 rfl (by decide) (by decide) (by omega)).trans h13
        have e56 : (Roll.putD Dzf5 vs [13, 17, 9] b0).eval (.tmp 56) = .int .i64 rf := (Roll.eval_new 17 rfl (by decide) (by decide) (by omega)).trans h17
        clear hp hlv hN
        refine ⟨fun hg => ?_, fun hg => absurd h9 hg⟩
        clear hg
        unfold Roll.Goes
        simp only [Lzf5, List.getD_cons_zero, List.getD_cons_succ]
        generalize Roll.putD Dzf5 vs [13, 17, 9] b0 = a1 at *
        refine Roll.goes_val (w' := p) (.bool true) rfl ?_ ⟨hI, Below.refl _ _, rfl⟩
        (have ec : ∀ x, a1.eval (.const x) = x := fun _ => rfl); (have ef : ∀ x, a1.eval (.func x) = .func (.func x) #[] #[] := fun _ => rfl); generalize a1.eval = ρ at *
        clear h13 h17 h9
        go_simp <;> (intros; first | (exfalso; omega) | rfl | omega)
      · intro vs p hI hp
        have h9 : (vs 9) = .bool true := hp 9 (by simp [Lzf5])
        have h18 : (vs 18) = .bool true := hp 18 (by simp [Lzf5])
        have e48 : (Roll.putD Dzf5 vs [9, 18] b0).eval (.tmp 48) = .bool true := (Roll.eval_new 9 rfl (by decide) (by decide) (by omega)).trans h9
        have e57 : (Roll.putD Dzf5 vs [9, 18] b0).eval (.tmp 57) = .bool true := (Roll.eval_new 18 rfl (by decide) (by decide) (by omega)).trans h18
        clear hp hlv hN
        unfold Roll.Goes
        simp only [Lzf5, List.getD_cons_zero, List.getD_cons_succ]
        generalize Roll.putD Dzf5 vs [9, 18] b0 = a1 at *
        refine Roll.goes_val (w' := p) (.bool true) rfl ?_ ⟨hI, Below.refl _ _, rfl⟩
        (have ec : ∀ x, a1.eval (.const x) = x := fun _ => rfl); (have ef : ∀ x, a1.eval (.func x) = .func (.func x) #[] #[] := fun _ => rfl); generalize a1.eval = ρ at *
        clear h9 h18
        go_simp <;> (intros; first | (exfalso; omega) | rfl | omega)
      · intro vs p hI hp
        have h19 : (vs 19) = .bool true := hp 19 (by simp [Lzf5])
        have e58 : (Roll.putD Dzf5 vs [19] b0).eval (.tmp 58) = .bool true := (Roll.eval_new 19 rfl (by decide) (by decide) (by omega)).trans h19
        clear hp hlv hN
        unfold Roll.Goes
        simp only [Lzf5, List.getD_cons_zero, List.getD_cons_succ]
        generalize Roll.putD Dzf5 vs [19] b0 = a1 at *
        refine Roll.goes_val (w' := p) (.bool true) rfl ?_ ⟨hI, Below.refl _ _, rfl⟩
        (have ec : ∀ x, a1.eval (.const x) = x := fun _ => rfl); (have ef : ∀ x, a1.eval (.func x) = .func (.func x) #[] #[] := fun _ => rfl); generalize a1.eval = ρ at *
        clear h19
        go_simp <;> (intros; first | (exfalso; omega) | rfl | omega)
      · intro vs p hI hp
        have h20 : (vs 20) = .bool true := hp 20 (by simp [Lzf5])
        clear hp hlv hN
        refine ⟨fun hg => ?_, fun hg => absurd h20 hg⟩
        clear hg
        unfold Roll.Goes
        simp only [Lzf5, List.getD_cons_zero, List.getD_cons_succ]
        generalize Roll.putD Dzf5 vs [20] b0 = a1 at *
        refine Roll.goes_call 11 #[] p rfl (by have ec : ∀ x, a1.eval (.const x) = x := fun _ => rfl; have ef : ∀ x, a1.eval (.func x) = .func (.func x) #[] #[] := fun _ => rfl; generalize a1.eval = ρ at *; go_simp) ?_
        refine (HLV.out p).mono ?_
        rintro q p2 ⟨rfl, hb⟩
        exact ⟨_, rfl, hI.trans (hb.mono hI.size), hb, rfl⟩
      · intro vs p hI hp
        have h20 : (vs 20) = .bool true := hp 20 (by simp [Lzf5])
        have h21 : (vs 21) = .bool true := hp 21 (by simp [Lzf5])
        have e59 : (Roll.putD Dzf5 vs [20, 21] b0).eval (.tmp 59) = .bool true := (Roll.eval_new 20 rfl (by decide) (by decide) (by omega)).trans h20
        have e60 : (Roll.putD Dzf5 vs [20, 21] b0).eval (.tmp 60) = .bool true := (Roll.eval_new 21 rfl (by decide) (by decide) (by omega)).trans h21
        clear hp hlv hN
        unfold Roll.Goes
        simp only [Lzf5, List.getD_cons_zero, List.getD_cons_succ]
        generalize Roll.putD Dzf5 vs [20, 21] b0 = a1 at *
        refine Roll.goes_val (w' := p) (.bool true) rfl ?_ ⟨hI, Below.refl _ _, rfl⟩
        (have ec : ∀ x, a1.eval (.const x) = x := fun _ => rfl); (have ef : ∀ x, a1.eval (.func x) = .func (.func x) #[] #[] := fun _ => rfl); generalize a1.eval = ρ at *
        clear h20 h21
        go_simp <;> (intros; first | (exfalso; omega) | rfl | omega)
    · intro vs p hI hR
      have h0 : (vs 0) = .agg #[.int .i64 O, .slice az nz cz] := hR 0 (by omega)
      have h1 : (vs 1) = .int .i64 d := hR 1 (by omega)
      have h2 : (vs 2) = .int .i64 s := hR 2 (by omega)
      have h3 : (vs 3) = .int .i64 rt := hR 3 (by omega)
      have h4 : (vs 4) = .agg #[.int .i64 O, .slice az nz cz] := hR 4 (by omega)
      have h5 : (vs 5) = .int .i64 d := hR 5 (by omega)
      have h6 : (vs 6) = .int .i64 s := hR 6 (by omega)
      have h7 : (vs 7) = .int .i64 rt := hR 7 (by omega)
      have h8 : (vs 8) = .bool true := hR 8 (by omega)
      have h9 : (vs 9) = .bool true := hR 9 (by omega)
      have h10 : (vs 10) = .agg #[.int .i64 O, .slice az nz cz] := hR 10 (by omega)
      have h11 : (vs 11) = .int .i64 d := hR 11 (by omega)
      have h12 : (vs 12) = .int .i64 s := hR 12 (by omega)
      have h13 : (vs 13) = .int .i64 rf := hR 13 (by omega)
      have h14 : (vs 14) = .agg #[.int .i64 O, .slice az nz cz] := hR 14 (by omega)
      have h15 : (vs 15) = .int .i64 d := hR 15 (by omega)
      have h16 : (vs 16) = .int .i64 s := hR 16 (by omega)
      have h17 : (vs 17) = .int .i64 rf := hR 17 (by omega)
      have h18 : (vs 18) = .bool true := hR 18 (by omega)
      have h19 : (vs 19) = .bool true := hR 19 (by omega)
      have h20 : (vs 20) = .bool true := hR 20 (by omega)
      have h21 : (vs 21) = .bool true := hR 21 (by omega)
      have h22 : (vs 22) = .bool true := hR 22 (by omega)
      clear hR
      simp only [List.range_succ, List.range_zero, List.nil_append, List.cons_append, Roll.putD, Act.put, List.getD_cons_zero, List.getD_cons_succ, List.setIfInBounds_toArray, List.set_cons_zero, List.set_cons_succ, List.drop_succ_cons, List.drop_zero, Dzf5]
      simp only [h0, h1, h2, h3, h4, h5, h6, h7, h8, h9, h10, h11, h12, h13, h14, h15, h16, h17, h18, h19, h20, h21, h22]
      clear h0 h1 h2 h3 h4 h5 h6 h7 h8 h9 h10 h11 h12 h13 h14 h15 h16 h17 h18 h19 h20 h21 h22
      have HBE := Lib.hid (HB3.out.trans (hI.mono HB3.out.size))
      clear hI
      go_wp2_with fail
      go_ret
      exact ⟨rfl, HW.out.trans (HBE.out.mono HW.out.size)⟩
end Go.Proofs.Ytcdjilnlmihnhaa

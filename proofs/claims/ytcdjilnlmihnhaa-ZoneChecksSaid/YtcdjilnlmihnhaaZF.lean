/-
  The law ZoneChecks (written by gen_ZF.py).
-/
import Derived.Test.YtcdjilnlmihnhaaZD
import Derived.Test.YtcdjilnlmihnhaaZC
import Derived.Test.YtcdjilnlmihnhaaR4
namespace Go.Proofs.Ytcdjilnlmihnhaa
open Go.RowKit
set_option linter.unusedSimpArgs false
set_option linter.unusedVariables false
attribute [local go_sem ↓] exec_loadShift exec_storeShift exec_loadSeg exec_storeSeg exec_loadZone exec_storeZone
attribute [local go_sem] run_storeShift run_storeSeg run_storeZone
theorem chk_mk : ∀ (k : Nat) (t : Int) (l : List Int) (p : Option Int), 0 ≤ t → t + (k : Int) * 22880 ≤ 8589934592 → (∀ q, p = some q → q + 2880 ≤ t) → chkL p (mkL k t l) = 0
  | 0, _, _, p, _, _, _ => by rw [mkL_zero]; rfl
  | k + 1, _, [], _, _, _, _ => rfl
  | k + 1, _, [_], _, _, _, _ => rfl
  | k + 1, t, x :: y :: r, p, h0, h1, hp => by
    have hx := aroundZ_bd x 20000 (by omega)
    have hy := aroundZ_bd y 1801 (by omega)
    have ih := chk_mk k (t + aroundZ x 20000 + 2880) r (some (t + aroundZ x 20000)) (by omega) (by push_cast at h1; omega) (fun q hq => by cases hq; omega)
    have e : mkL (k + 1) t (x :: y :: r) = ⟨t + aroundZ x 20000, aroundZ y 1801 - 900⟩ :: mkL k (t + aroundZ x 20000 + 2880) r := rfl
    have g1 : 0 ≤ (⟨t + aroundZ x 20000, aroundZ y 1801 - 900⟩ : SM).t ∧ (⟨t + aroundZ x 20000, aroundZ y 1801 - 900⟩ : SM).t ≤ 8589934592 := ⟨by show 0 ≤ t + aroundZ x 20000; omega, by show t + aroundZ x 20000 ≤ _; push_cast at h1; omega⟩
    have g2 : -900 ≤ (⟨t + aroundZ x 20000, aroundZ y 1801 - 900⟩ : SM).o ∧ (⟨t + aroundZ x 20000, aroundZ y 1801 - 900⟩ : SM).o ≤ 900 := ⟨by show -900 ≤ aroundZ y 1801 - 900; omega, by show aroundZ y 1801 - 900 ≤ 900; omega⟩
    rw [e]
    cases p with
    | none => rw [chkL_go_none g1 g2]; exact ih
    | some q =>
      have := hp q rfl
      rw [chkL_go g1 g2 (by show ¬ t + aroundZ x 20000 - q < 2880; omega)]
      exact ih
theorem chk_zone (l : List Int) : chkZ (zoneO l) (zoneL l) = 0 := by
  have h1 := zoneL_len l
  have h2 := zoneO_bd l
  unfold chkZ
  rw [if_neg (by omega), if_neg (by omega)]
  exact chk_mk 20 0 _ none (by omega) (by omega) (fun q h => by cases h)
def Dzk3 : List (Option Tmp) := [some 10, some 11, some 12, some 13, some 14, some 15, some 16, some 17, some 18, some 19, some 20, some 21, some 22, some 23, some 4]
def Lzk3 : List (List Nat) := [[], [0], [], [2], [1, 3], [4], [5], [6, 5], [7, 5], [8, 5], [5, 9], [10], [11], [11, 12], [13]]
set_option maxRecDepth 100000 in
set_option maxHeartbeats 4000000 in
theorem checks_law {w : World} {O : Int} {az : Option Addr} {nz cz : Nat} {L : List SM} {a : Option Addr} {n c : Nat} {l : List Int} (hz : Ss (fun b => b < w.heap.size) w az nz cz L) (hI : Is (fun b => b < w.heap.size) w a n c l) (hk : Ok64Z l) : Calls Try.prog 3 #[zV O az nz cz, .slice a n c] w fun e w' => e = .returned (.bool true) ∧ Below w.heap.size w w' := by
  have HLV := Lib.hid (fun u => lives_any u)
  obtain ⟨W1, hW1⟩ : ∃ W1, W1 = w.alloc (.cells #[.int .i64 O, .slice az nz cz] 24) := ⟨_, rfl⟩
  obtain ⟨gz, hgz⟩ : ∃ gz, gz = w.heap.size := ⟨_, rfl⟩
  have hr1 : W1.heap[gz]? = some (.cells #[.int .i64 O, .slice az nz cz] 24 (0, 0)) := by rw [hW1, hgz]; exact heap_newZ
  have hb1 : Below w.heap.size w W1 := by rw [hW1]; exact (Below.refl _ w).alloc (Nat.le_refl _) _
  have HB1 := Lib.hid hb1
  have HR := Lib.hid hr1
  have HGZL := Lib.hid (heap_lt hr1)
  have HIS := Lib.hid hI
  have HK := Lib.hid hk
  have hs1 := hz.below hb1
  have CC : Hid (∀ u, Below W1.heap.size W1 u → Calls Try.prog 12 #[.agg #[.int .i64 O, .slice az nz cz]] u fun e w' => e = .returned (.int .i64 (chkZ O L)) ∧ Below u.heap.size u w') := Lib.hid (fun u hu => check_any (hs1.below hu))
  have CR : Hid (∀ u, Below W1.heap.size W1 u → Calls Try.prog 13 #[.agg #[.int .i64 O, .slice az nz cz]] u fun e w' => e = .returned (.int .i64 (chkZ O L)) ∧ Below u.heap.size u w') := Lib.hid (fun u hu => refCheck_any (hs1.below hu))
  obtain ⟨x, hx⟩ : ∃ x, x = chkZ O L := ⟨_, rfl⟩
  rw [← hx] at CC CR
  have c1 : W1.cell? ⟨gz, 1, none⟩ = some (.slice az nz cz) := cell_of_row W1 gz 1 _ _ _ hr1
  clear hx hs1 hz hI hk hb1 hr1
  unfold zV
  go_enter Try.func3, Try.ntmps3
  go_upto_region 1 with fail
  rw [← hW1]
  rw [← hgz]
  clear hW1 hgz
  by_cases hn : 110 < (nz : Int)
  · go_wp2_with (go_at_call 11; refine (HLV.out _).mono ?_; rintro e w2 ⟨rfl, hb⟩; have HBE := Lib.hid (HB1.out.trans (hb.mono HB1.out.size)); clear hb)
    go_ret
    exact ⟨rfl, HBE.out⟩
  · go_upto_region 3 with fail
    clear c1 hn
    refine Roll.region_f 14 24 Dzk3 Lzk3 [(1, .slice a n c), (2, .pointer (some ⟨gz, 0, none⟩))] (fun p => Below W1.heap.size W1 p) (fun p p2 => Below p.heap.size p p2) [fun vv p => vv = .agg #[.int .i64 O, .slice az nz cz], fun vv p => vv = .int .i64 x, fun vv p => vv = .agg #[.int .i64 O, .slice az nz cz], fun vv p => vv = .int .i64 x, fun vv p => vv = .bool true, fun vv p => vv = .bool true, fun vv p => vv = .slice a n c, fun vv p => ∃ a9 n9 c9, vv = zV (zoneO l) a9 n9 c9 ∧ Ss (fun _ => True) p a9 n9 c9 (zoneL l), fun vv p => vv = .int .i64 0, fun vv p => vv = .bool true, fun vv p => vv = .bool true, fun vv p => vv = .bool true, fun vv p => vv = .bool true, fun vv p => vv = .bool true] (by kernel_rfl) (by kernel_rfl) rfl ⟨rfl, rfl, trivial⟩ ((Below.refl _ _).drew) ?_ ?_ ?_
    · exact ⟨fun _ _ _ _ h => h, fun _ _ _ _ h => h, fun _ _ _ _ h => h, fun _ _ _ _ h => h, fun _ _ _ _ h => h, fun _ _ _ _ h => h, fun _ _ _ _ h => h, fun _ _ _ hs h => by obtain ⟨a9, n9, c9, e, h9⟩ := h; exact ⟨a9, n9, c9, e, h9.below hs⟩, fun _ _ _ _ h => h, fun _ _ _ _ h => h, fun _ _ _ _ h => h, fun _ _ _ _ h => h, fun _ _ _ _ h => h, fun _ _ _ _ h => h, trivial⟩
    · intro b0 hN hlv
      refine ⟨?_, ?_, ?_, ?_, ?_, ?_, ?_, ?_, ?_, ?_, ?_, ?_, ?_, ?_, trivial⟩
      · intro vs p hI hp
        have e2 : (Roll.putD Dzk3 vs [] b0).eval (.tmp 2) = .pointer (some ⟨gz, 0, none⟩) := (Roll.eval_old rfl).trans (hlv.at 1 (2, .pointer (some ⟨gz, 0, none⟩)) rfl)
        clear hp hlv hN
        unfold Roll.Goes
        simp only [Lzk3, List.getD_cons_zero, List.getD_cons_succ]
        generalize Roll.putD Dzk3 vs [] b0 = a1 at *
        have ldz := run_loadZone ((hI.block gz HGZL.out).trans HR.out)
        refine Roll.goes_val (w' := p) (.agg #[.int .i64 O, .slice az nz cz]) rfl ?_ ⟨hI, Below.refl _ _, rfl⟩
        (have ec : ∀ x, a1.eval (.const x) = x := fun _ => rfl); (have ef : ∀ x, a1.eval (.func x) = .func (.func x) #[] #[] := fun _ => rfl); generalize a1.eval = ρ at *
        skip
        go_simp <;> (intros; first | (exfalso; omega) | rfl | omega)
      · intro vs p hI hp
        have h0 : (vs 0) = .agg #[.int .i64 O, .slice az nz cz] := hp 0 (by simp [Lzk3])
        have e10 : (Roll.putD Dzk3 vs [0] b0).eval (.tmp 10) = .agg #[.int .i64 O, .slice az nz cz] := (Roll.eval_new 0 rfl (by decide) (by decide) (by omega)).trans h0
        clear hp hlv hN
        unfold Roll.Goes
        simp only [Lzk3, List.getD_cons_zero, List.getD_cons_succ]
        generalize Roll.putD Dzk3 vs [0] b0 = a1 at *
        refine Roll.goes_call 12 #[.agg #[.int .i64 O, .slice az nz cz]] p rfl (by have ec : ∀ x, a1.eval (.const x) = x := fun _ => rfl; have ef : ∀ x, a1.eval (.func x) = .func (.func x) #[] #[] := fun _ => rfl; generalize a1.eval = ρ at *; go_simp) ?_
        refine (CC.out p hI).mono ?_
        rintro q p2 ⟨rfl, hb⟩
        exact ⟨_, rfl, hI.trans (hb.mono hI.size), hb, rfl⟩
      · intro vs p hI hp
        have e2 : (Roll.putD Dzk3 vs [] b0).eval (.tmp 2) = .pointer (some ⟨gz, 0, none⟩) := (Roll.eval_old rfl).trans (hlv.at 1 (2, .pointer (some ⟨gz, 0, none⟩)) rfl)
        clear hp hlv hN
        unfold Roll.Goes
        simp only [Lzk3, List.getD_cons_zero, List.getD_cons_succ]
        generalize Roll.putD Dzk3 vs [] b0 = a1 at *
        have ldz := run_loadZone ((hI.block gz HGZL.out).trans HR.out)
        refine Roll.goes_val (w' := p) (.agg #[.int .i64 O, .slice az nz cz]) rfl ?_ ⟨hI, Below.refl _ _, rfl⟩
        (have ec : ∀ x, a1.eval (.const x) = x := fun _ => rfl); (have ef : ∀ x, a1.eval (.func x) = .func (.func x) #[] #[] := fun _ => rfl); generalize a1.eval = ρ at *
        skip
        go_simp <;> (intros; first | (exfalso; omega) | rfl | omega)
      · intro vs p hI hp
        have h2 : (vs 2) = .agg #[.int .i64 O, .slice az nz cz] := hp 2 (by simp [Lzk3])
        have e12 : (Roll.putD Dzk3 vs [2] b0).eval (.tmp 12) = .agg #[.int .i64 O, .slice az nz cz] := (Roll.eval_new 2 rfl (by decide) (by decide) (by omega)).trans h2
        clear hp hlv hN
        unfold Roll.Goes
        simp only [Lzk3, List.getD_cons_zero, List.getD_cons_succ]
        generalize Roll.putD Dzk3 vs [2] b0 = a1 at *
        refine Roll.goes_call 13 #[.agg #[.int .i64 O, .slice az nz cz]] p rfl (by have ec : ∀ x, a1.eval (.const x) = x := fun _ => rfl; have ef : ∀ x, a1.eval (.func x) = .func (.func x) #[] #[] := fun _ => rfl; generalize a1.eval = ρ at *; go_simp) ?_
        refine (CR.out p hI).mono ?_
        rintro q p2 ⟨rfl, hb⟩
        exact ⟨_, rfl, hI.trans (hb.mono hI.size), hb, rfl⟩
      · intro vs p hI hp
        have h1 : (vs 1) = .int .i64 x := hp 1 (by simp [Lzk3])
        have h3 : (vs 3) = .int .i64 x := hp 3 (by simp [Lzk3])
        have e11 : (Roll.putD Dzk3 vs [1, 3] b0).eval (.tmp 11) = .int .i64 x := (Roll.eval_new 1 rfl (by decide) (by decide) (by omega)).trans h1
        have e13 : (Roll.putD Dzk3 vs [1, 3] b0).eval (.tmp 13) = .int .i64 x := (Roll.eval_new 3 rfl (by decide) (by decide) (by omega)).trans h3
        clear hp hlv hN
        unfold Roll.Goes
        simp only [Lzk3, List.getD_cons_zero, List.getD_cons_succ]
        generalize Roll.putD Dzk3 vs [1, 3] b0 = a1 at *
        refine Roll.goes_val (w' := p) (.bool true) rfl ?_ ⟨hI, Below.refl _ _, rfl⟩
        (have ec : ∀ x, a1.eval (.const x) = x := fun _ => rfl); (have ef : ∀ x, a1.eval (.func x) = .func (.func x) #[] #[] := fun _ => rfl); generalize a1.eval = ρ at *
        clear h1 h3
        go_simp <;> (intros; first | (exfalso; omega) | rfl | omega)
      · intro vs p hI hp
        have h4 : (vs 4) = .bool true := hp 4 (by simp [Lzk3])
        have e14 : (Roll.putD Dzk3 vs [4] b0).eval (.tmp 14) = .bool true := (Roll.eval_new 4 rfl (by decide) (by decide) (by omega)).trans h4
        clear hp hlv hN
        unfold Roll.Goes
        simp only [Lzk3, List.getD_cons_zero, List.getD_cons_succ]
        generalize Roll.putD Dzk3 vs [4] b0 = a1 at *
        refine Roll.goes_val (w' := p) (.bool true) rfl ?_ ⟨hI, Below.refl _ _, rfl⟩
        (have ec : ∀ x, a1.eval (.const x) = x := fun _ => rfl); (have ef : ∀ x, a1.eval (.func x) = .func (.func x) #[] #[] := fun _ => rfl); generalize a1.eval = ρ at *
        clear h4
        go_simp <;> (intros; first | (exfalso; omega) | rfl | omega)
      · intro vs p hI hp
        have h5 : (vs 5) = .bool true := hp 5 (by simp [Lzk3])
        have e1 : (Roll.putD Dzk3 vs [5] b0).eval (.tmp 1) = .slice a n c := (Roll.eval_old rfl).trans (hlv.at 0 (1, .slice a n c) rfl)
        clear hp hlv hN
        refine ⟨fun hg => ?_, fun hg => absurd h5 hg⟩
        clear hg
        unfold Roll.Goes
        simp only [Lzk3, List.getD_cons_zero, List.getD_cons_succ]
        generalize Roll.putD Dzk3 vs [5] b0 = a1 at *
        refine Roll.goes_val (w' := p) (.slice a n c) rfl ?_ ⟨hI, Below.refl _ _, rfl⟩
        (have ec : ∀ x, a1.eval (.const x) = x := fun _ => rfl); (have ef : ∀ x, a1.eval (.func x) = .func (.func x) #[] #[] := fun _ => rfl); generalize a1.eval = ρ at *
        clear h5
        go_simp <;> (intros; first | (exfalso; omega) | rfl | omega)
      · intro vs p hI hp
        have h6 : (vs 6) = .slice a n c := hp 6 (by simp [Lzk3])
        have h5 : (vs 5) = .bool true := hp 5 (by simp [Lzk3])
        have e16 : (Roll.putD Dzk3 vs [6, 5] b0).eval (.tmp 16) = .slice a n c := (Roll.eval_new 6 rfl (by decide) (by decide) (by omega)).trans h6
        clear hp hlv hN
        refine ⟨fun hg => ?_, fun hg => absurd h5 hg⟩
        clear hg
        unfold Roll.Goes
        simp only [Lzk3, List.getD_cons_zero, List.getD_cons_succ]
        generalize Roll.putD Dzk3 vs [6, 5] b0 = a1 at *
        refine Roll.goes_call 14 #[.slice a n c] p rfl (by have ec : ∀ x, a1.eval (.const x) = x := fun _ => rfl; have ef : ∀ x, a1.eval (.func x) = .func (.func x) #[] #[] := fun _ => rfl; generalize a1.eval = ρ at *; go_simp) ?_
        refine (zone_any (HIS.out.kept (Kept.of_below (fun _ => False) (HB1.out.trans (hI.mono HB1.out.size))) (fun _ _ _ h => h)) HK.out).mono ?_
        rintro q p2 ⟨a9, n9, c9, rfl, hs, hb⟩
        exact ⟨_, rfl, hI.trans (hb.mono hI.size), hb, a9, n9, c9, rfl, hs.dom (fun _ _ => trivial)⟩
      · intro vs p hI hp
        have h7 : ∃ a9 n9 c9, (vs 7) = zV (zoneO l) a9 n9 c9 ∧ Ss (fun _ => True) p a9 n9 c9 (zoneL l) := hp 7 (by simp [Lzk3])
        have h5 : (vs 5) = .bool true := hp 5 (by simp [Lzk3])
        have e17 : (Roll.putD Dzk3 vs [7, 5] b0).eval (.tmp 17) = vs 7 := (Roll.eval_new 7 rfl (by decide) (by decide) (by omega))
        clear hp hlv hN
        refine ⟨fun hg => ?_, fun hg => absurd h5 hg⟩
        clear hg
        unfold Roll.Goes
        simp only [Lzk3, List.getD_cons_zero, List.getD_cons_succ]
        generalize Roll.putD Dzk3 vs [7, 5] b0 = a1 at *
        obtain ⟨a9, n9, c9, hv7, hs7⟩ := h7
        rw [hv7] at e17
        refine Roll.goes_call 12 #[zV (zoneO l) a9 n9 c9] p rfl (by have ec : ∀ x, a1.eval (.const x) = x := fun _ => rfl; have ef : ∀ x, a1.eval (.func x) = .func (.func x) #[] #[] := fun _ => rfl; generalize a1.eval = ρ at *; go_simp) ?_
        refine (check_any hs7).mono ?_
        rintro q p2 ⟨rfl, hb⟩
        exact ⟨_, rfl, hI.trans (hb.mono hI.size), hb, by rw [chk_zone]; rfl⟩
      · intro vs p hI hp
        have h8 : (vs 8) = .int .i64 0 := hp 8 (by simp [Lzk3])
        have h5 : (vs 5) = .bool true := hp 5 (by simp [Lzk3])
        have e18 : (Roll.putD Dzk3 vs [8, 5] b0).eval (.tmp 18) = .int .i64 0 := (Roll.eval_new 8 rfl (by decide) (by decide) (by omega)).trans h8
        clear hp hlv hN
        refine ⟨fun hg => ?_, fun hg => absurd h5 hg⟩
        clear hg
        unfold Roll.Goes
        simp only [Lzk3, List.getD_cons_zero, List.getD_cons_succ]
        generalize Roll.putD Dzk3 vs [8, 5] b0 = a1 at *
        refine Roll.goes_val (w' := p) (.bool true) rfl ?_ ⟨hI, Below.refl _ _, rfl⟩
        (have ec : ∀ x, a1.eval (.const x) = x := fun _ => rfl); (have ef : ∀ x, a1.eval (.func x) = .func (.func x) #[] #[] := fun _ => rfl); generalize a1.eval = ρ at *
        clear h8 h5
        go_simp <;> (intros; first | (exfalso; omega) | rfl | omega)
      · intro vs p hI hp
        have h5 : (vs 5) = .bool true := hp 5 (by simp [Lzk3])
        have h9 : (vs 9) = .bool true := hp 9 (by simp [Lzk3])
        have e15 : (Roll.putD Dzk3 vs [5, 9] b0).eval (.tmp 15) = .bool true := (Roll.eval_new 5 rfl (by decide) (by decide) (by omega)).trans h5
        have e19 : (Roll.putD Dzk3 vs [5, 9] b0).eval (.tmp 19) = .bool true := (Roll.eval_new 9 rfl (by decide) (by decide) (by omega)).trans h9
        clear hp hlv hN
        unfold Roll.Goes
        simp only [Lzk3, List.getD_cons_zero, List.getD_cons_succ]
        generalize Roll.putD Dzk3 vs [5, 9] b0 = a1 at *
        refine Roll.goes_val (w' := p) (.bool true) rfl ?_ ⟨hI, Below.refl _ _, rfl⟩
        (have ec : ∀ x, a1.eval (.const x) = x := fun _ => rfl); (have ef : ∀ x, a1.eval (.func x) = .func (.func x) #[] #[] := fun _ => rfl); generalize a1.eval = ρ at *
        clear h5 h9
        go_simp <;> (intros; first | (exfalso; omega) | rfl | omega)
      · intro vs p hI hp
        have h10 : (vs 10) = .bool true := hp 10 (by simp [Lzk3])
        have e20 : (Roll.putD Dzk3 vs [10] b0).eval (.tmp 20) = .bool true := (Roll.eval_new 10 rfl (by decide) (by decide) (by omega)).trans h10
        clear hp hlv hN
        unfold Roll.Goes
        simp only [Lzk3, List.getD_cons_zero, List.getD_cons_succ]
        generalize Roll.putD Dzk3 vs [10] b0 = a1 at *
        refine Roll.goes_val (w' := p) (.bool true) rfl ?_ ⟨hI, Below.refl _ _, rfl⟩
        (have ec : ∀ x, a1.eval (.const x) = x := fun _ => rfl); (have ef : ∀ x, a1.eval (.func x) = .func (.func x) #[] #[] := fun _ => rfl); generalize a1.eval = ρ at *
        clear h10
        go_simp <;> (intros; first | (exfalso; omega) | rfl | omega)
      · intro vs p hI hp
        have h11 : (vs 11) = .bool true := hp 11 (by simp [Lzk3])
        clear hp hlv hN
        refine ⟨fun hg => ?_, fun hg => absurd h11 hg⟩
        clear hg
        unfold Roll.Goes
        simp only [Lzk3, List.getD_cons_zero, List.getD_cons_succ]
        generalize Roll.putD Dzk3 vs [11] b0 = a1 at *
        refine Roll.goes_call 11 #[] p rfl (by have ec : ∀ x, a1.eval (.const x) = x := fun _ => rfl; have ef : ∀ x, a1.eval (.func x) = .func (.func x) #[] #[] := fun _ => rfl; generalize a1.eval = ρ at *; go_simp) ?_
        refine (HLV.out p).mono ?_
        rintro q p2 ⟨rfl, hb⟩
        exact ⟨_, rfl, hI.trans (hb.mono hI.size), hb, rfl⟩
      · intro vs p hI hp
        have h11 : (vs 11) = .bool true := hp 11 (by simp [Lzk3])
        have h12 : (vs 12) = .bool true := hp 12 (by simp [Lzk3])
        have e21 : (Roll.putD Dzk3 vs [11, 12] b0).eval (.tmp 21) = .bool true := (Roll.eval_new 11 rfl (by decide) (by decide) (by omega)).trans h11
        have e22 : (Roll.putD Dzk3 vs [11, 12] b0).eval (.tmp 22) = .bool true := (Roll.eval_new 12 rfl (by decide) (by decide) (by omega)).trans h12
        clear hp hlv hN
        unfold Roll.Goes
        simp only [Lzk3, List.getD_cons_zero, List.getD_cons_succ]
        generalize Roll.putD Dzk3 vs [11, 12] b0 = a1 at *
        refine Roll.goes_val (w' := p) (.bool true) rfl ?_ ⟨hI, Below.refl _ _, rfl⟩
        (have ec : ∀ x, a1.eval (.const x) = x := fun _ => rfl); (have ef : ∀ x, a1.eval (.func x) = .func (.func x) #[] #[] := fun _ => rfl); generalize a1.eval = ρ at *
        clear h11 h12
        go_simp <;> (intros; first | (exfalso; omega) | rfl | omega)
    · intro vs p hI hR
      have h0 : (vs 0) = .agg #[.int .i64 O, .slice az nz cz] := hR 0 (by omega)
      have h1 : (vs 1) = .int .i64 x := hR 1 (by omega)
      have h2 : (vs 2) = .agg #[.int .i64 O, .slice az nz cz] := hR 2 (by omega)
      have h3 : (vs 3) = .int .i64 x := hR 3 (by omega)
      have h4 : (vs 4) = .bool true := hR 4 (by omega)
      have h5 : (vs 5) = .bool true := hR 5 (by omega)
      have h6 : (vs 6) = .slice a n c := hR 6 (by omega)
      have h7 : ∃ a9 n9 c9, (vs 7) = zV (zoneO l) a9 n9 c9 ∧ Ss (fun _ => True) p a9 n9 c9 (zoneL l) := hR 7 (by omega)
      have h8 : (vs 8) = .int .i64 0 := hR 8 (by omega)
      have h9 : (vs 9) = .bool true := hR 9 (by omega)
      have h10 : (vs 10) = .bool true := hR 10 (by omega)
      have h11 : (vs 11) = .bool true := hR 11 (by omega)
      have h12 : (vs 12) = .bool true := hR 12 (by omega)
      have h13 : (vs 13) = .bool true := hR 13 (by omega)
      clear hR
      simp only [List.range_succ, List.range_zero, List.nil_append, List.cons_append, Roll.putD, Act.put, List.getD_cons_zero, List.getD_cons_succ, List.setIfInBounds_toArray, List.set_cons_zero, List.set_cons_succ, List.drop_succ_cons, List.drop_zero, Dzk3]
      simp only [h0, h1, h2, h3, h4, h5, h6, h8, h9, h10, h11, h12, h13]
      clear h0 h1 h2 h3 h4 h5 h6 h8 h9 h10 h11 h12 h13
      have HBE := Lib.hid (HB1.out.trans (hI.mono HB1.out.size))
      clear hI
      go_wp2_with fail
      go_ret
      exact ⟨rfl, HBE.out⟩
end Go.Proofs.Ytcdjilnlmihnhaa

/-
  Texts Q7, one behind the other.
-/
import Derived.WalkKit
import Derived.WalkSpells
import Derived.WalkLawsBesides
import Derived.Laws.AppendOwn
import Derived.Laws.OwnMore
import Derived.Deep.AppendSrc
import Derived.Deep.MidRow
import Derived.Lib.Hide
import Derived.Deep.QuietTactic
import Derived.BigQuiet
import Derived.Laws.ResultCell
import GoSem.Claim
import Derived.Deep.CutBlock
import Derived.OwnWalk
import Derived.Orders
import Derived.Tactics
import Derived.Maps.RangeRun
import Derived.Maps.Range
import Derived.Maps.OwnOps
import Derived.Maps.RangeWalk
import Derived.Deep.Cut
import Derived.Deep.RegionWith
import Derived.Deep.DrawnRows
import Derived.StillTailTactics
import Derived.Carry
import Derived.Laws.CopyOwn
import Derived.Lib.AppendZerosOnto
import Derived.Laws.BytesString
import Derived.Laws.AppendOwnNone
import Derived.ProofKit
import Derived.OpenShut
import Derived.Deep.Slices
import Derived.Deep.Fields
import Derived.JoinedCond
import Derived.Laws.ShiftsVarLaws
import Derived.Laws.BitsAllLaws
import Derived.Test.YthffegfcgmhppaaRows
import Derived.Test.YthffegfcgmhppaaZJ308
namespace Go.Proofs.Ythffegfcgmhppaa
open Go.RowKit
set_option linter.unusedSimpArgs false
set_option linter.unusedVariables false
attribute [local go_sem ↓] exec_loadAct exec_at_zero' exec_at_succ' Go.wp_at_zero Go.wp_at_succ
def DofT16 : List (Option Tmp) := [some 90, some 91, some 92, some 93, some 94, some 95, some 96, some 97, some 98, some 99, some 100, some 101, some 102, some 103, some 104, some 105, some 106, some 107, some 108, some 109, some 110, some 111, some 112, some 113, some 114, some 8]
def LofT16 : List (List Nat) := [[], [0], [1], [2], [3, 2], [2, 4], [5], [6], [7, 6], [8, 6], [9, 6], [6, 10], [11], [12], [13, 12], [12], [15, 12], [16, 12], [17, 12], [18, 12], [14, 19, 12], [12, 20], [21], [22], [22, 23], [24]]
def DofT10 : List (Option Tmp) := [some 38, some 39, some 40, some 41, some 42, some 43, some 44, some 45, some 46, some 37, some 47, some 48, some 11, some 12]
def LofT10 : List (List Nat) := [[], [0], [1], [2], [], [4], [5], [6], [3, 7], [8], [9], [9], [10], [11]]
def DofT15 : List (Option Tmp) := [some 79, some 80, some 81, some 82, some 83, some 84, some 85, some 86, some 87, some 78, some 88, some 89, some 13, some 14]
def LofT15 : List (List Nat) := [[], [0], [1], [2], [], [4], [5], [6], [3, 7], [8], [9], [9], [10], [11]]
def DofT14 : List (Option Tmp) := [some 66, some 67, some 68, some 69, some 70, some 71, some 72, some 73, some 74, some 75, some 76, some 77]
def LofT14 : List (List Nat) := [[], [0], [1], [2], [], [], [5], [6], [7], [8], [4, 9], [3, 10]]
/-- of six objects the third and the last are kept -/
theorem Lv.two6 {w0 w : World} {a b c d e f : Obj} (h : Lv w0 w [a, b, c, d, e, f]) : Lv w0 w [c, f] :=
  h.pick [c, f] (fun i => if i = 0 then 2 else 5) (fun i j hi hj => by
    have hi : i < 2 := hi
    have hj : j < 2 := hj
    intro e
    split at e <;> split at e <;> omega) (fun i hi => by
    have hi : i < 2 := hi
    have hi3 : i = 0 ∨ i = 1 := by omega
    rcases hi3 with rfl | rfl <;> rfl)
theorem Lv.two4 {w0 w : World} {a b c d : Obj} (h : Lv w0 w [a, b, c, d]) : Lv w0 w [a, d] :=
  h.pick [a, d] (fun i => if i = 0 then 0 else 3) (fun i j hi hj => by
    have hi : i < 2 := hi
    have hj : j < 2 := hj
    intro e
    split at e <;> split at e <;> omega) (fun i hi => by
    have hi : i < 2 := hi
    have hi3 : i = 0 ∨ i = 1 := by omega
    rcases hi3 with rfl | rfl <;> rfl)
set_option maxRecDepth 100000 in
set_option maxHeartbeats 16000000 in
theorem walformats_any (s : Int) (aa : Option Addr) (an ac : Nat) (ms : List AM) (ag : Bool) (ta : Option Addr) (tn tc : Nat) (tl : List Int) (w : World) (s1 : -9223372036854775808 ≤ s) (s2 : s ≤ 9223372036854775807) (hA : Acts (Old w) w aa an ac ms) (hI : Is (Old w) w ta tn tc tl) (hl64 : Ok64 tl) :
    Calls Try.prog 6 #[.int .i64 s, .slice aa an ac, .bool ag, .slice ta tn tc] w fun e w' => e = .returned (.bool true) ∧ Below w.heap.size w w' := by
  obtain ⟨n, hn⟩ : ∃ n, n = bgN s := ⟨_, rfl⟩
  have hnb := bgN_bd s
  have HBG := Lib.hid (begin_lv (Lv.refl w) s s1 s2)
  rw [← hn] at hnb HBG
  obtain ⟨f1, f2, f3, f4, f5, f6⟩ := bg_fine n hnb.1 hnb.2
  have HP0 := Lib.hid (begin_past n hnb.1 hnb.2)
  have HF0 : Hid ((bgD n).on = true ∧ (bgD n).fuse = 0) := Lib.hid ⟨f4, f5⟩
  have hga0 := f3.ga
  have HGA0 : Hid (GA 1 n (bgD n) 2 128 []) := Lib.hid hga0
  have HA := Lib.hid hA
  have HMS := Lib.hid hA.1
  obtain ⟨DS, hDS⟩ : ∃ DS, DS = n + 2 := ⟨_, rfl⟩
  have hw2 : IntKind.i64.wrap ((n : Int) + 2) = (DS : Int) := by rw [i64_id _ (by omega) (by omega)]; omega
  rw [← hDS] at HP0
  have hn15 := hnb.2
  have hDS2 : 1 ≤ DS ∧ DS ≤ 4096 := by omega
  have HTN : Hid (∀ u, Below w.heap.size w u → Is (Old w) u ta tn tc tl) := Lib.hid (fun u hu => hI.kept (Kept.of_below (fun x => w.heap.size ≤ x) hu) (fun x hx ho h => by have : x < w.heap.size := ho; omega))
  have H64 := Lib.hid hl64
  have HDS := Lib.hid hDS2
  have HNB := Lib.hid hnb
  have hac : an ≤ ac := hA.2.1.2.1
  have ham : ac ≤ 9223372036854775807 := hA.2.1.2.2.1
  have HTO : Hid (∀ u L, Lv w u L → Calls Try.prog 25 #[.slice ta tn tc, .int .i64 (DS : Int)] u fun x w' => ∃ v ts, x = .returned v ∧ Lv w w' (tornO v ts :: L)) := Lib.hid (fun u L hl => (torn_any (Old w) ta tn tc tl DS u (HTN.out u hl.args) H64.out HDS.out.1 HDS.out.2).mono (fun e w' ⟨v, ts, he, _, hlv⟩ => ⟨v, ts, he, hl.onto hlv⟩))
  clear hA hI hl64 hn f1 f2 f3 f4 f5 f6 hDS hDS2 hga0 hnb
  go_enter Try.func6, Try.ntmps6
  go_upto_region 4 with (go_at_call 23; refine HBG.out.mono ?_; rintro e w1 ⟨gp, g, gl, rfl, hl⟩; have HL1 := Lib.hid hl; clear hl HBG)
  have HLa : Hid (Lv w w1 (PL gp g gl n (.slice none 0 0) (mFresh 1 n) (bgD n) false [])) := Lib.hid HL1.out.recs0.swap01
  clear HL1
  go_upto_if 19 with fail
  go_cut [8] from 10 (fun b wx => ∃ (g2 : Nat) (v : Value) (sy : Nat) (r : Bool) (d2 : DM), Lv w wx [pastO gp g g2 n v sy r, diskO g d2] ∧ GA 1 n d2 2 128 [])
  case first =>
    cases ag with
    | false =>
      go_wp2_with fail
      go_meet
      exact ⟨gl, _, _, _, _, HLa.out.two4, HGA0.out⟩
    | true =>
      go_wp2_with fail
      go_loopw [10] (fun t wr => ∃ (i : Nat) (v : Value) (m : LM) (d : DM) (r : Bool), i ≤ 10 ∧ t = .int .i64 (i : Int) ∧ Past 1 DS n m d r ∧ (d.on = true ∧ d.fuse = 0) ∧ Lv w wr (PL gp g gl n v m d r [])) (fun t _ => 10 - (intOf t).toNat)
      case atStart => exact ⟨0, _, mFresh 1 n, bgD n, false, Nat.zero_le _, rfl, HP0.out, HF0.out, HLa.out⟩
      case round =>
        clear HLa HP0 HF0 HGA0
        obtain ⟨i, v, m, d, r, hi, rfl, hP, hF, hL⟩ := hrel
        have q0 := (hL.pastF (i := 0) rfl).2.1
        have HP := Lib.hid hP
        have HF := Lib.hid hF
        have HL := Lib.hid hL
        clear hP hF hL
        by_cases hlt : i < an ∧ i < 10
        · have hia2 : (i : Int) < (an : Int) := by omega
          have hi202 : (i : Int) < 10 := by omega
          have hwi : IntKind.i64.wrap ((i : Int) + 1) = (i : Int) + 1 := i64_id _ (by omega) (by omega)
          have him : i < ms.length := by rw [HMS.out]; exact hlt.1
          obtain ⟨mo, hmo⟩ : ∃ mo, mo = ms[i]'him := ⟨_, rfl⟩
          have hbw := HL.out.args
          obtain ⟨b, off, -, hbs, rfl, hcell⟩ := (HA.out.kept (Kept.of_below (fun _ => False) hbw) (fun _ _ _ h => h)).at (by omega)
          have hr := hcell i him
          have hmk := (HA.out.kept (Kept.of_below (fun _ => False) hbw) (fun _ _ _ h => h)).2.2 mo (by rw [hmo]; exact List.getElem_mem _)
          rw [← hmo] at hr
          obtain ⟨ob, hob⟩ : ∃ ob, ob = off + i * 3 := ⟨_, rfl⟩
          rw [← hob] at hr
          have hob2 : off + i * 3 = ob := hob.symm
          have ld0 := run_loadAct hr
          have HMK := Lib.hid hmk
          clear hcell hr hmk hmo hob hbw q0 hlt
          go_wp2_with (have x1 := HL.out; go_at_call 26; refine (act_lv (OT := []) x1 HP.out HF.out.1 _ mo HMK.out).mono ?_; rintro e w4 ⟨rfl, v', m', d', r', hP', -, hf', hl'⟩; have HP4 := Lib.hid hP'; have HF4 := Lib.hid (hf' HF.out.2); have HL4 := Lib.hid hl'; clear hP' hf' hl' x1 HL)
          go_roundw
          case rel => exact ⟨i + 1, v', m', d', r', by omega, by go_num, HP4.out, HF4.out, HL4.out⟩
          case measure => simp [intOf]; omega
        · have HFM := Lib.hid (fmt_fine 1 n d HF.out.1 HF.out.2 (by rw [HP.out.len]; exact HP.out.fit.1) HNB.out.1 (by have := HNB.out.2; omega) (HP.out.live HF.out.1).ok)
          obtain ⟨d2, hd2⟩ : ∃ d2, d2 = (fmtR 1 n d).2.2 := ⟨_, rfl⟩
          obtain ⟨MO, hMO⟩ : ∃ MO, MO = mFresh 1 n := ⟨_, rfl⟩
          obtain ⟨LST, hLST⟩ : ∃ LST, LST = PL gp g gl n v m d r [] := ⟨_, rfl⟩
          obtain ⟨LS2, hLS2⟩ : ∃ LS2, LS2 = PL gp g gl n v m d2 r [] := ⟨_, rfl⟩
          have HOP : Hid (∀ u, Lv w u LST → Calls Try.prog 11 #[.pointer (some ⟨g, 0, none⟩), .int .i64 1, .int .i64 (n : Int)] u fun x w' => ∃ gk, x = .returned (.tuple #[.pointer (some ⟨gk, 0, none⟩), .int .i64 0]) ∧ Lv w w' (logO gk g MO :: LS2)) := Lib.hid (fun u hl => by
            rw [hLST] at hl
            obtain ⟨f1, f2, f3, f4, f5, f6⟩ := HFM.out
            have hlen := HP.out.len
            have hfit := HP.out.fit
            refine (format_ok hl (j := 3) rfl 1 n (by omega) (by have := HNB.out.2; omega) (by unfold validB; apply decide_eq_true; have := HNB.out.1; omega) ((HP.out.live HF.out.1).ok.mono (by omega))).mono ?_
            rintro x w' (⟨-, gk, hx, hl2⟩ | ⟨he, -⟩)
            · rw [f2] at hl2; exact ⟨gk, hx, by rw [hMO, hLS2, hd2]; exact hl2⟩
            · rw [f1] at he; exact absurd he (by omega))
          have HPC : Hid (∀ u, Lv w u LST → u.cell? ⟨gp, 0, none⟩ = some (.pointer (some ⟨g, 0, none⟩)) ∧ u.cell? ⟨gp, 2, none⟩ = some (.int .i64 (n : Int))) := Lib.hid (fun u hl => by rw [hLST] at hl; have := hl.pastF (i := 0) rfl; exact ⟨this.2.1, this.2.2.2.1⟩)
          have HL7 : Hid (Lv w wr LST) := Lib.hid (by rw [hLST]; exact HL.out)
          have HGA2 : Hid (GA 1 n d2 2 128 []) := Lib.hid (by rw [hd2]; exact HFM.out.2.2.1.ga)
          have HLS2 := Lib.hid hLS2
          have HMO := Lib.hid hMO
          have hcond : ¬ ((i : Int) < (an : Int)) ∨ ¬ ((i : Int) < 10) := by omega
          clear hd2 hMO hLST hLS2 q0 hlt HL
          rcases hcond with hc | hc
          · have hia3 : (an : Int) ≤ (i : Int) := by omega
            go_upto_region 10 with fail
            refine Roll.region_v 14 115 DofT10 LofT10 [(9, .pointer (some ⟨gp, 0, none⟩))] 8 [true, true, true, false, true, true, true, false, false, true, true, true, true, true] (fun p => Lv w p LST) (fun vv p => ∃ gk, vv = .tuple #[.pointer (some ⟨gk, 0, none⟩), .int .i64 0] ∧ Lv w p (logO gk g MO :: LS2)) (fun p => True) (fun _ _ => True) [fun vv p => (vv 0) = .pointer (some ⟨gp, 0, none⟩), fun vv p => (vv 1) = .pointer (some ⟨gp, 0, none⟩), fun vv p => (vv 2) = .pointer (some ⟨gp, 0, none⟩), fun vv p => (vv 3) = .pointer (some ⟨g, 0, none⟩), fun vv p => (vv 4) = .pointer (some ⟨gp, 0, none⟩), fun vv p => (vv 5) = .pointer (some ⟨gp, 0, none⟩), fun vv p => (vv 6) = .pointer (some ⟨gp, 2, none⟩), fun vv p => (vv 7) = .int .i64 (n : Int), fun vv p => ∃ gk, (vv 8) = .tuple #[.pointer (some ⟨gk, 0, none⟩), .int .i64 0], fun vv p => ∃ gk, (vv 8) = .tuple #[.pointer (some ⟨gk, 0, none⟩), .int .i64 0] ∧ (vv 9) = .tuple #[.pointer (some ⟨gk, 0, none⟩), .int .i64 0], fun vv p => ∃ gk, (vv 9) = .tuple #[.pointer (some ⟨gk, 0, none⟩), .int .i64 0] ∧ (vv 10) = .pointer (some ⟨gk, 0, none⟩), fun vv p => (vv 11) = .int .i64 0, fun vv p => ∃ gk, (vv 10) = .pointer (some ⟨gk, 0, none⟩) ∧ (vv 12) = .pointer (some ⟨gk, 0, none⟩), fun vv p => (vv 13) = .int .i64 0] (by kernel_rfl) (by kernel_rfl) rfl ⟨rfl, trivial⟩ (HL7.out.below (Below.refl _ _).drew) (by decide) (by kernel_rfl) (fun _ _ => trivial) (fun _ _ _ => trivial) (fun _ => trivial) ?_ ?_ ?_
            · exact ⟨fun _ _ _ _ h => h, fun _ _ _ _ h => h, fun _ _ _ _ h => h, fun _ _ _ _ h => h, fun _ _ _ _ h => h, fun _ _ _ _ h => h, fun _ _ _ _ h => h, fun _ _ _ _ h => h, fun _ _ _ _ h => h, fun _ _ _ _ h => h, fun _ _ _ _ h => h, fun _ _ _ _ h => h, fun _ _ _ _ h => h, fun _ _ _ _ h => h, trivial⟩
            · intro b0 hN hlv
              refine ⟨?_, ?_, ?_, ?_, ?_, ?_, ?_, ?_, ?_, ?_, ?_, ?_, ?_, ?_, trivial⟩
              · intro vs p hI0 hp
                have hI := Roll.inw_pure (by decide) rfl hI0
                clear hI0
                have e9 : (Roll.putD DofT10 vs [] b0).eval (.tmp 9) = .pointer (some ⟨gp, 0, none⟩) := (Roll.eval_old rfl).trans (hlv.at 0 (9, .pointer (some ⟨gp, 0, none⟩)) rfl)
                clear hp hlv hN
                unfold Roll.Goes
                simp only [LofT10, List.getD_cons_zero, List.getD_cons_succ]
                generalize Roll.putD DofT10 vs [] b0 = a1 at *
                refine Roll.goes_val (w' := p) (.pointer (some ⟨gp, 0, none⟩)) rfl ?_ ⟨(Roll.outw_pure (by decide) rfl), rfl⟩
                (have ec : ∀ x, a1.eval (.const x) = x := fun _ => rfl); (have ef : ∀ x, a1.eval (.func x) = .func (.func x) #[] #[] := fun _ => rfl); generalize a1.eval = ρ at *
                skip
                go_simp <;> (intros; first | (exfalso; omega) | rfl)
              · intro vs p hI0 hp
                have hI := Roll.inw_pure (by decide) rfl hI0
                clear hI0
                have h0 : (vs 0) = .pointer (some ⟨gp, 0, none⟩) := hp 0 (by simp [LofT10])
                have e38 : (Roll.putD DofT10 vs [0] b0).eval (.tmp 38) = .pointer (some ⟨gp, 0, none⟩) := (Roll.eval_new 0 rfl (by decide) (by decide) (by omega)).trans h0
                clear hp hlv hN
                unfold Roll.Goes
                simp only [LofT10, List.getD_cons_zero, List.getD_cons_succ]
                generalize Roll.putD DofT10 vs [0] b0 = a1 at *
                refine Roll.goes_val (w' := p) (.pointer (some ⟨gp, 0, none⟩)) rfl ?_ ⟨(Roll.outw_pure (by decide) rfl), rfl⟩
                (have ec : ∀ x, a1.eval (.const x) = x := fun _ => rfl); (have ef : ∀ x, a1.eval (.func x) = .func (.func x) #[] #[] := fun _ => rfl); generalize a1.eval = ρ at *
                clear h0
                go_simp <;> (intros; first | (exfalso; omega) | rfl)
              · intro vs p hI0 hp
                have hI := Roll.inw_pure (by decide) rfl hI0
                clear hI0
                have h1 : (vs 1) = .pointer (some ⟨gp, 0, none⟩) := hp 1 (by simp [LofT10])
                have e39 : (Roll.putD DofT10 vs [1] b0).eval (.tmp 39) = .pointer (some ⟨gp, 0, none⟩) := (Roll.eval_new 1 rfl (by decide) (by decide) (by omega)).trans h1
                clear hp hlv hN
                unfold Roll.Goes
                simp only [LofT10, List.getD_cons_zero, List.getD_cons_succ]
                generalize Roll.putD DofT10 vs [1] b0 = a1 at *
                refine Roll.goes_val (w' := p) (.pointer (some ⟨gp, 0, none⟩)) rfl ?_ ⟨(Roll.outw_pure (by decide) rfl), rfl⟩
                (have ec : ∀ x, a1.eval (.const x) = x := fun _ => rfl); (have ef : ∀ x, a1.eval (.func x) = .func (.func x) #[] #[] := fun _ => rfl); generalize a1.eval = ρ at *
                clear h1
                go_simp <;> (intros; first | (exfalso; omega) | rfl)
              · intro vs p hI0 hp
                have hI := Roll.inw_pre (by decide) rfl hI0
                clear hI0
                have h2 : (vs 2) = .pointer (some ⟨gp, 0, none⟩) := hp 2 (by simp [LofT10])
                have e40 : (Roll.putD DofT10 vs [2] b0).eval (.tmp 40) = .pointer (some ⟨gp, 0, none⟩) := (Roll.eval_new 2 rfl (by decide) (by decide) (by omega)).trans h2
                clear hp hlv hN
                unfold Roll.Goes
                simp only [LofT10, List.getD_cons_zero, List.getD_cons_succ]
                generalize Roll.putD DofT10 vs [2] b0 = a1 at *
                have cf := (HPC.out p hI).1
                refine Roll.goes_val (w' := p) (.pointer (some ⟨g, 0, none⟩)) rfl ?_ ⟨Roll.outw_pre (by decide) rfl hI trivial, rfl⟩
                (have ec : ∀ x, a1.eval (.const x) = x := fun _ => rfl); (have ef : ∀ x, a1.eval (.func x) = .func (.func x) #[] #[] := fun _ => rfl); generalize a1.eval = ρ at *
                go_simp <;> (intros; first | (exfalso; omega) | rfl)
              · intro vs p hI0 hp
                have hI := Roll.inw_pure (by decide) rfl hI0
                clear hI0
                have e9 : (Roll.putD DofT10 vs [] b0).eval (.tmp 9) = .pointer (some ⟨gp, 0, none⟩) := (Roll.eval_old rfl).trans (hlv.at 0 (9, .pointer (some ⟨gp, 0, none⟩)) rfl)
                clear hp hlv hN
                unfold Roll.Goes
                simp only [LofT10, List.getD_cons_zero, List.getD_cons_succ]
                generalize Roll.putD DofT10 vs [] b0 = a1 at *
                refine Roll.goes_val (w' := p) (.pointer (some ⟨gp, 0, none⟩)) rfl ?_ ⟨(Roll.outw_pure (by decide) rfl), rfl⟩
                (have ec : ∀ x, a1.eval (.const x) = x := fun _ => rfl); (have ef : ∀ x, a1.eval (.func x) = .func (.func x) #[] #[] := fun _ => rfl); generalize a1.eval = ρ at *
                skip
                go_simp <;> (intros; first | (exfalso; omega) | rfl)
              · intro vs p hI0 hp
                have hI := Roll.inw_pure (by decide) rfl hI0
                clear hI0
                have h4 : (vs 4) = .pointer (some ⟨gp, 0, none⟩) := hp 4 (by simp [LofT10])
                have e42 : (Roll.putD DofT10 vs [4] b0).eval (.tmp 42) = .pointer (some ⟨gp, 0, none⟩) := (Roll.eval_new 4 rfl (by decide) (by decide) (by omega)).trans h4
                clear hp hlv hN
                unfold Roll.Goes
                simp only [LofT10, List.getD_cons_zero, List.getD_cons_succ]
                generalize Roll.putD DofT10 vs [4] b0 = a1 at *
                refine Roll.goes_val (w' := p) (.pointer (some ⟨gp, 0, none⟩)) rfl ?_ ⟨(Roll.outw_pure (by decide) rfl), rfl⟩
                (have ec : ∀ x, a1.eval (.const x) = x := fun _ => rfl); (have ef : ∀ x, a1.eval (.func x) = .func (.func x) #[] #[] := fun _ => rfl); generalize a1.eval = ρ at *
                clear h4
                go_simp <;> (intros; first | (exfalso; omega) | rfl)
              · intro vs p hI0 hp
                have hI := Roll.inw_pure (by decide) rfl hI0
                clear hI0
                have h5 : (vs 5) = .pointer (some ⟨gp, 0, none⟩) := hp 5 (by simp [LofT10])
                have e43 : (Roll.putD DofT10 vs [5] b0).eval (.tmp 43) = .pointer (some ⟨gp, 0, none⟩) := (Roll.eval_new 5 rfl (by decide) (by decide) (by omega)).trans h5
                clear hp hlv hN
                unfold Roll.Goes
                simp only [LofT10, List.getD_cons_zero, List.getD_cons_succ]
                generalize Roll.putD DofT10 vs [5] b0 = a1 at *
                refine Roll.goes_val (w' := p) (.pointer (some ⟨gp, 2, none⟩)) rfl ?_ ⟨(Roll.outw_pure (by decide) rfl), rfl⟩
                (have ec : ∀ x, a1.eval (.const x) = x := fun _ => rfl); (have ef : ∀ x, a1.eval (.func x) = .func (.func x) #[] #[] := fun _ => rfl); generalize a1.eval = ρ at *
                clear h5
                go_simp <;> (intros; first | (exfalso; omega) | rfl)
              · intro vs p hI0 hp
                have hI := Roll.inw_pre (by decide) rfl hI0
                clear hI0
                have h6 : (vs 6) = .pointer (some ⟨gp, 2, none⟩) := hp 6 (by simp [LofT10])
                have e44 : (Roll.putD DofT10 vs [6] b0).eval (.tmp 44) = .pointer (some ⟨gp, 2, none⟩) := (Roll.eval_new 6 rfl (by decide) (by decide) (by omega)).trans h6
                clear hp hlv hN
                unfold Roll.Goes
                simp only [LofT10, List.getD_cons_zero, List.getD_cons_succ]
                generalize Roll.putD DofT10 vs [6] b0 = a1 at *
                have cf := (HPC.out p hI).2
                refine Roll.goes_val (w' := p) (.int .i64 (n : Int)) rfl ?_ ⟨Roll.outw_pre (by decide) rfl hI trivial, rfl⟩
                (have ec : ∀ x, a1.eval (.const x) = x := fun _ => rfl); (have ef : ∀ x, a1.eval (.func x) = .func (.func x) #[] #[] := fun _ => rfl); generalize a1.eval = ρ at *
                go_simp <;> (intros; first | (exfalso; omega) | rfl)
              · intro vs p hI0 hp
                have hI := Roll.inw_k0 rfl hI0
                clear hI0
                have h3 : (vs 3) = .pointer (some ⟨g, 0, none⟩) := hp 3 (by simp [LofT10])
                have h7 : (vs 7) = .int .i64 (n : Int) := hp 7 (by simp [LofT10])
                have e41 : (Roll.putD DofT10 vs [3, 7] b0).eval (.tmp 41) = .pointer (some ⟨g, 0, none⟩) := (Roll.eval_new 3 rfl (by decide) (by decide) (by omega)).trans h3
                have e45 : (Roll.putD DofT10 vs [3, 7] b0).eval (.tmp 45) = .int .i64 (n : Int) := (Roll.eval_new 7 rfl (by decide) (by decide) (by omega)).trans h7
                clear hp hlv hN
                unfold Roll.Goes
                simp only [LofT10, List.getD_cons_zero, List.getD_cons_succ]
                generalize Roll.putD DofT10 vs [3, 7] b0 = a1 at *
                refine Roll.goes_call 11 #[.pointer (some ⟨g, 0, none⟩), .int .i64 1, .int .i64 (n : Int)] p rfl (by have ec : ∀ x, a1.eval (.const x) = x := fun _ => rfl; have ef : ∀ x, a1.eval (.func x) = .func (.func x) #[] #[] := fun _ => rfl; generalize a1.eval = ρ at *; go_simp) ?_
                refine (HOP.out p hI).mono ?_
                rintro y p2 ⟨gk, rfl, hl⟩
                exact ⟨_, rfl, Roll.outw_k0 rfl ⟨gk, rfl, hl⟩ trivial, gk, rfl⟩
              · intro vs p hI0 hp
                have hI := Roll.inw_pure (by decide) rfl hI0
                clear hI0
                have h8 : ∃ gk, (vs 8) = .tuple #[.pointer (some ⟨gk, 0, none⟩), .int .i64 0] := hp 8 (by simp [LofT10])
                have e46 : (Roll.putD DofT10 vs [8] b0).eval (.tmp 46) = vs 8 := (Roll.eval_new 8 rfl (by decide) (by decide) (by omega))
                clear hp hlv hN
                unfold Roll.Goes
                simp only [LofT10, List.getD_cons_zero, List.getD_cons_succ]
                generalize Roll.putD DofT10 vs [8] b0 = a1 at *
                obtain ⟨gk, hv⟩ := h8
                rw [hv] at e46
                refine Roll.goes_val (w' := p) (.tuple #[.pointer (some ⟨gk, 0, none⟩), .int .i64 0]) rfl ?_ ⟨(Roll.outw_pure (by decide) rfl), gk, hv, rfl⟩
                (have ec : ∀ x, a1.eval (.const x) = x := fun _ => rfl); (have ef : ∀ x, a1.eval (.func x) = .func (.func x) #[] #[] := fun _ => rfl); generalize a1.eval = ρ at *
                go_simp <;> (intros; first | (exfalso; omega) | rfl)
              · intro vs p hI0 hp
                have hI := Roll.inw_pure (by decide) rfl hI0
                clear hI0
                have h9 : ∃ gk, (vs 8) = .tuple #[.pointer (some ⟨gk, 0, none⟩), .int .i64 0] ∧ (vs 9) = .tuple #[.pointer (some ⟨gk, 0, none⟩), .int .i64 0] := hp 9 (by simp [LofT10])
                have e37 : (Roll.putD DofT10 vs [9] b0).eval (.tmp 37) = vs 9 := (Roll.eval_new 9 rfl (by decide) (by decide) (by omega))
                clear hp hlv hN
                unfold Roll.Goes
                simp only [LofT10, List.getD_cons_zero, List.getD_cons_succ]
                generalize Roll.putD DofT10 vs [9] b0 = a1 at *
                obtain ⟨gk, -, hv⟩ := h9
                rw [hv] at e37
                refine Roll.goes_val (w' := p) (.pointer (some ⟨gk, 0, none⟩)) rfl ?_ ⟨(Roll.outw_pure (by decide) rfl), gk, hv, rfl⟩
                (have ec : ∀ x, a1.eval (.const x) = x := fun _ => rfl); (have ef : ∀ x, a1.eval (.func x) = .func (.func x) #[] #[] := fun _ => rfl); generalize a1.eval = ρ at *
                go_simp <;> (intros; first | (exfalso; omega) | rfl)
              · intro vs p hI0 hp
                have hI := Roll.inw_pure (by decide) rfl hI0
                clear hI0
                have h9 : ∃ gk, (vs 8) = .tuple #[.pointer (some ⟨gk, 0, none⟩), .int .i64 0] ∧ (vs 9) = .tuple #[.pointer (some ⟨gk, 0, none⟩), .int .i64 0] := hp 9 (by simp [LofT10])
                have e37 : (Roll.putD DofT10 vs [9] b0).eval (.tmp 37) = vs 9 := (Roll.eval_new 9 rfl (by decide) (by decide) (by omega))
                clear hp hlv hN
                unfold Roll.Goes
                simp only [LofT10, List.getD_cons_zero, List.getD_cons_succ]
                generalize Roll.putD DofT10 vs [9] b0 = a1 at *
                obtain ⟨gk, -, hv⟩ := h9
                rw [hv] at e37
                refine Roll.goes_val (w' := p) (.int .i64 0) rfl ?_ ⟨(Roll.outw_pure (by decide) rfl), rfl⟩
                (have ec : ∀ x, a1.eval (.const x) = x := fun _ => rfl); (have ef : ∀ x, a1.eval (.func x) = .func (.func x) #[] #[] := fun _ => rfl); generalize a1.eval = ρ at *
                go_simp <;> (intros; first | (exfalso; omega) | rfl)
              · intro vs p hI0 hp
                have hI := Roll.inw_pure (by decide) rfl hI0
                clear hI0
                have h10 : ∃ gk, (vs 9) = .tuple #[.pointer (some ⟨gk, 0, none⟩), .int .i64 0] ∧ (vs 10) = .pointer (some ⟨gk, 0, none⟩) := hp 10 (by simp [LofT10])
                have e47 : (Roll.putD DofT10 vs [10] b0).eval (.tmp 47) = vs 10 := (Roll.eval_new 10 rfl (by decide) (by decide) (by omega))
                clear hp hlv hN
                unfold Roll.Goes
                simp only [LofT10, List.getD_cons_zero, List.getD_cons_succ]
                generalize Roll.putD DofT10 vs [10] b0 = a1 at *
                obtain ⟨gk, -, hv⟩ := h10
                rw [hv] at e47
                refine Roll.goes_val (w' := p) (.pointer (some ⟨gk, 0, none⟩)) rfl ?_ ⟨(Roll.outw_pure (by decide) rfl), gk, hv, rfl⟩
                (have ec : ∀ x, a1.eval (.const x) = x := fun _ => rfl); (have ef : ∀ x, a1.eval (.func x) = .func (.func x) #[] #[] := fun _ => rfl); generalize a1.eval = ρ at *
                go_simp <;> (intros; first | (exfalso; omega) | rfl)
              · intro vs p hI0 hp
                have hI := Roll.inw_pure (by decide) rfl hI0
                clear hI0
                have h11 : (vs 11) = .int .i64 0 := hp 11 (by simp [LofT10])
                have e48 : (Roll.putD DofT10 vs [11] b0).eval (.tmp 48) = .int .i64 0 := (Roll.eval_new 11 rfl (by decide) (by decide) (by omega)).trans h11
                clear hp hlv hN
                unfold Roll.Goes
                simp only [LofT10, List.getD_cons_zero, List.getD_cons_succ]
                generalize Roll.putD DofT10 vs [11] b0 = a1 at *
                refine Roll.goes_val (w' := p) (.int .i64 0) rfl ?_ ⟨(Roll.outw_pure (by decide) rfl), rfl⟩
                (have ec : ∀ x, a1.eval (.const x) = x := fun _ => rfl); (have ef : ∀ x, a1.eval (.func x) = .func (.func x) #[] #[] := fun _ => rfl); generalize a1.eval = ρ at *
                clear h11
                go_simp <;> (intros; first | (exfalso; omega) | rfl)
            · intro vs p hI hR
              have h0 : (vs 0) = .pointer (some ⟨gp, 0, none⟩) := hR 0 (by omega)
              have h1 : (vs 1) = .pointer (some ⟨gp, 0, none⟩) := hR 1 (by omega)
              have h2 : (vs 2) = .pointer (some ⟨gp, 0, none⟩) := hR 2 (by omega)
              have h3 : (vs 3) = .pointer (some ⟨g, 0, none⟩) := hR 3 (by omega)
              have h4 : (vs 4) = .pointer (some ⟨gp, 0, none⟩) := hR 4 (by omega)
              have h5 : (vs 5) = .pointer (some ⟨gp, 0, none⟩) := hR 5 (by omega)
              have h6 : (vs 6) = .pointer (some ⟨gp, 2, none⟩) := hR 6 (by omega)
              have h7 : (vs 7) = .int .i64 (n : Int) := hR 7 (by omega)
              have h8 : ∃ gk, (vs 8) = .tuple #[.pointer (some ⟨gk, 0, none⟩), .int .i64 0] := hR 8 (by omega)
              have h9 : ∃ gk, (vs 8) = .tuple #[.pointer (some ⟨gk, 0, none⟩), .int .i64 0] ∧ (vs 9) = .tuple #[.pointer (some ⟨gk, 0, none⟩), .int .i64 0] := hR 9 (by omega)
              have h10 : ∃ gk, (vs 9) = .tuple #[.pointer (some ⟨gk, 0, none⟩), .int .i64 0] ∧ (vs 10) = .pointer (some ⟨gk, 0, none⟩) := hR 10 (by omega)
              have h11 : (vs 11) = .int .i64 0 := hR 11 (by omega)
              have h12 : ∃ gk, (vs 10) = .pointer (some ⟨gk, 0, none⟩) ∧ (vs 12) = .pointer (some ⟨gk, 0, none⟩) := hR 12 (by omega)
              have h13 : (vs 13) = .int .i64 0 := hR 13 (by omega)
              clear hR
              simp only [List.range_succ, List.range_zero, List.nil_append, List.cons_append, Roll.putD, Act.put, List.getD_cons_zero, List.getD_cons_succ, List.setIfInBounds_toArray, List.set_cons_zero, List.set_cons_succ, List.drop_succ_cons, List.drop_zero, DofT10]
              simp only [h0, h1, h2, h3, h4, h5, h6, h7, h11, h13]
              clear h0 h1 h2 h3 h4 h5 h6 h7 h11 h13
              clear h8
              generalize vs 8 = v8 at *; generalize vs 9 = v9 at *; generalize vs 10 = v10 at *; generalize vs 12 = v12 at *
              obtain ⟨gk, rfl, hl8⟩ := hI
              obtain ⟨g9, e8, rfl⟩ := h9
              obtain rfl : g9 = gk := by simpa using e8.symm
              obtain ⟨g10, e9, rfl⟩ := h10
              obtain rfl : g10 = g9 := by simpa using e9.symm
              obtain ⟨g12, e10, rfl⟩ := h12
              obtain rfl : g12 = g10 := by simpa using e10.symm
              clear e8 e9 e10
              have HL9 : Hid (Lv w p (logO g12 g (mFresh 1 n) :: PL gp g gl n v m d2 r [])) := Lib.hid (by rw [← HMO.out, ← HLS2.out]; exact hl8)
              clear hl8 HL7 HOP HPC HLS2 HMO
              go_wp2_with (have x1 := HL9.out; go_at_call 27; refine (records_lv x1 (ii := 0) (m := mFresh 1 n) rfl (Nat.zero_le _) (fun q hq => by cases hq)).mono ?_; rintro e w10 ⟨ra, rc, rfl, hl10⟩; rw [show (mFresh 1 n).recs.length = 0 from rfl] at hl10 ⊢; have HL10 := Lib.hid hl10; clear hl10 x1 HL9)
              go_meet
              exact ⟨_, _, _, _, _, HL10.out.two6, HGA2.out⟩
          · by_cases hia2 : (i : Int) < (an : Int)
            · have hi3 : (10 : Int) ≤ (i : Int) := by omega
              go_upto_region 10 with fail
              refine Roll.region_v 14 115 DofT10 LofT10 [(9, .pointer (some ⟨gp, 0, none⟩))] 8 [true, true, true, false, true, true, true, false, false, true, true, true, true, true] (fun p => Lv w p LST) (fun vv p => ∃ gk, vv = .tuple #[.pointer (some ⟨gk, 0, none⟩), .int .i64 0] ∧ Lv w p (logO gk g MO :: LS2)) (fun p => True) (fun _ _ => True) [fun vv p => (vv 0) = .pointer (some ⟨gp, 0, none⟩), fun vv p => (vv 1) = .pointer (some ⟨gp, 0, none⟩), fun vv p => (vv 2) = .pointer (some ⟨gp, 0, none⟩), fun vv p => (vv 3) = .pointer (some ⟨g, 0, none⟩), fun vv p => (vv 4) = .pointer (some ⟨gp, 0, none⟩), fun vv p => (vv 5) = .pointer (some ⟨gp, 0, none⟩), fun vv p => (vv 6) = .pointer (some ⟨gp, 2, none⟩), fun vv p => (vv 7) = .int .i64 (n : Int), fun vv p => ∃ gk, (vv 8) = .tuple #[.pointer (some ⟨gk, 0, none⟩), .int .i64 0], fun vv p => ∃ gk, (vv 8) = .tuple #[.pointer (some ⟨gk, 0, none⟩), .int .i64 0] ∧ (vv 9) = .tuple #[.pointer (some ⟨gk, 0, none⟩), .int .i64 0], fun vv p => ∃ gk, (vv 9) = .tuple #[.pointer (some ⟨gk, 0, none⟩), .int .i64 0] ∧ (vv 10) = .pointer (some ⟨gk, 0, none⟩), fun vv p => (vv 11) = .int .i64 0, fun vv p => ∃ gk, (vv 10) = .pointer (some ⟨gk, 0, none⟩) ∧ (vv 12) = .pointer (some ⟨gk, 0, none⟩), fun vv p => (vv 13) = .int .i64 0] (by kernel_rfl) (by kernel_rfl) rfl ⟨rfl, trivial⟩ (HL7.out.below (Below.refl _ _).drew) (by decide) (by kernel_rfl) (fun _ _ => trivial) (fun _ _ _ => trivial) (fun _ => trivial) ?_ ?_ ?_
              · exact ⟨fun _ _ _ _ h => h, fun _ _ _ _ h => h, fun _ _ _ _ h => h, fun _ _ _ _ h => h, fun _ _ _ _ h => h, fun _ _ _ _ h => h, fun _ _ _ _ h => h, fun _ _ _ _ h => h, fun _ _ _ _ h => h, fun _ _ _ _ h => h, fun _ _ _ _ h => h, fun _ _ _ _ h => h, fun _ _ _ _ h => h, fun _ _ _ _ h => h, trivial⟩
              · intro b0 hN hlv
                refine ⟨?_, ?_, ?_, ?_, ?_, ?_, ?_, ?_, ?_, ?_, ?_, ?_, ?_, ?_, trivial⟩
                · intro vs p hI0 hp
                  have hI := Roll.inw_pure (by decide) rfl hI0
                  clear hI0
                  have e9 : (Roll.putD DofT10 vs [] b0).eval (.tmp 9) = .pointer (some ⟨gp, 0, none⟩) := (Roll.eval_old rfl).trans (hlv.at 0 (9, .pointer (some ⟨gp, 0, none⟩)) rfl)
                  clear hp hlv hN
                  unfold Roll.Goes
                  simp only [LofT10, List.getD_cons_zero, List.getD_cons_succ]
                  generalize Roll.putD DofT10 vs [] b0 = a1 at *
                  refine Roll.goes_val (w' := p) (.pointer (some ⟨gp, 0, none⟩)) rfl ?_ ⟨(Roll.outw_pure (by decide) rfl), rfl⟩
                  (have ec : ∀ x, a1.eval (.const x) = x := fun _ => rfl); (have ef : ∀ x, a1.eval (.func x) = .func (.func x) #[] #[] := fun _ => rfl); generalize a1.eval = ρ at *
                  skip
                  go_simp <;> (intros; first | (exfalso; omega) | rfl)
                · intro vs p hI0 hp
                  have hI := Roll.inw_pure (by decide) rfl hI0
                  clear hI0
                  have h0 : (vs 0) = .pointer (some ⟨gp, 0, none⟩) := hp 0 (by simp [LofT10])
                  have e38 : (Roll.putD DofT10 vs [0] b0).eval (.tmp 38) = .pointer (some ⟨gp, 0, none⟩) := (Roll.eval_new 0 rfl (by decide) (by decide) (by omega)).trans h0
                  clear hp hlv hN
                  unfold Roll.Goes
                  simp only [LofT10, List.getD_cons_zero, List.getD_cons_succ]
                  generalize Roll.putD DofT10 vs [0] b0 = a1 at *
                  refine Roll.goes_val (w' := p) (.pointer (some ⟨gp, 0, none⟩)) rfl ?_ ⟨(Roll.outw_pure (by decide) rfl), rfl⟩
                  (have ec : ∀ x, a1.eval (.const x) = x := fun _ => rfl); (have ef : ∀ x, a1.eval (.func x) = .func (.func x) #[] #[] := fun _ => rfl); generalize a1.eval = ρ at *
                  clear h0
                  go_simp <;> (intros; first | (exfalso; omega) | rfl)
                · intro vs p hI0 hp
                  have hI := Roll.inw_pure (by decide) rfl hI0
                  clear hI0
                  have h1 : (vs 1) = .pointer (some ⟨gp, 0, none⟩) := hp 1 (by simp [LofT10])
                  have e39 : (Roll.putD DofT10 vs [1] b0).eval (.tmp 39) = .pointer (some ⟨gp, 0, none⟩) := (Roll.eval_new 1 rfl (by decide) (by decide) (by omega)).trans h1
                  clear hp hlv hN
                  unfold Roll.Goes
                  simp only [LofT10, List.getD_cons_zero, List.getD_cons_succ]
                  generalize Roll.putD DofT10 vs [1] b0 = a1 at *
                  refine Roll.goes_val (w' := p) (.pointer (some ⟨gp, 0, none⟩)) rfl ?_ ⟨(Roll.outw_pure (by decide) rfl), rfl⟩
                  (have ec : ∀ x, a1.eval (.const x) = x := fun _ => rfl); (have ef : ∀ x, a1.eval (.func x) = .func (.func x) #[] #[] := fun _ => rfl); generalize a1.eval = ρ at *
                  clear h1
                  go_simp <;> (intros; first | (exfalso; omega) | rfl)
                · intro vs p hI0 hp
                  have hI := Roll.inw_pre (by decide) rfl hI0
                  clear hI0
                  have h2 : (vs 2) = .pointer (some ⟨gp, 0, none⟩) := hp 2 (by simp [LofT10])
                  have e40 : (Roll.putD DofT10 vs [2] b0).eval (.tmp 40) = .pointer (some ⟨gp, 0, none⟩) := (Roll.eval_new 2 rfl (by decide) (by decide) (by omega)).trans h2
                  clear hp hlv hN
                  unfold Roll.Goes
                  simp only [LofT10, List.getD_cons_zero, List.getD_cons_succ]
                  generalize Roll.putD DofT10 vs [2] b0 = a1 at *
                  have cf := (HPC.out p hI).1
                  refine Roll.goes_val (w' := p) (.pointer (some ⟨g, 0, none⟩)) rfl ?_ ⟨Roll.outw_pre (by decide) rfl hI trivial, rfl⟩
                  (have ec : ∀ x, a1.eval (.const x) = x := fun _ => rfl); (have ef : ∀ x, a1.eval (.func x) = .func (.func x) #[] #[] := fun _ => rfl); generalize a1.eval = ρ at *
                  go_simp <;> (intros; first | (exfalso; omega) | rfl)
                · intro vs p hI0 hp
                  have hI := Roll.inw_pure (by decide) rfl hI0
                  clear hI0
                  have e9 : (Roll.putD DofT10 vs [] b0).eval (.tmp 9) = .pointer (some ⟨gp, 0, none⟩) := (Roll.eval_old rfl).trans (hlv.at 0 (9, .pointer (some ⟨gp, 0, none⟩)) rfl)
                  clear hp hlv hN
                  unfold Roll.Goes
                  simp only [LofT10, List.getD_cons_zero, List.getD_cons_succ]
                  generalize Roll.putD DofT10 vs [] b0 = a1 at *
                  refine Roll.goes_val (w' := p) (.pointer (some ⟨gp, 0, none⟩)) rfl ?_ ⟨(Roll.outw_pure (by decide) rfl), rfl⟩
                  (have ec : ∀ x, a1.eval (.const x) = x := fun _ => rfl); (have ef : ∀ x, a1.eval (.func x) = .func (.func x) #[] #[] := fun _ => rfl); generalize a1.eval = ρ at *
                  skip
                  go_simp <;> (intros; first | (exfalso; omega) | rfl)
                · intro vs p hI0 hp
                  have hI := Roll.inw_pure (by decide) rfl hI0
                  clear hI0
                  have h4 : (vs 4) = .pointer (some ⟨gp, 0, none⟩) := hp 4 (by simp [LofT10])
                  have e42 : (Roll.putD DofT10 vs [4] b0).eval (.tmp 42) = .pointer (some ⟨gp, 0, none⟩) := (Roll.eval_new 4 rfl (by decide) (by decide) (by omega)).trans h4
                  clear hp hlv hN
                  unfold Roll.Goes
                  simp only [LofT10, List.getD_cons_zero, List.getD_cons_succ]
                  generalize Roll.putD DofT10 vs [4] b0 = a1 at *
                  refine Roll.goes_val (w' := p) (.pointer (some ⟨gp, 0, none⟩)) rfl ?_ ⟨(Roll.outw_pure (by decide) rfl), rfl⟩
                  (have ec : ∀ x, a1.eval (.const x) = x := fun _ => rfl); (have ef : ∀ x, a1.eval (.func x) = .func (.func x) #[] #[] := fun _ => rfl); generalize a1.eval = ρ at *
                  clear h4
                  go_simp <;> (intros; first | (exfalso; omega) | rfl)
                · intro vs p hI0 hp
                  have hI := Roll.inw_pure (by decide) rfl hI0
                  clear hI0
                  have h5 : (vs 5) = .pointer (some ⟨gp, 0, none⟩) := hp 5 (by simp [LofT10])
                  have e43 : (Roll.putD DofT10 vs [5] b0).eval (.tmp 43) = .pointer (some ⟨gp, 0, none⟩) := (Roll.eval_new 5 rfl (by decide) (by decide) (by omega)).trans h5
                  clear hp hlv hN
                  unfold Roll.Goes
                  simp only [LofT10, List.getD_cons_zero, List.getD_cons_succ]
                  generalize Roll.putD DofT10 vs [5] b0 = a1 at *
                  refine Roll.goes_val (w' := p) (.pointer (some ⟨gp, 2, none⟩)) rfl ?_ ⟨(Roll.outw_pure (by decide) rfl), rfl⟩
                  (have ec : ∀ x, a1.eval (.const x) = x := fun _ => rfl); (have ef : ∀ x, a1.eval (.func x) = .func (.func x) #[] #[] := fun _ => rfl); generalize a1.eval = ρ at *
                  clear h5
                  go_simp <;> (intros; first | (exfalso; omega) | rfl)
                · intro vs p hI0 hp
                  have hI := Roll.inw_pre (by decide) rfl hI0
                  clear hI0
                  have h6 : (vs 6) = .pointer (some ⟨gp, 2, none⟩) := hp 6 (by simp [LofT10])
                  have e44 : (Roll.putD DofT10 vs [6] b0).eval (.tmp 44) = .pointer (some ⟨gp, 2, none⟩) := (Roll.eval_new 6 rfl (by decide) (by decide) (by omega)).trans h6
                  clear hp hlv hN
                  unfold Roll.Goes
                  simp only [LofT10, List.getD_cons_zero, List.getD_cons_succ]
                  generalize Roll.putD DofT10 vs [6] b0 = a1 at *
                  have cf := (HPC.out p hI).2
                  refine Roll.goes_val (w' := p) (.int .i64 (n : Int)) rfl ?_ ⟨Roll.outw_pre (by decide) rfl hI trivial, rfl⟩
                  (have ec : ∀ x, a1.eval (.const x) = x := fun _ => rfl); (have ef : ∀ x, a1.eval (.func x) = .func (.func x) #[] #[] := fun _ => rfl); generalize a1.eval = ρ at *
                  go_simp <;> (intros; first | (exfalso; omega) | rfl)
                · intro vs p hI0 hp
                  have hI := Roll.inw_k0 rfl hI0
                  clear hI0
                  have h3 : (vs 3) = .pointer (some ⟨g, 0, none⟩) := hp 3 (by simp [LofT10])
                  have h7 : (vs 7) = .int .i64 (n : Int) := hp 7 (by simp [LofT10])
                  have e41 : (Roll.putD DofT10 vs [3, 7] b0).eval (.tmp 41) = .pointer (some ⟨g, 0, none⟩) := (Roll.eval_new 3 rfl (by decide) (by decide) (by omega)).trans h3
                  have e45 : (Roll.putD DofT10 vs [3, 7] b0).eval (.tmp 45) = .int .i64 (n : Int) := (Roll.eval_new 7 rfl (by decide) (by decide) (by omega)).trans h7
                  clear hp hlv hN
                  unfold Roll.Goes
                  simp only [LofT10, List.getD_cons_zero, List.getD_cons_succ]
                  generalize Roll.putD DofT10 vs [3, 7] b0 = a1 at *
                  refine Roll.goes_call 11 #[.pointer (some ⟨g, 0, none⟩), .int .i64 1, .int .i64 (n : Int)] p rfl (by have ec : ∀ x, a1.eval (.const x) = x := fun _ => rfl; have ef : ∀ x, a1.eval (.func x) = .func (.func x) #[] #[] := fun _ => rfl; generalize a1.eval = ρ at *; go_simp) ?_
                  refine (HOP.out p hI).mono ?_
                  rintro y p2 ⟨gk, rfl, hl⟩
                  exact ⟨_, rfl, Roll.outw_k0 rfl ⟨gk, rfl, hl⟩ trivial, gk, rfl⟩
                · intro vs p hI0 hp
                  have hI := Roll.inw_pure (by decide) rfl hI0
                  clear hI0
                  have h8 : ∃ gk, (vs 8) = .tuple #[.pointer (some ⟨gk, 0, none⟩), .int .i64 0] := hp 8 (by simp [LofT10])
                  have e46 : (Roll.putD DofT10 vs [8] b0).eval (.tmp 46) = vs 8 := (Roll.eval_new 8 rfl (by decide) (by decide) (by omega))
                  clear hp hlv hN
                  unfold Roll.Goes
                  simp only [LofT10, List.getD_cons_zero, List.getD_cons_succ]
                  generalize Roll.putD DofT10 vs [8] b0 = a1 at *
                  obtain ⟨gk, hv⟩ := h8
                  rw [hv] at e46
                  refine Roll.goes_val (w' := p) (.tuple #[.pointer (some ⟨gk, 0, none⟩), .int .i64 0]) rfl ?_ ⟨(Roll.outw_pure (by decide) rfl), gk, hv, rfl⟩
                  (have ec : ∀ x, a1.eval (.const x) = x := fun _ => rfl); (have ef : ∀ x, a1.eval (.func x) = .func (.func x) #[] #[] := fun _ => rfl); generalize a1.eval = ρ at *
                  go_simp <;> (intros; first | (exfalso; omega) | rfl)
                · intro vs p hI0 hp
                  have hI := Roll.inw_pure (by decide) rfl hI0
                  clear hI0
                  have h9 : ∃ gk, (vs 8) = .tuple #[.pointer (some ⟨gk, 0, none⟩), .int .i64 0] ∧ (vs 9) = .tuple #[.pointer (some ⟨gk, 0, none⟩), .int .i64 0] := hp 9 (by simp [LofT10])
                  have e37 : (Roll.putD DofT10 vs [9] b0).eval (.tmp 37) = vs 9 := (Roll.eval_new 9 rfl (by decide) (by decide) (by omega))
                  clear hp hlv hN
                  unfold Roll.Goes
                  simp only [LofT10, List.getD_cons_zero, List.getD_cons_succ]
                  generalize Roll.putD DofT10 vs [9] b0 = a1 at *
                  obtain ⟨gk, -, hv⟩ := h9
                  rw [hv] at e37
                  refine Roll.goes_val (w' := p) (.pointer (some ⟨gk, 0, none⟩)) rfl ?_ ⟨(Roll.outw_pure (by decide) rfl), gk, hv, rfl⟩
                  (have ec : ∀ x, a1.eval (.const x) = x := fun _ => rfl); (have ef : ∀ x, a1.eval (.func x) = .func (.func x) #[] #[] := fun _ => rfl); generalize a1.eval = ρ at *
                  go_simp <;> (intros; first | (exfalso; omega) | rfl)
                · intro vs p hI0 hp
                  have hI := Roll.inw_pure (by decide) rfl hI0
                  clear hI0
                  have h9 : ∃ gk, (vs 8) = .tuple #[.pointer (some ⟨gk, 0, none⟩), .int .i64 0] ∧ (vs 9) = .tuple #[.pointer (some ⟨gk, 0, none⟩), .int .i64 0] := hp 9 (by simp [LofT10])
                  have e37 : (Roll.putD DofT10 vs [9] b0).eval (.tmp 37) = vs 9 := (Roll.eval_new 9 rfl (by decide) (by decide) (by omega))
                  clear hp hlv hN
                  unfold Roll.Goes
                  simp only [LofT10, List.getD_cons_zero, List.getD_cons_succ]
                  generalize Roll.putD DofT10 vs [9] b0 = a1 at *
                  obtain ⟨gk, -, hv⟩ := h9
                  rw [hv] at e37
                  refine Roll.goes_val (w' := p) (.int .i64 0) rfl ?_ ⟨(Roll.outw_pure (by decide) rfl), rfl⟩
                  (have ec : ∀ x, a1.eval (.const x) = x := fun _ => rfl); (have ef : ∀ x, a1.eval (.func x) = .func (.func x) #[] #[] := fun _ => rfl); generalize a1.eval = ρ at *
                  go_simp <;> (intros; first | (exfalso; omega) | rfl)
                · intro vs p hI0 hp
                  have hI := Roll.inw_pure (by decide) rfl hI0
                  clear hI0
                  have h10 : ∃ gk, (vs 9) = .tuple #[.pointer (some ⟨gk, 0, none⟩), .int .i64 0] ∧ (vs 10) = .pointer (some ⟨gk, 0, none⟩) := hp 10 (by simp [LofT10])
                  have e47 : (Roll.putD DofT10 vs [10] b0).eval (.tmp 47) = vs 10 := (Roll.eval_new 10 rfl (by decide) (by decide) (by omega))
                  clear hp hlv hN
                  unfold Roll.Goes
                  simp only [LofT10, List.getD_cons_zero, List.getD_cons_succ]
                  generalize Roll.putD DofT10 vs [10] b0 = a1 at *
                  obtain ⟨gk, -, hv⟩ := h10
                  rw [hv] at e47
                  refine Roll.goes_val (w' := p) (.pointer (some ⟨gk, 0, none⟩)) rfl ?_ ⟨(Roll.outw_pure (by decide) rfl), gk, hv, rfl⟩
                  (have ec : ∀ x, a1.eval (.const x) = x := fun _ => rfl); (have ef : ∀ x, a1.eval (.func x) = .func (.func x) #[] #[] := fun _ => rfl); generalize a1.eval = ρ at *
                  go_simp <;> (intros; first | (exfalso; omega) | rfl)
                · intro vs p hI0 hp
                  have hI := Roll.inw_pure (by decide) rfl hI0
                  clear hI0
                  have h11 : (vs 11) = .int .i64 0 := hp 11 (by simp [LofT10])
                  have e48 : (Roll.putD DofT10 vs [11] b0).eval (.tmp 48) = .int .i64 0 := (Roll.eval_new 11 rfl (by decide) (by decide) (by omega)).trans h11
                  clear hp hlv hN
                  unfold Roll.Goes
                  simp only [LofT10, List.getD_cons_zero, List.getD_cons_succ]
                  generalize Roll.putD DofT10 vs [11] b0 = a1 at *
                  refine Roll.goes_val (w' := p) (.int .i64 0) rfl ?_ ⟨(Roll.outw_pure (by decide) rfl), rfl⟩
                  (have ec : ∀ x, a1.eval (.const x) = x := fun _ => rfl); (have ef : ∀ x, a1.eval (.func x) = .func (.func x) #[] #[] := fun _ => rfl); generalize a1.eval = ρ at *
                  clear h11
                  go_simp <;> (intros; first | (exfalso; omega) | rfl)
              · intro vs p hI hR
                have h0 : (vs 0) = .pointer (some ⟨gp, 0, none⟩) := hR 0 (by omega)
                have h1 : (vs 1) = .pointer (some ⟨gp, 0, none⟩) := hR 1 (by omega)
                have h2 : (vs 2) = .pointer (some ⟨gp, 0, none⟩) := hR 2 (by omega)
                have h3 : (vs 3) = .pointer (some ⟨g, 0, none⟩) := hR 3 (by omega)
                have h4 : (vs 4) = .pointer (some ⟨gp, 0, none⟩) := hR 4 (by omega)
                have h5 : (vs 5) = .pointer (some ⟨gp, 0, none⟩) := hR 5 (by omega)
                have h6 : (vs 6) = .pointer (some ⟨gp, 2, none⟩) := hR 6 (by omega)
                have h7 : (vs 7) = .int .i64 (n : Int) := hR 7 (by omega)
                have h8 : ∃ gk, (vs 8) = .tuple #[.pointer (some ⟨gk, 0, none⟩), .int .i64 0] := hR 8 (by omega)
                have h9 : ∃ gk, (vs 8) = .tuple #[.pointer (some ⟨gk, 0, none⟩), .int .i64 0] ∧ (vs 9) = .tuple #[.pointer (some ⟨gk, 0, none⟩), .int .i64 0] := hR 9 (by omega)
                have h10 : ∃ gk, (vs 9) = .tuple #[.pointer (some ⟨gk, 0, none⟩), .int .i64 0] ∧ (vs 10) = .pointer (some ⟨gk, 0, none⟩) := hR 10 (by omega)
                have h11 : (vs 11) = .int .i64 0 := hR 11 (by omega)
                have h12 : ∃ gk, (vs 10) = .pointer (some ⟨gk, 0, none⟩) ∧ (vs 12) = .pointer (some ⟨gk, 0, none⟩) := hR 12 (by omega)
                have h13 : (vs 13) = .int .i64 0 := hR 13 (by omega)
                clear hR
                simp only [List.range_succ, List.range_zero, List.nil_append, List.cons_append, Roll.putD, Act.put, List.getD_cons_zero, List.getD_cons_succ, List.setIfInBounds_toArray, List.set_cons_zero, List.set_cons_succ, List.drop_succ_cons, List.drop_zero, DofT10]
                simp only [h0, h1, h2, h3, h4, h5, h6, h7, h11, h13]
                clear h0 h1 h2 h3 h4 h5 h6 h7 h11 h13
                clear h8
                generalize vs 8 = v8 at *; generalize vs 9 = v9 at *; generalize vs 10 = v10 at *; generalize vs 12 = v12 at *
                obtain ⟨gk, rfl, hl8⟩ := hI
                obtain ⟨g9, e8, rfl⟩ := h9
                obtain rfl : g9 = gk := by simpa using e8.symm
                obtain ⟨g10, e9, rfl⟩ := h10
                obtain rfl : g10 = g9 := by simpa using e9.symm
                obtain ⟨g12, e10, rfl⟩ := h12
                obtain rfl : g12 = g10 := by simpa using e10.symm
                clear e8 e9 e10
                have HL9 : Hid (Lv w p (logO g12 g (mFresh 1 n) :: PL gp g gl n v m d2 r [])) := Lib.hid (by rw [← HMO.out, ← HLS2.out]; exact hl8)
                clear hl8 HL7 HOP HPC HLS2 HMO
                go_wp2_with (have x1 := HL9.out; go_at_call 27; refine (records_lv x1 (ii := 0) (m := mFresh 1 n) rfl (Nat.zero_le _) (fun q hq => by cases hq)).mono ?_; rintro e w10 ⟨ra, rc, rfl, hl10⟩; rw [show (mFresh 1 n).recs.length = 0 from rfl] at hl10 ⊢; have HL10 := Lib.hid hl10; clear hl10 x1 HL9)
                go_meet
                exact ⟨_, _, _, _, _, HL10.out.two6, HGA2.out⟩
            · have hia3 : (an : Int) ≤ (i : Int) := by omega
              go_upto_region 10 with fail
              refine Roll.region_v 14 115 DofT10 LofT10 [(9, .pointer (some ⟨gp, 0, none⟩))] 8 [true, true, true, false, true, true, true, false, false, true, true, true, true, true] (fun p => Lv w p LST) (fun vv p => ∃ gk, vv = .tuple #[.pointer (some ⟨gk, 0, none⟩), .int .i64 0] ∧ Lv w p (logO gk g MO :: LS2)) (fun p => True) (fun _ _ => True) [fun vv p => (vv 0) = .pointer (some ⟨gp, 0, none⟩), fun vv p => (vv 1) = .pointer (some ⟨gp, 0, none⟩), fun vv p => (vv 2) = .pointer (some ⟨gp, 0, none⟩), fun vv p => (vv 3) = .pointer (some ⟨g, 0, none⟩), fun vv p => (vv 4) = .pointer (some ⟨gp, 0, none⟩), fun vv p => (vv 5) = .pointer (some ⟨gp, 0, none⟩), fun vv p => (vv 6) = .pointer (some ⟨gp, 2, none⟩), fun vv p => (vv 7) = .int .i64 (n : Int), fun vv p => ∃ gk, (vv 8) = .tuple #[.pointer (some ⟨gk, 0, none⟩), .int .i64 0], fun vv p => ∃ gk, (vv 8) = .tuple #[.pointer (some ⟨gk, 0, none⟩), .int .i64 0] ∧ (vv 9) = .tuple #[.pointer (some ⟨gk, 0, none⟩), .int .i64 0], fun vv p => ∃ gk, (vv 9) = .tuple #[.pointer (some ⟨gk, 0, none⟩), .int .i64 0] ∧ (vv 10) = .pointer (some ⟨gk, 0, none⟩), fun vv p => (vv 11) = .int .i64 0, fun vv p => ∃ gk, (vv 10) = .pointer (some ⟨gk, 0, none⟩) ∧ (vv 12) = .pointer (some ⟨gk, 0, none⟩), fun vv p => (vv 13) = .int .i64 0] (by kernel_rfl) (by kernel_rfl) rfl ⟨rfl, trivial⟩ (HL7.out.below (Below.refl _ _).drew) (by decide) (by kernel_rfl) (fun _ _ => trivial) (fun _ _ _ => trivial) (fun _ => trivial) ?_ ?_ ?_
              · exact ⟨fun _ _ _ _ h => h, fun _ _ _ _ h => h, fun _ _ _ _ h => h, fun _ _ _ _ h => h, fun _ _ _ _ h => h, fun _ _ _ _ h => h, fun _ _ _ _ h => h, fun _ _ _ _ h => h, fun _ _ _ _ h => h, fun _ _ _ _ h => h, fun _ _ _ _ h => h, fun _ _ _ _ h => h, fun _ _ _ _ h => h, fun _ _ _ _ h => h, trivial⟩
              · intro b0 hN hlv
                refine ⟨?_, ?_, ?_, ?_, ?_, ?_, ?_, ?_, ?_, ?_, ?_, ?_, ?_, ?_, trivial⟩
                · intro vs p hI0 hp
                  have hI := Roll.inw_pure (by decide) rfl hI0
                  clear hI0
                  have e9 : (Roll.putD DofT10 vs [] b0).eval (.tmp 9) = .pointer (some ⟨gp, 0, none⟩) := (Roll.eval_old rfl).trans (hlv.at 0 (9, .pointer (some ⟨gp, 0, none⟩)) rfl)
                  clear hp hlv hN
                  unfold Roll.Goes
                  simp only [LofT10, List.getD_cons_zero, List.getD_cons_succ]
                  generalize Roll.putD DofT10 vs [] b0 = a1 at *
                  refine Roll.goes_val (w' := p) (.pointer (some ⟨gp, 0, none⟩)) rfl ?_ ⟨(Roll.outw_pure (by decide) rfl), rfl⟩
                  (have ec : ∀ x, a1.eval (.const x) = x := fun _ => rfl); (have ef : ∀ x, a1.eval (.func x) = .func (.func x) #[] #[] := fun _ => rfl); generalize a1.eval = ρ at *
                  skip
                  go_simp <;> (intros; first | (exfalso; omega) | rfl)
                · intro vs p hI0 hp
                  have hI := Roll.inw_pure (by decide) rfl hI0
                  clear hI0
                  have h0 : (vs 0) = .pointer (some ⟨gp, 0, none⟩) := hp 0 (by simp [LofT10])
                  have e38 : (Roll.putD DofT10 vs [0] b0).eval (.tmp 38) = .pointer (some ⟨gp, 0, none⟩) := (Roll.eval_new 0 rfl (by decide) (by decide) (by omega)).trans h0
                  clear hp hlv hN
                  unfold Roll.Goes
                  simp only [LofT10, List.getD_cons_zero, List.getD_cons_succ]
                  generalize Roll.putD DofT10 vs [0] b0 = a1 at *
                  refine Roll.goes_val (w' := p) (.pointer (some ⟨gp, 0, none⟩)) rfl ?_ ⟨(Roll.outw_pure (by decide) rfl), rfl⟩
                  (have ec : ∀ x, a1.eval (.const x) = x := fun _ => rfl); (have ef : ∀ x, a1.eval (.func x) = .func (.func x) #[] #[] := fun _ => rfl); generalize a1.eval = ρ at *
                  clear h0
                  go_simp <;> (intros; first | (exfalso; omega) | rfl)
                · intro vs p hI0 hp
                  have hI := Roll.inw_pure (by decide) rfl hI0
                  clear hI0
                  have h1 : (vs 1) = .pointer (some ⟨gp, 0, none⟩) := hp 1 (by simp [LofT10])
                  have e39 : (Roll.putD DofT10 vs [1] b0).eval (.tmp 39) = .pointer (some ⟨gp, 0, none⟩) := (Roll.eval_new 1 rfl (by decide) (by decide) (by omega)).trans h1
                  clear hp hlv hN
                  unfold Roll.Goes
                  simp only [LofT10, List.getD_cons_zero, List.getD_cons_succ]
                  generalize Roll.putD DofT10 vs [1] b0 = a1 at *
                  refine Roll.goes_val (w' := p) (.pointer (some ⟨gp, 0, none⟩)) rfl ?_ ⟨(Roll.outw_pure (by decide) rfl), rfl⟩
                  (have ec : ∀ x, a1.eval (.const x) = x := fun _ => rfl); (have ef : ∀ x, a1.eval (.func x) = .func (.func x) #[] #[] := fun _ => rfl); generalize a1.eval = ρ at *
                  clear h1
                  go_simp <;> (intros; first | (exfalso; omega) | rfl)
                · intro vs p hI0 hp
                  have hI := Roll.inw_pre (by decide) rfl hI0
                  clear hI0
                  have h2 : (vs 2) = .pointer (some ⟨gp, 0, none⟩) := hp 2 (by simp [LofT10])
                  have e40 : (Roll.putD DofT10 vs [2] b0).eval (.tmp 40) = .pointer (some ⟨gp, 0, none⟩) := (Roll.eval_new 2 rfl (by decide) (by decide) (by omega)).trans h2
                  clear hp hlv hN
                  unfold Roll.Goes
                  simp only [LofT10, List.getD_cons_zero, List.getD_cons_succ]
                  generalize Roll.putD DofT10 vs [2] b0 = a1 at *
                  have cf := (HPC.out p hI).1
                  refine Roll.goes_val (w' := p) (.pointer (some ⟨g, 0, none⟩)) rfl ?_ ⟨Roll.outw_pre (by decide) rfl hI trivial, rfl⟩
                  (have ec : ∀ x, a1.eval (.const x) = x := fun _ => rfl); (have ef : ∀ x, a1.eval (.func x) = .func (.func x) #[] #[] := fun _ => rfl); generalize a1.eval = ρ at *
                  go_simp <;> (intros; first | (exfalso; omega) | rfl)
                · intro vs p hI0 hp
                  have hI := Roll.inw_pure (by decide) rfl hI0
                  clear hI0
                  have e9 : (Roll.putD DofT10 vs [] b0).eval (.tmp 9) = .pointer (some ⟨gp, 0, none⟩) := (Roll.eval_old rfl).trans (hlv.at 0 (9, .pointer (some ⟨gp, 0, none⟩)) rfl)
                  clear hp hlv hN
                  unfold Roll.Goes
                  simp only [LofT10, List.getD_cons_zero, List.getD_cons_succ]
                  generalize Roll.putD DofT10 vs [] b0 = a1 at *
                  refine Roll.goes_val (w' := p) (.pointer (some ⟨gp, 0, none⟩)) rfl ?_ ⟨(Roll.outw_pure (by decide) rfl), rfl⟩
                  (have ec : ∀ x, a1.eval (.const x) = x := fun _ => rfl); (have ef : ∀ x, a1.eval (.func x) = .func (.func x) #[] #[] := fun _ => rfl); generalize a1.eval = ρ at *
                  skip
                  go_simp <;> (intros; first | (exfalso; omega) | rfl)
                · intro vs p hI0 hp
                  have hI := Roll.inw_pure (by decide) rfl hI0
                  clear hI0
                  have h4 : (vs 4) = .pointer (some ⟨gp, 0, none⟩) := hp 4 (by simp [LofT10])
                  have e42 : (Roll.putD DofT10 vs [4] b0).eval (.tmp 42) = .pointer (some ⟨gp, 0, none⟩) := (Roll.eval_new 4 rfl (by decide) (by decide) (by omega)).trans h4
                  clear hp hlv hN
                  unfold Roll.Goes
                  simp only [LofT10, List.getD_cons_zero, List.getD_cons_succ]
                  generalize Roll.putD DofT10 vs [4] b0 = a1 at *
                  refine Roll.goes_val (w' := p) (.pointer (some ⟨gp, 0, none⟩)) rfl ?_ ⟨(Roll.outw_pure (by decide) rfl), rfl⟩
                  (have ec : ∀ x, a1.eval (.const x) = x := fun _ => rfl); (have ef : ∀ x, a1.eval (.func x) = .func (.func x) #[] #[] := fun _ => rfl); generalize a1.eval = ρ at *
                  clear h4
                  go_simp <;> (intros; first | (exfalso; omega) | rfl)
                · intro vs p hI0 hp
                  have hI := Roll.inw_pure (by decide) rfl hI0
                  clear hI0
                  have h5 : (vs 5) = .pointer (some ⟨gp, 0, none⟩) := hp 5 (by simp [LofT10])
                  have e43 : (Roll.putD DofT10 vs [5] b0).eval (.tmp 43) = .pointer (some ⟨gp, 0, none⟩) := (Roll.eval_new 5 rfl (by decide) (by decide) (by omega)).trans h5
                  clear hp hlv hN
                  unfold Roll.Goes
                  simp only [LofT10, List.getD_cons_zero, List.getD_cons_succ]
                  generalize Roll.putD DofT10 vs [5] b0 = a1 at *
                  refine Roll.goes_val (w' := p) (.pointer (some ⟨gp, 2, none⟩)) rfl ?_ ⟨(Roll.outw_pure (by decide) rfl), rfl⟩
                  (have ec : ∀ x, a1.eval (.const x) = x := fun _ => rfl); (have ef : ∀ x, a1.eval (.func x) = .func (.func x) #[] #[] := fun _ => rfl); generalize a1.eval = ρ at *
                  clear h5
                  go_simp <;> (intros; first | (exfalso; omega) | rfl)
                · intro vs p hI0 hp
                  have hI := Roll.inw_pre (by decide) rfl hI0
                  clear hI0
                  have h6 : (vs 6) = .pointer (some ⟨gp, 2, none⟩) := hp 6 (by simp [LofT10])
                  have e44 : (Roll.putD DofT10 vs [6] b0).eval (.tmp 44) = .pointer (some ⟨gp, 2, none⟩) := (Roll.eval_new 6 rfl (by decide) (by decide) (by omega)).trans h6
                  clear hp hlv hN
                  unfold Roll.Goes
                  simp only [LofT10, List.getD_cons_zero, List.getD_cons_succ]
                  generalize Roll.putD DofT10 vs [6] b0 = a1 at *
                  have cf := (HPC.out p hI).2
                  refine Roll.goes_val (w' := p) (.int .i64 (n : Int)) rfl ?_ ⟨Roll.outw_pre (by decide) rfl hI trivial, rfl⟩
                  (have ec : ∀ x, a1.eval (.const x) = x := fun _ => rfl); (have ef : ∀ x, a1.eval (.func x) = .func (.func x) #[] #[] := fun _ => rfl); generalize a1.eval = ρ at *
                  go_simp <;> (intros; first | (exfalso; omega) | rfl)
                · intro vs p hI0 hp
                  have hI := Roll.inw_k0 rfl hI0
                  clear hI0
                  have h3 : (vs 3) = .pointer (some ⟨g, 0, none⟩) := hp 3 (by simp [LofT10])
                  have h7 : (vs 7) = .int .i64 (n : Int) := hp 7 (by simp [LofT10])
                  have e41 : (Roll.putD DofT10 vs [3, 7] b0).eval (.tmp 41) = .pointer (some ⟨g, 0, none⟩) := (Roll.eval_new 3 rfl (by decide) (by decide) (by omega)).trans h3
                  have e45 : (Roll.putD DofT10 vs [3, 7] b0).eval (.tmp 45) = .int .i64 (n : Int) := (Roll.eval_new 7 rfl (by decide) (by decide) (by omega)).trans h7
                  clear hp hlv hN
                  unfold Roll.Goes
                  simp only [LofT10, List.getD_cons_zero, List.getD_cons_succ]
                  generalize Roll.putD DofT10 vs [3, 7] b0 = a1 at *
                  refine Roll.goes_call 11 #[.pointer (some ⟨g, 0, none⟩), .int .i64 1, .int .i64 (n : Int)] p rfl (by have ec : ∀ x, a1.eval (.const x) = x := fun _ => rfl; have ef : ∀ x, a1.eval (.func x) = .func (.func x) #[] #[] := fun _ => rfl; generalize a1.eval = ρ at *; go_simp) ?_
                  refine (HOP.out p hI).mono ?_
                  rintro y p2 ⟨gk, rfl, hl⟩
                  exact ⟨_, rfl, Roll.outw_k0 rfl ⟨gk, rfl, hl⟩ trivial, gk, rfl⟩
                · intro vs p hI0 hp
                  have hI := Roll.inw_pure (by decide) rfl hI0
                  clear hI0
                  have h8 : ∃ gk, (vs 8) = .tuple #[.pointer (some ⟨gk, 0, none⟩), .int .i64 0] := hp 8 (by simp [LofT10])
                  have e46 : (Roll.putD DofT10 vs [8] b0).eval (.tmp 46) = vs 8 := (Roll.eval_new 8 rfl (by decide) (by decide) (by omega))
                  clear hp hlv hN
                  unfold Roll.Goes
                  simp only [LofT10, List.getD_cons_zero, List.getD_cons_succ]
                  generalize Roll.putD DofT10 vs [8] b0 = a1 at *
                  obtain ⟨gk, hv⟩ := h8
                  rw [hv] at e46
                  refine Roll.goes_val (w' := p) (.tuple #[.pointer (some ⟨gk, 0, none⟩), .int .i64 0]) rfl ?_ ⟨(Roll.outw_pure (by decide) rfl), gk, hv, rfl⟩
                  (have ec : ∀ x, a1.eval (.const x) = x := fun _ => rfl); (have ef : ∀ x, a1.eval (.func x) = .func (.func x) #[] #[] := fun _ => rfl); generalize a1.eval = ρ at *
                  go_simp <;> (intros; first | (exfalso; omega) | rfl)
                · intro vs p hI0 hp
                  have hI := Roll.inw_pure (by decide) rfl hI0
                  clear hI0
                  have h9 : ∃ gk, (vs 8) = .tuple #[.pointer (some ⟨gk, 0, none⟩), .int .i64 0] ∧ (vs 9) = .tuple #[.pointer (some ⟨gk, 0, none⟩), .int .i64 0] := hp 9 (by simp [LofT10])
                  have e37 : (Roll.putD DofT10 vs [9] b0).eval (.tmp 37) = vs 9 := (Roll.eval_new 9 rfl (by decide) (by decide) (by omega))
                  clear hp hlv hN
                  unfold Roll.Goes
                  simp only [LofT10, List.getD_cons_zero, List.getD_cons_succ]
                  generalize Roll.putD DofT10 vs [9] b0 = a1 at *
                  obtain ⟨gk, -, hv⟩ := h9
                  rw [hv] at e37
                  refine Roll.goes_val (w' := p) (.pointer (some ⟨gk, 0, none⟩)) rfl ?_ ⟨(Roll.outw_pure (by decide) rfl), gk, hv, rfl⟩
                  (have ec : ∀ x, a1.eval (.const x) = x := fun _ => rfl); (have ef : ∀ x, a1.eval (.func x) = .func (.func x) #[] #[] := fun _ => rfl); generalize a1.eval = ρ at *
                  go_simp <;> (intros; first | (exfalso; omega) | rfl)
                · intro vs p hI0 hp
                  have hI := Roll.inw_pure (by decide) rfl hI0
                  clear hI0
                  have h9 : ∃ gk, (vs 8) = .tuple #[.pointer (some ⟨gk, 0, none⟩), .int .i64 0] ∧ (vs 9) = .tuple #[.pointer (some ⟨gk, 0, none⟩), .int .i64 0] := hp 9 (by simp [LofT10])
                  have e37 : (Roll.putD DofT10 vs [9] b0).eval (.tmp 37) = vs 9 := (Roll.eval_new 9 rfl (by decide) (by decide) (by omega))
                  clear hp hlv hN
                  unfold Roll.Goes
                  simp only [LofT10, List.getD_cons_zero, List.getD_cons_succ]
                  generalize Roll.putD DofT10 vs [9] b0 = a1 at *
                  obtain ⟨gk, -, hv⟩ := h9
                  rw [hv] at e37
                  refine Roll.goes_val (w' := p) (.int .i64 0) rfl ?_ ⟨(Roll.outw_pure (by decide) rfl), rfl⟩
                  (have ec : ∀ x, a1.eval (.const x) = x := fun _ => rfl); (have ef : ∀ x, a1.eval (.func x) = .func (.func x) #[] #[] := fun _ => rfl); generalize a1.eval = ρ at *
                  go_simp <;> (intros; first | (exfalso; omega) | rfl)
                · intro vs p hI0 hp
                  have hI := Roll.inw_pure (by decide) rfl hI0
                  clear hI0
                  have h10 : ∃ gk, (vs 9) = .tuple #[.pointer (some ⟨gk, 0, none⟩), .int .i64 0] ∧ (vs 10) = .pointer (some ⟨gk, 0, none⟩) := hp 10 (by simp [LofT10])
                  have e47 : (Roll.putD DofT10 vs [10] b0).eval (.tmp 47) = vs 10 := (Roll.eval_new 10 rfl (by decide) (by decide) (by omega))
                  clear hp hlv hN
                  unfold Roll.Goes
                  simp only [LofT10, List.getD_cons_zero, List.getD_cons_succ]
                  generalize Roll.putD DofT10 vs [10] b0 = a1 at *
                  obtain ⟨gk, -, hv⟩ := h10
                  rw [hv] at e47
                  refine Roll.goes_val (w' := p) (.pointer (some ⟨gk, 0, none⟩)) rfl ?_ ⟨(Roll.outw_pure (by decide) rfl), gk, hv, rfl⟩
                  (have ec : ∀ x, a1.eval (.const x) = x := fun _ => rfl); (have ef : ∀ x, a1.eval (.func x) = .func (.func x) #[] #[] := fun _ => rfl); generalize a1.eval = ρ at *
                  go_simp <;> (intros; first | (exfalso; omega) | rfl)
                · intro vs p hI0 hp
                  have hI := Roll.inw_pure (by decide) rfl hI0
                  clear hI0
                  have h11 : (vs 11) = .int .i64 0 := hp 11 (by simp [LofT10])
                  have e48 : (Roll.putD DofT10 vs [11] b0).eval (.tmp 48) = .int .i64 0 := (Roll.eval_new 11 rfl (by decide) (by decide) (by omega)).trans h11
                  clear hp hlv hN
                  unfold Roll.Goes
                  simp only [LofT10, List.getD_cons_zero, List.getD_cons_succ]
                  generalize Roll.putD DofT10 vs [11] b0 = a1 at *
                  refine Roll.goes_val (w' := p) (.int .i64 0) rfl ?_ ⟨(Roll.outw_pure (by decide) rfl), rfl⟩
                  (have ec : ∀ x, a1.eval (.const x) = x := fun _ => rfl); (have ef : ∀ x, a1.eval (.func x) = .func (.func x) #[] #[] := fun _ => rfl); generalize a1.eval = ρ at *
                  clear h11
                  go_simp <;> (intros; first | (exfalso; omega) | rfl)
              · intro vs p hI hR
                have h0 : (vs 0) = .pointer (some ⟨gp, 0, none⟩) := hR 0 (by omega)
                have h1 : (vs 1) = .pointer (some ⟨gp, 0, none⟩) := hR 1 (by omega)
                have h2 : (vs 2) = .pointer (some ⟨gp, 0, none⟩) := hR 2 (by omega)
                have h3 : (vs 3) = .pointer (some ⟨g, 0, none⟩) := hR 3 (by omega)
                have h4 : (vs 4) = .pointer (some ⟨gp, 0, none⟩) := hR 4 (by omega)
                have h5 : (vs 5) = .pointer (some ⟨gp, 0, none⟩) := hR 5 (by omega)
                have h6 : (vs 6) = .pointer (some ⟨gp, 2, none⟩) := hR 6 (by omega)
                have h7 : (vs 7) = .int .i64 (n : Int) := hR 7 (by omega)
                have h8 : ∃ gk, (vs 8) = .tuple #[.pointer (some ⟨gk, 0, none⟩), .int .i64 0] := hR 8 (by omega)
                have h9 : ∃ gk, (vs 8) = .tuple #[.pointer (some ⟨gk, 0, none⟩), .int .i64 0] ∧ (vs 9) = .tuple #[.pointer (some ⟨gk, 0, none⟩), .int .i64 0] := hR 9 (by omega)
                have h10 : ∃ gk, (vs 9) = .tuple #[.pointer (some ⟨gk, 0, none⟩), .int .i64 0] ∧ (vs 10) = .pointer (some ⟨gk, 0, none⟩) := hR 10 (by omega)
                have h11 : (vs 11) = .int .i64 0 := hR 11 (by omega)
                have h12 : ∃ gk, (vs 10) = .pointer (some ⟨gk, 0, none⟩) ∧ (vs 12) = .pointer (some ⟨gk, 0, none⟩) := hR 12 (by omega)
                have h13 : (vs 13) = .int .i64 0 := hR 13 (by omega)
                clear hR
                simp only [List.range_succ, List.range_zero, List.nil_append, List.cons_append, Roll.putD, Act.put, List.getD_cons_zero, List.getD_cons_succ, List.setIfInBounds_toArray, List.set_cons_zero, List.set_cons_succ, List.drop_succ_cons, List.drop_zero, DofT10]
                simp only [h0, h1, h2, h3, h4, h5, h6, h7, h11, h13]
                clear h0 h1 h2 h3 h4 h5 h6 h7 h11 h13
                clear h8
                generalize vs 8 = v8 at *; generalize vs 9 = v9 at *; generalize vs 10 = v10 at *; generalize vs 12 = v12 at *
                obtain ⟨gk, rfl, hl8⟩ := hI
                obtain ⟨g9, e8, rfl⟩ := h9
                obtain rfl : g9 = gk := by simpa using e8.symm
                obtain ⟨g10, e9, rfl⟩ := h10
                obtain rfl : g10 = g9 := by simpa using e9.symm
                obtain ⟨g12, e10, rfl⟩ := h12
                obtain rfl : g12 = g10 := by simpa using e10.symm
                clear e8 e9 e10
                have HL9 : Hid (Lv w p (logO g12 g (mFresh 1 n) :: PL gp g gl n v m d2 r [])) := Lib.hid (by rw [← HMO.out, ← HLS2.out]; exact hl8)
                clear hl8 HL7 HOP HPC HLS2 HMO
                go_wp2_with (have x1 := HL9.out; go_at_call 27; refine (records_lv x1 (ii := 0) (m := mFresh 1 n) rfl (Nat.zero_le _) (fun q hq => by cases hq)).mono ?_; rintro e w10 ⟨ra, rc, rfl, hl10⟩; rw [show (mFresh 1 n).recs.length = 0 from rfl] at hl10 ⊢; have HL10 := Lib.hid hl10; clear hl10 x1 HL9)
                go_meet
                exact ⟨_, _, _, _, _, HL10.out.two6, HGA2.out⟩
  case rest =>
    obtain ⟨g2, v, sy, r, d2, hL, hga⟩ := hcut
    clear HLa HP0 HF0 HGA0 HA HMS hac ham
    rename World => w3
    have q0 := (hL.pastF (i := 0) rfl).2.1
    have HL := Lib.hid hL
    have HGA := Lib.hid hga
    clear hL hga
    go_upto_region 14 with (have x1 := HL.out; go_at_call 21; refine (fuse_lv x1 (i := 1) (d := d2) rfl 0 (by omega) (by omega)).mono ?_; rintro e w6 ⟨rfl, hl6⟩; have HL6 := Lib.hid hl6; clear hl6 x1 HL)
    obtain ⟨LS1, hLS1⟩ : ∃ LS1, LS1 = [pastO gp g g2 n v sy r, diskO g (d2.setFuse 0)] := ⟨_, rfl⟩
    have HL7 : Hid (Lv w w6 LS1) := Lib.hid (by rw [hLS1]; exact HL6.out)
    have HPC : Hid (∀ u L, Lv w u L → (L = LS1 ∨ False) → u.cell? ⟨gp, 0, none⟩ = some (.pointer (some ⟨g, 0, none⟩)) ∧ u.cell? ⟨gp, 2, none⟩ = some (.int .i64 (n : Int))) := Lib.hid (fun u L hl hL => by
      rcases hL with rfl | hL
      · rw [hLS1] at hl; have := hl.pastF (i := 0) rfl; exact ⟨this.2.1, this.2.2.2.1⟩
      · exact hL.elim)
    have HLS1 := Lib.hid hLS1
    clear hLS1 HL6 q0
    refine Roll.region_x 11 115 DofT14 LofT14 [(3, .slice ta tn tc), (9, .pointer (some ⟨gp, 0, none⟩))] 10 [true, true, true, true, true, true, true, true, true, true, false] (fun p => Lv w p LS1) (fun vv p => ∃ ts, Lv w p (tornO vv ts :: LS1)) (fun p => p.cell? ⟨gp, 0, none⟩ = some (.pointer (some ⟨g, 0, none⟩)) ∧ p.cell? ⟨gp, 2, none⟩ = some (.int .i64 (n : Int))) (fun _ _ => True) [fun vv p => (vv 0) = .pointer (some ⟨gp, 0, none⟩), fun vv p => (vv 1) = .pointer (some ⟨gp, 0, none⟩), fun vv p => (vv 2) = .pointer (some ⟨gp, 0, none⟩), fun vv p => (vv 3) = .pointer (some ⟨g, 0, none⟩), fun vv p => (vv 4) = .slice ta tn tc, fun vv p => (vv 5) = .pointer (some ⟨gp, 0, none⟩), fun vv p => (vv 6) = .pointer (some ⟨gp, 0, none⟩), fun vv p => (vv 7) = .pointer (some ⟨gp, 2, none⟩), fun vv p => (vv 8) = .int .i64 (n : Int), fun vv p => (vv 9) = .int .i64 ((DS : Nat) : Int), fun vv p => ∃ x, (vv 10) = x] (by kernel_rfl) (by kernel_rfl) rfl ⟨rfl, rfl, trivial⟩ (HL7.out.below (Below.refl _ _).drew) (by decide) (by kernel_rfl) (fun p hp => HPC.out p LS1 hp (.inl rfl)) (fun u p hp => by obtain ⟨ts, hl⟩ := hp; exact HPC.out p _ hl.tail (.inl rfl)) (fun _ => trivial) ?_ ?_ ?_
    · exact ⟨fun _ _ _ _ h => h, fun _ _ _ _ h => h, fun _ _ _ _ h => h, fun _ _ _ _ h => h, fun _ _ _ _ h => h, fun _ _ _ _ h => h, fun _ _ _ _ h => h, fun _ _ _ _ h => h, fun _ _ _ _ h => h, fun _ _ _ _ h => h, fun _ _ _ _ h => h, trivial⟩
    · intro b0 hN hlv
      refine ⟨?_, ?_, ?_, ?_, ?_, ?_, ?_, ?_, ?_, ?_, ?_, trivial⟩
      · intro vs p hI0 hp
        have hI := Roll.inw_pure (by decide) rfl hI0
        clear hI0
        have e9 : (Roll.putD DofT14 vs [] b0).eval (.tmp 9) = .pointer (some ⟨gp, 0, none⟩) := (Roll.eval_old rfl).trans (hlv.at 1 (9, .pointer (some ⟨gp, 0, none⟩)) rfl)
        clear hp hlv hN
        unfold Roll.Goes
        simp only [LofT14, List.getD_cons_zero, List.getD_cons_succ]
        generalize Roll.putD DofT14 vs [] b0 = a1 at *
        refine Roll.goes_val (w' := p) (.pointer (some ⟨gp, 0, none⟩)) rfl ?_ ⟨(Roll.outw_pure (by decide) rfl), rfl⟩
        (have ec : ∀ x, a1.eval (.const x) = x := fun _ => rfl); (have ef : ∀ x, a1.eval (.func x) = .func (.func x) #[] #[] := fun _ => rfl); generalize a1.eval = ρ at *
        skip
        go_simp <;> (intros; first | (exfalso; omega) | rfl)
      · intro vs p hI0 hp
        have hI := Roll.inw_pure (by decide) rfl hI0
        clear hI0
        have h0 : (vs 0) = .pointer (some ⟨gp, 0, none⟩) := hp 0 (by simp [LofT14])
        have e66 : (Roll.putD DofT14 vs [0] b0).eval (.tmp 66) = .pointer (some ⟨gp, 0, none⟩) := (Roll.eval_new 0 rfl (by decide) (by decide) (by omega)).trans h0
        clear hp hlv hN
        unfold Roll.Goes
        simp only [LofT14, List.getD_cons_zero, List.getD_cons_succ]
        generalize Roll.putD DofT14 vs [0] b0 = a1 at *
        refine Roll.goes_val (w' := p) (.pointer (some ⟨gp, 0, none⟩)) rfl ?_ ⟨(Roll.outw_pure (by decide) rfl), rfl⟩
        (have ec : ∀ x, a1.eval (.const x) = x := fun _ => rfl); (have ef : ∀ x, a1.eval (.func x) = .func (.func x) #[] #[] := fun _ => rfl); generalize a1.eval = ρ at *
        clear h0
        go_simp <;> (intros; first | (exfalso; omega) | rfl)
      · intro vs p hI0 hp
        have hI := Roll.inw_pure (by decide) rfl hI0
        clear hI0
        have h1 : (vs 1) = .pointer (some ⟨gp, 0, none⟩) := hp 1 (by simp [LofT14])
        have e67 : (Roll.putD DofT14 vs [1] b0).eval (.tmp 67) = .pointer (some ⟨gp, 0, none⟩) := (Roll.eval_new 1 rfl (by decide) (by decide) (by omega)).trans h1
        clear hp hlv hN
        unfold Roll.Goes
        simp only [LofT14, List.getD_cons_zero, List.getD_cons_succ]
        generalize Roll.putD DofT14 vs [1] b0 = a1 at *
        refine Roll.goes_val (w' := p) (.pointer (some ⟨gp, 0, none⟩)) rfl ?_ ⟨(Roll.outw_pure (by decide) rfl), rfl⟩
        (have ec : ∀ x, a1.eval (.const x) = x := fun _ => rfl); (have ef : ∀ x, a1.eval (.func x) = .func (.func x) #[] #[] := fun _ => rfl); generalize a1.eval = ρ at *
        clear h1
        go_simp <;> (intros; first | (exfalso; omega) | rfl)
      · intro vs p hI0 hp
        have hI := Roll.inw_pure (by decide) rfl hI0
        clear hI0
        have h2 : (vs 2) = .pointer (some ⟨gp, 0, none⟩) := hp 2 (by simp [LofT14])
        have e68 : (Roll.putD DofT14 vs [2] b0).eval (.tmp 68) = .pointer (some ⟨gp, 0, none⟩) := (Roll.eval_new 2 rfl (by decide) (by decide) (by omega)).trans h2
        clear hp hlv hN
        unfold Roll.Goes
        simp only [LofT14, List.getD_cons_zero, List.getD_cons_succ]
        generalize Roll.putD DofT14 vs [2] b0 = a1 at *
        have cf := hI.1
        refine Roll.goes_val (w' := p) (.pointer (some ⟨g, 0, none⟩)) rfl ?_ ⟨(Roll.outw_pure (by decide) rfl), rfl⟩
        (have ec : ∀ x, a1.eval (.const x) = x := fun _ => rfl); (have ef : ∀ x, a1.eval (.func x) = .func (.func x) #[] #[] := fun _ => rfl); generalize a1.eval = ρ at *
        go_simp <;> (intros; first | (exfalso; omega) | rfl)
      · intro vs p hI0 hp
        have hI := Roll.inw_pure (by decide) rfl hI0
        clear hI0
        have e3 : (Roll.putD DofT14 vs [] b0).eval (.tmp 3) = .slice ta tn tc := (Roll.eval_old rfl).trans (hlv.at 0 (3, .slice ta tn tc) rfl)
        clear hp hlv hN
        unfold Roll.Goes
        simp only [LofT14, List.getD_cons_zero, List.getD_cons_succ]
        generalize Roll.putD DofT14 vs [] b0 = a1 at *
        refine Roll.goes_val (w' := p) (.slice ta tn tc) rfl ?_ ⟨(Roll.outw_pure (by decide) rfl), rfl⟩
        (have ec : ∀ x, a1.eval (.const x) = x := fun _ => rfl); (have ef : ∀ x, a1.eval (.func x) = .func (.func x) #[] #[] := fun _ => rfl); generalize a1.eval = ρ at *
        skip
        go_simp <;> (intros; first | (exfalso; omega) | rfl)
      · intro vs p hI0 hp
        have hI := Roll.inw_pure (by decide) rfl hI0
        clear hI0
        have e9 : (Roll.putD DofT14 vs [] b0).eval (.tmp 9) = .pointer (some ⟨gp, 0, none⟩) := (Roll.eval_old rfl).trans (hlv.at 1 (9, .pointer (some ⟨gp, 0, none⟩)) rfl)
        clear hp hlv hN
        unfold Roll.Goes
        simp only [LofT14, List.getD_cons_zero, List.getD_cons_succ]
        generalize Roll.putD DofT14 vs [] b0 = a1 at *
        refine Roll.goes_val (w' := p) (.pointer (some ⟨gp, 0, none⟩)) rfl ?_ ⟨(Roll.outw_pure (by decide) rfl), rfl⟩
        (have ec : ∀ x, a1.eval (.const x) = x := fun _ => rfl); (have ef : ∀ x, a1.eval (.func x) = .func (.func x) #[] #[] := fun _ => rfl); generalize a1.eval = ρ at *
        skip
        go_simp <;> (intros; first | (exfalso; omega) | rfl)
      · intro vs p hI0 hp
        have hI := Roll.inw_pure (by decide) rfl hI0
        clear hI0
        have h5 : (vs 5) = .pointer (some ⟨gp, 0, none⟩) := hp 5 (by simp [LofT14])
        have e71 : (Roll.putD DofT14 vs [5] b0).eval (.tmp 71) = .pointer (some ⟨gp, 0, none⟩) := (Roll.eval_new 5 rfl (by decide) (by decide) (by omega)).trans h5
        clear hp hlv hN
        unfold Roll.Goes
        simp only [LofT14, List.getD_cons_zero, List.getD_cons_succ]
        generalize Roll.putD DofT14 vs [5] b0 = a1 at *
        refine Roll.goes_val (w' := p) (.pointer (some ⟨gp, 0, none⟩)) rfl ?_ ⟨(Roll.outw_pure (by decide) rfl), rfl⟩
        (have ec : ∀ x, a1.eval (.const x) = x := fun _ => rfl); (have ef : ∀ x, a1.eval (.func x) = .func (.func x) #[] #[] := fun _ => rfl); generalize a1.eval = ρ at *
        clear h5
        go_simp <;> (intros; first | (exfalso; omega) | rfl)
      · intro vs p hI0 hp
        have hI := Roll.inw_pure (by decide) rfl hI0
        clear hI0
        have h6 : (vs 6) = .pointer (some ⟨gp, 0, none⟩) := hp 6 (by simp [LofT14])
        have e72 : (Roll.putD DofT14 vs [6] b0).eval (.tmp 72) = .pointer (some ⟨gp, 0, none⟩) := (Roll.eval_new 6 rfl (by decide) (by decide) (by omega)).trans h6
        clear hp hlv hN
        unfold Roll.Goes
        simp only [LofT14, List.getD_cons_zero, List.getD_cons_succ]
        generalize Roll.putD DofT14 vs [6] b0 = a1 at *
        refine Roll.goes_val (w' := p) (.pointer (some ⟨gp, 2, none⟩)) rfl ?_ ⟨(Roll.outw_pure (by decide) rfl), rfl⟩
        (have ec : ∀ x, a1.eval (.const x) = x := fun _ => rfl); (have ef : ∀ x, a1.eval (.func x) = .func (.func x) #[] #[] := fun _ => rfl); generalize a1.eval = ρ at *
        clear h6
        go_simp <;> (intros; first | (exfalso; omega) | rfl)
      · intro vs p hI0 hp
        have hI := Roll.inw_pure (by decide) rfl hI0
        clear hI0
        have h7 : (vs 7) = .pointer (some ⟨gp, 2, none⟩) := hp 7 (by simp [LofT14])
        have e73 : (Roll.putD DofT14 vs [7] b0).eval (.tmp 73) = .pointer (some ⟨gp, 2, none⟩) := (Roll.eval_new 7 rfl (by decide) (by decide) (by omega)).trans h7
        clear hp hlv hN
        unfold Roll.Goes
        simp only [LofT14, List.getD_cons_zero, List.getD_cons_succ]
        generalize Roll.putD DofT14 vs [7] b0 = a1 at *
        have cf := hI.2
        refine Roll.goes_val (w' := p) (.int .i64 (n : Int)) rfl ?_ ⟨(Roll.outw_pure (by decide) rfl), rfl⟩
        (have ec : ∀ x, a1.eval (.const x) = x := fun _ => rfl); (have ef : ∀ x, a1.eval (.func x) = .func (.func x) #[] #[] := fun _ => rfl); generalize a1.eval = ρ at *
        go_simp <;> (intros; first | (exfalso; omega) | rfl)
      · intro vs p hI0 hp
        have hI := Roll.inw_pure (by decide) rfl hI0
        clear hI0
        have h8 : (vs 8) = .int .i64 (n : Int) := hp 8 (by simp [LofT14])
        have e74 : (Roll.putD DofT14 vs [8] b0).eval (.tmp 74) = .int .i64 (n : Int) := (Roll.eval_new 8 rfl (by decide) (by decide) (by omega)).trans h8
        clear hp hlv hN
        unfold Roll.Goes
        simp only [LofT14, List.getD_cons_zero, List.getD_cons_succ]
        generalize Roll.putD DofT14 vs [8] b0 = a1 at *
        refine Roll.goes_val (w' := p) (.int .i64 ((DS : Nat) : Int)) rfl ?_ ⟨(Roll.outw_pure (by decide) rfl), rfl⟩
        (have ec : ∀ x, a1.eval (.const x) = x := fun _ => rfl); (have ef : ∀ x, a1.eval (.func x) = .func (.func x) #[] #[] := fun _ => rfl); generalize a1.eval = ρ at *
        clear h8
        go_simp <;> (intros; first | (exfalso; omega) | rfl)
      · intro vs p hI0 hp
        have hI := Roll.inw_k0 rfl hI0
        clear hI0
        have h4 : (vs 4) = .slice ta tn tc := hp 4 (by simp [LofT14])
        have h9 : (vs 9) = .int .i64 ((DS : Nat) : Int) := hp 9 (by simp [LofT14])
        have e70 : (Roll.putD DofT14 vs [4, 9] b0).eval (.tmp 70) = .slice ta tn tc := (Roll.eval_new 4 rfl (by decide) (by decide) (by omega)).trans h4
        have e75 : (Roll.putD DofT14 vs [4, 9] b0).eval (.tmp 75) = .int .i64 ((DS : Nat) : Int) := (Roll.eval_new 9 rfl (by decide) (by decide) (by omega)).trans h9
        clear hp hlv hN
        unfold Roll.Goes
        simp only [LofT14, List.getD_cons_zero, List.getD_cons_succ]
        generalize Roll.putD DofT14 vs [4, 9] b0 = a1 at *
        refine Roll.goes_call 25 #[.slice ta tn tc, .int .i64 ((DS : Nat) : Int)] p rfl (by have ec : ∀ x, a1.eval (.const x) = x := fun _ => rfl; have ef : ∀ x, a1.eval (.func x) = .func (.func x) #[] #[] := fun _ => rfl; generalize a1.eval = ρ at *; go_simp) ?_
        refine (HTO.out p _ hI).mono ?_
        rintro y p2 ⟨v, ts, rfl, hl⟩
        exact ⟨_, rfl, Roll.outw_k0 rfl ⟨ts, hl⟩ trivial, _, rfl⟩
    · intro vs p hI hR
      have h0 : (vs 0) = .pointer (some ⟨gp, 0, none⟩) := hR 0 (by omega)
      have h1 : (vs 1) = .pointer (some ⟨gp, 0, none⟩) := hR 1 (by omega)
      have h2 : (vs 2) = .pointer (some ⟨gp, 0, none⟩) := hR 2 (by omega)
      have h3 : (vs 3) = .pointer (some ⟨g, 0, none⟩) := hR 3 (by omega)
      have h4 : (vs 4) = .slice ta tn tc := hR 4 (by omega)
      have h5 : (vs 5) = .pointer (some ⟨gp, 0, none⟩) := hR 5 (by omega)
      have h6 : (vs 6) = .pointer (some ⟨gp, 0, none⟩) := hR 6 (by omega)
      have h7 : (vs 7) = .pointer (some ⟨gp, 2, none⟩) := hR 7 (by omega)
      have h8 : (vs 8) = .int .i64 (n : Int) := hR 8 (by omega)
      have h9 : (vs 9) = .int .i64 ((DS : Nat) : Int) := hR 9 (by omega)
      have h10 : ∃ x, (vs 10) = x := hR 10 (by omega)
      clear hR
      simp only [List.range_succ, List.range_zero, List.nil_append, List.cons_append, Roll.putD, Act.put, List.getD_cons_zero, List.getD_cons_succ, List.setIfInBounds_toArray, List.set_cons_zero, List.set_cons_succ, List.drop_succ_cons, List.drop_zero, DofT14]
      simp only [h0, h1, h2, h3, h4, h5, h6, h7, h8, h9]
      clear h0 h1 h2 h3 h4 h5 h6 h7 h8 h9
      clear h10
      generalize vs 10 = v10 at *
      obtain ⟨ts, hl⟩ := hI
      rw [HLS1.out] at hl
      have HLT := Lib.hid hl
      clear hl HL7 HTO HPC
      go_upto_region 15 with (have x1 := HLT.out; go_at_call 28; obtain ⟨BT, ⟨ta2, tc2, htv, hTS⟩, -, -, -⟩ := HLT.out.get (i := 0) (o := tornO v10 ts) rfl; subst htv; refine (restart_lv x1 (i := 2) (d := d2.setFuse 0) rfl hTS (.inr ⟨0, _, by omega, rfl, rfl⟩)).mono ?_; rintro e w7 ⟨rfl, hl7⟩; have HL8 : Hid (Lv w w7 [tornO (.slice ta2 ts.length tc2) ts, pastO gp g g2 n v sy r, diskO g (cutD d2 ts)]) := Lib.hid hl7; clear hl7 hTS x1 HLT)
      have HGC := Lib.hid (cutD_ga HGA.out ts)
      obtain ⟨LST, hLST⟩ : ∃ LST, LST = [tornO (.slice ta2 ts.length tc2) ts, pastO gp g g2 n v sy r, diskO g (cutD d2 ts)] := ⟨_, rfl⟩
      have HL7 : Hid (Lv w w7 LST) := Lib.hid (by rw [hLST]; exact HL8.out)
      obtain ⟨MO, hMO⟩ : ∃ MO, MO = mOpen 1 n 2 [] := ⟨_, rfl⟩
      have HOP : Hid (∀ u, Lv w u LST → Calls Try.prog 18 #[.pointer (some ⟨g, 0, none⟩), .int .i64 1, .int .i64 (n : Int)] u fun x w' => ∃ gk, x = .returned (.tuple #[.pointer (some ⟨gk, 0, none⟩), .int .i64 0]) ∧ Lv w w' (logO gk g MO :: LST)) := Lib.hid (fun u hl => by rw [hLST] at hl ⊢; rw [hMO]; exact open_ga hl (j := 2) rfl HGC.out (show 1 ≤ 4096 by omega) HNB.out.1 (show n ≤ 200 by have := HNB.out.2; omega) (cutD_on _ _))
      have HPC : Hid (∀ u, Lv w u LST → u.cell? ⟨gp, 0, none⟩ = some (.pointer (some ⟨g, 0, none⟩)) ∧ u.cell? ⟨gp, 2, none⟩ = some (.int .i64 (n : Int))) := Lib.hid (fun u hl => by rw [hLST] at hl; have := hl.pastF (i := 1) rfl; exact ⟨this.2.1, this.2.2.2.1⟩)
      have HLST := Lib.hid hLST
      have HMO := Lib.hid hMO
      clear hLST hMO HL8 HLS1
      refine Roll.region_v 14 115 DofT15 LofT15 [(9, .pointer (some ⟨gp, 0, none⟩))] 8 [true, true, true, false, true, true, true, false, false, true, true, true, true, true] (fun p => Lv w p LST) (fun vv p => ∃ gk, vv = .tuple #[.pointer (some ⟨gk, 0, none⟩), .int .i64 0] ∧ Lv w p (logO gk g MO :: LST)) (fun p => True) (fun _ _ => True) [fun vv p => (vv 0) = .pointer (some ⟨gp, 0, none⟩), fun vv p => (vv 1) = .pointer (some ⟨gp, 0, none⟩), fun vv p => (vv 2) = .pointer (some ⟨gp, 0, none⟩), fun vv p => (vv 3) = .pointer (some ⟨g, 0, none⟩), fun vv p => (vv 4) = .pointer (some ⟨gp, 0, none⟩), fun vv p => (vv 5) = .pointer (some ⟨gp, 0, none⟩), fun vv p => (vv 6) = .pointer (some ⟨gp, 2, none⟩), fun vv p => (vv 7) = .int .i64 (n : Int), fun vv p => ∃ gk, (vv 8) = .tuple #[.pointer (some ⟨gk, 0, none⟩), .int .i64 0], fun vv p => ∃ gk, (vv 8) = .tuple #[.pointer (some ⟨gk, 0, none⟩), .int .i64 0] ∧ (vv 9) = .tuple #[.pointer (some ⟨gk, 0, none⟩), .int .i64 0], fun vv p => ∃ gk, (vv 9) = .tuple #[.pointer (some ⟨gk, 0, none⟩), .int .i64 0] ∧ (vv 10) = .pointer (some ⟨gk, 0, none⟩), fun vv p => (vv 11) = .int .i64 0, fun vv p => ∃ gk, (vv 10) = .pointer (some ⟨gk, 0, none⟩) ∧ (vv 12) = .pointer (some ⟨gk, 0, none⟩), fun vv p => (vv 13) = .int .i64 0] (by kernel_rfl) (by kernel_rfl) rfl ⟨rfl, trivial⟩ (HL7.out.below (Below.refl _ _).drew) (by decide) (by kernel_rfl) (fun _ _ => trivial) (fun _ _ _ => trivial) (fun _ => trivial) ?_ ?_ ?_
      · exact ⟨fun _ _ _ _ h => h, fun _ _ _ _ h => h, fun _ _ _ _ h => h, fun _ _ _ _ h => h, fun _ _ _ _ h => h, fun _ _ _ _ h => h, fun _ _ _ _ h => h, fun _ _ _ _ h => h, fun _ _ _ _ h => h, fun _ _ _ _ h => h, fun _ _ _ _ h => h, fun _ _ _ _ h => h, fun _ _ _ _ h => h, fun _ _ _ _ h => h, trivial⟩
      · intro b0 hN hlv
        refine ⟨?_, ?_, ?_, ?_, ?_, ?_, ?_, ?_, ?_, ?_, ?_, ?_, ?_, ?_, trivial⟩
        · intro vs p hI0 hp
          have hI := Roll.inw_pure (by decide) rfl hI0
          clear hI0
          have e9 : (Roll.putD DofT15 vs [] b0).eval (.tmp 9) = .pointer (some ⟨gp, 0, none⟩) := (Roll.eval_old rfl).trans (hlv.at 0 (9, .pointer (some ⟨gp, 0, none⟩)) rfl)
          clear hp hlv hN
          unfold Roll.Goes
          simp only [LofT15, List.getD_cons_zero, List.getD_cons_succ]
          generalize Roll.putD DofT15 vs [] b0 = a1 at *
          refine Roll.goes_val (w' := p) (.pointer (some ⟨gp, 0, none⟩)) rfl ?_ ⟨(Roll.outw_pure (by decide) rfl), rfl⟩
          (have ec : ∀ x, a1.eval (.const x) = x := fun _ => rfl); (have ef : ∀ x, a1.eval (.func x) = .func (.func x) #[] #[] := fun _ => rfl); generalize a1.eval = ρ at *
          skip
          go_simp <;> (intros; first | (exfalso; omega) | rfl)
        · intro vs p hI0 hp
          have hI := Roll.inw_pure (by decide) rfl hI0
          clear hI0
          have h0 : (vs 0) = .pointer (some ⟨gp, 0, none⟩) := hp 0 (by simp [LofT15])
          have e79 : (Roll.putD DofT15 vs [0] b0).eval (.tmp 79) = .pointer (some ⟨gp, 0, none⟩) := (Roll.eval_new 0 rfl (by decide) (by decide) (by omega)).trans h0
          clear hp hlv hN
          unfold Roll.Goes
          simp only [LofT15, List.getD_cons_zero, List.getD_cons_succ]
          generalize Roll.putD DofT15 vs [0] b0 = a1 at *
          refine Roll.goes_val (w' := p) (.pointer (some ⟨gp, 0, none⟩)) rfl ?_ ⟨(Roll.outw_pure (by decide) rfl), rfl⟩
          (have ec : ∀ x, a1.eval (.const x) = x := fun _ => rfl); (have ef : ∀ x, a1.eval (.func x) = .func (.func x) #[] #[] := fun _ => rfl); generalize a1.eval = ρ at *
          clear h0
          go_simp <;> (intros; first | (exfalso; omega) | rfl)
        · intro vs p hI0 hp
          have hI := Roll.inw_pure (by decide) rfl hI0
          clear hI0
          have h1 : (vs 1) = .pointer (some ⟨gp, 0, none⟩) := hp 1 (by simp [LofT15])
          have e80 : (Roll.putD DofT15 vs [1] b0).eval (.tmp 80) = .pointer (some ⟨gp, 0, none⟩) := (Roll.eval_new 1 rfl (by decide) (by decide) (by omega)).trans h1
          clear hp hlv hN
          unfold Roll.Goes
          simp only [LofT15, List.getD_cons_zero, List.getD_cons_succ]
          generalize Roll.putD DofT15 vs [1] b0 = a1 at *
          refine Roll.goes_val (w' := p) (.pointer (some ⟨gp, 0, none⟩)) rfl ?_ ⟨(Roll.outw_pure (by decide) rfl), rfl⟩
          (have ec : ∀ x, a1.eval (.const x) = x := fun _ => rfl); (have ef : ∀ x, a1.eval (.func x) = .func (.func x) #[] #[] := fun _ => rfl); generalize a1.eval = ρ at *
          clear h1
          go_simp <;> (intros; first | (exfalso; omega) | rfl)
        · intro vs p hI0 hp
          have hI := Roll.inw_pre (by decide) rfl hI0
          clear hI0
          have h2 : (vs 2) = .pointer (some ⟨gp, 0, none⟩) := hp 2 (by simp [LofT15])
          have e81 : (Roll.putD DofT15 vs [2] b0).eval (.tmp 81) = .pointer (some ⟨gp, 0, none⟩) := (Roll.eval_new 2 rfl (by decide) (by decide) (by omega)).trans h2
          clear hp hlv hN
          unfold Roll.Goes
          simp only [LofT15, List.getD_cons_zero, List.getD_cons_succ]
          generalize Roll.putD DofT15 vs [2] b0 = a1 at *
          have cf := (HPC.out p hI).1
          refine Roll.goes_val (w' := p) (.pointer (some ⟨g, 0, none⟩)) rfl ?_ ⟨Roll.outw_pre (by decide) rfl hI trivial, rfl⟩
          (have ec : ∀ x, a1.eval (.const x) = x := fun _ => rfl); (have ef : ∀ x, a1.eval (.func x) = .func (.func x) #[] #[] := fun _ => rfl); generalize a1.eval = ρ at *
          go_simp <;> (intros; first | (exfalso; omega) | rfl)
        · intro vs p hI0 hp
          have hI := Roll.inw_pure (by decide) rfl hI0
          clear hI0
          have e9 : (Roll.putD DofT15 vs [] b0).eval (.tmp 9) = .pointer (some ⟨gp, 0, none⟩) := (Roll.eval_old rfl).trans (hlv.at 0 (9, .pointer (some ⟨gp, 0, none⟩)) rfl)
          clear hp hlv hN
          unfold Roll.Goes
          simp only [LofT15, List.getD_cons_zero, List.getD_cons_succ]
          generalize Roll.putD DofT15 vs [] b0 = a1 at *
          refine Roll.goes_val (w' := p) (.pointer (some ⟨gp, 0, none⟩)) rfl ?_ ⟨(Roll.outw_pure (by decide) rfl), rfl⟩
          (have ec : ∀ x, a1.eval (.const x) = x := fun _ => rfl); (have ef : ∀ x, a1.eval (.func x) = .func (.func x) #[] #[] := fun _ => rfl); generalize a1.eval = ρ at *
          skip
          go_simp <;> (intros; first | (exfalso; omega) | rfl)
        · intro vs p hI0 hp
          have hI := Roll.inw_pure (by decide) rfl hI0
          clear hI0
          have h4 : (vs 4) = .pointer (some ⟨gp, 0, none⟩) := hp 4 (by simp [LofT15])
          have e83 : (Roll.putD DofT15 vs [4] b0).eval (.tmp 83) = .pointer (some ⟨gp, 0, none⟩) := (Roll.eval_new 4 rfl (by decide) (by decide) (by omega)).trans h4
          clear hp hlv hN
          unfold Roll.Goes
          simp only [LofT15, List.getD_cons_zero, List.getD_cons_succ]
          generalize Roll.putD DofT15 vs [4] b0 = a1 at *
          refine Roll.goes_val (w' := p) (.pointer (some ⟨gp, 0, none⟩)) rfl ?_ ⟨(Roll.outw_pure (by decide) rfl), rfl⟩
          (have ec : ∀ x, a1.eval (.const x) = x := fun _ => rfl); (have ef : ∀ x, a1.eval (.func x) = .func (.func x) #[] #[] := fun _ => rfl); generalize a1.eval = ρ at *
          clear h4
          go_simp <;> (intros; first | (exfalso; omega) | rfl)
        · intro vs p hI0 hp
          have hI := Roll.inw_pure (by decide) rfl hI0
          clear hI0
          have h5 : (vs 5) = .pointer (some ⟨gp, 0, none⟩) := hp 5 (by simp [LofT15])
          have e84 : (Roll.putD DofT15 vs [5] b0).eval (.tmp 84) = .pointer (some ⟨gp, 0, none⟩) := (Roll.eval_new 5 rfl (by decide) (by decide) (by omega)).trans h5
          clear hp hlv hN
          unfold Roll.Goes
          simp only [LofT15, List.getD_cons_zero, List.getD_cons_succ]
          generalize Roll.putD DofT15 vs [5] b0 = a1 at *
          refine Roll.goes_val (w' := p) (.pointer (some ⟨gp, 2, none⟩)) rfl ?_ ⟨(Roll.outw_pure (by decide) rfl), rfl⟩
          (have ec : ∀ x, a1.eval (.const x) = x := fun _ => rfl); (have ef : ∀ x, a1.eval (.func x) = .func (.func x) #[] #[] := fun _ => rfl); generalize a1.eval = ρ at *
          clear h5
          go_simp <;> (intros; first | (exfalso; omega) | rfl)
        · intro vs p hI0 hp
          have hI := Roll.inw_pre (by decide) rfl hI0
          clear hI0
          have h6 : (vs 6) = .pointer (some ⟨gp, 2, none⟩) := hp 6 (by simp [LofT15])
          have e85 : (Roll.putD DofT15 vs [6] b0).eval (.tmp 85) = .pointer (some ⟨gp, 2, none⟩) := (Roll.eval_new 6 rfl (by decide) (by decide) (by omega)).trans h6
          clear hp hlv hN
          unfold Roll.Goes
          simp only [LofT15, List.getD_cons_zero, List.getD_cons_succ]
          generalize Roll.putD DofT15 vs [6] b0 = a1 at *
          have cf := (HPC.out p hI).2
          refine Roll.goes_val (w' := p) (.int .i64 (n : Int)) rfl ?_ ⟨Roll.outw_pre (by decide) rfl hI trivial, rfl⟩
          (have ec : ∀ x, a1.eval (.const x) = x := fun _ => rfl); (have ef : ∀ x, a1.eval (.func x) = .func (.func x) #[] #[] := fun _ => rfl); generalize a1.eval = ρ at *
          go_simp <;> (intros; first | (exfalso; omega) | rfl)
        · intro vs p hI0 hp
          have hI := Roll.inw_k0 rfl hI0
          clear hI0
          have h3 : (vs 3) = .pointer (some ⟨g, 0, none⟩) := hp 3 (by simp [LofT15])
          have h7 : (vs 7) = .int .i64 (n : Int) := hp 7 (by simp [LofT15])
          have e82 : (Roll.putD DofT15 vs [3, 7] b0).eval (.tmp 82) = .pointer (some ⟨g, 0, none⟩) := (Roll.eval_new 3 rfl (by decide) (by decide) (by omega)).trans h3
          have e86 : (Roll.putD DofT15 vs [3, 7] b0).eval (.tmp 86) = .int .i64 (n : Int) := (Roll.eval_new 7 rfl (by decide) (by decide) (by omega)).trans h7
          clear hp hlv hN
          unfold Roll.Goes
          simp only [LofT15, List.getD_cons_zero, List.getD_cons_succ]
          generalize Roll.putD DofT15 vs [3, 7] b0 = a1 at *
          refine Roll.goes_call 18 #[.pointer (some ⟨g, 0, none⟩), .int .i64 1, .int .i64 (n : Int)] p rfl (by have ec : ∀ x, a1.eval (.const x) = x := fun _ => rfl; have ef : ∀ x, a1.eval (.func x) = .func (.func x) #[] #[] := fun _ => rfl; generalize a1.eval = ρ at *; go_simp) ?_
          refine (HOP.out p hI).mono ?_
          rintro y p2 ⟨gk, rfl, hl⟩
          exact ⟨_, rfl, Roll.outw_k0 rfl ⟨gk, rfl, hl⟩ trivial, gk, rfl⟩
        · intro vs p hI0 hp
          have hI := Roll.inw_pure (by decide) rfl hI0
          clear hI0
          have h8 : ∃ gk, (vs 8) = .tuple #[.pointer (some ⟨gk, 0, none⟩), .int .i64 0] := hp 8 (by simp [LofT15])
          have e87 : (Roll.putD DofT15 vs [8] b0).eval (.tmp 87) = vs 8 := (Roll.eval_new 8 rfl (by decide) (by decide) (by omega))
          clear hp hlv hN
          unfold Roll.Goes
          simp only [LofT15, List.getD_cons_zero, List.getD_cons_succ]
          generalize Roll.putD DofT15 vs [8] b0 = a1 at *
          obtain ⟨gk, hv⟩ := h8
          rw [hv] at e87
          refine Roll.goes_val (w' := p) (.tuple #[.pointer (some ⟨gk, 0, none⟩), .int .i64 0]) rfl ?_ ⟨(Roll.outw_pure (by decide) rfl), gk, hv, rfl⟩
          (have ec : ∀ x, a1.eval (.const x) = x := fun _ => rfl); (have ef : ∀ x, a1.eval (.func x) = .func (.func x) #[] #[] := fun _ => rfl); generalize a1.eval = ρ at *
          go_simp <;> (intros; first | (exfalso; omega) | rfl)
        · intro vs p hI0 hp
          have hI := Roll.inw_pure (by decide) rfl hI0
          clear hI0
          have h9 : ∃ gk, (vs 8) = .tuple #[.pointer (some ⟨gk, 0, none⟩), .int .i64 0] ∧ (vs 9) = .tuple #[.pointer (some ⟨gk, 0, none⟩), .int .i64 0] := hp 9 (by simp [LofT15])
          have e78 : (Roll.putD DofT15 vs [9] b0).eval (.tmp 78) = vs 9 := (Roll.eval_new 9 rfl (by decide) (by decide) (by omega))
          clear hp hlv hN
          unfold Roll.Goes
          simp only [LofT15, List.getD_cons_zero, List.getD_cons_succ]
          generalize Roll.putD DofT15 vs [9] b0 = a1 at *
          obtain ⟨gk, -, hv⟩ := h9
          rw [hv] at e78
          refine Roll.goes_val (w' := p) (.pointer (some ⟨gk, 0, none⟩)) rfl ?_ ⟨(Roll.outw_pure (by decide) rfl), gk, hv, rfl⟩
          (have ec : ∀ x, a1.eval (.const x) = x := fun _ => rfl); (have ef : ∀ x, a1.eval (.func x) = .func (.func x) #[] #[] := fun _ => rfl); generalize a1.eval = ρ at *
          go_simp <;> (intros; first | (exfalso; omega) | rfl)
        · intro vs p hI0 hp
          have hI := Roll.inw_pure (by decide) rfl hI0
          clear hI0
          have h9 : ∃ gk, (vs 8) = .tuple #[.pointer (some ⟨gk, 0, none⟩), .int .i64 0] ∧ (vs 9) = .tuple #[.pointer (some ⟨gk, 0, none⟩), .int .i64 0] := hp 9 (by simp [LofT15])
          have e78 : (Roll.putD DofT15 vs [9] b0).eval (.tmp 78) = vs 9 := (Roll.eval_new 9 rfl (by decide) (by decide) (by omega))
          clear hp hlv hN
          unfold Roll.Goes
          simp only [LofT15, List.getD_cons_zero, List.getD_cons_succ]
          generalize Roll.putD DofT15 vs [9] b0 = a1 at *
          obtain ⟨gk, -, hv⟩ := h9
          rw [hv] at e78
          refine Roll.goes_val (w' := p) (.int .i64 0) rfl ?_ ⟨(Roll.outw_pure (by decide) rfl), rfl⟩
          (have ec : ∀ x, a1.eval (.const x) = x := fun _ => rfl); (have ef : ∀ x, a1.eval (.func x) = .func (.func x) #[] #[] := fun _ => rfl); generalize a1.eval = ρ at *
          go_simp <;> (intros; first | (exfalso; omega) | rfl)
        · intro vs p hI0 hp
          have hI := Roll.inw_pure (by decide) rfl hI0
          clear hI0
          have h10 : ∃ gk, (vs 9) = .tuple #[.pointer (some ⟨gk, 0, none⟩), .int .i64 0] ∧ (vs 10) = .pointer (some ⟨gk, 0, none⟩) := hp 10 (by simp [LofT15])
          have e88 : (Roll.putD DofT15 vs [10] b0).eval (.tmp 88) = vs 10 := (Roll.eval_new 10 rfl (by decide) (by decide) (by omega))
          clear hp hlv hN
          unfold Roll.Goes
          simp only [LofT15, List.getD_cons_zero, List.getD_cons_succ]
          generalize Roll.putD DofT15 vs [10] b0 = a1 at *
          obtain ⟨gk, -, hv⟩ := h10
          rw [hv] at e88
          refine Roll.goes_val (w' := p) (.pointer (some ⟨gk, 0, none⟩)) rfl ?_ ⟨(Roll.outw_pure (by decide) rfl), gk, hv, rfl⟩
          (have ec : ∀ x, a1.eval (.const x) = x := fun _ => rfl); (have ef : ∀ x, a1.eval (.func x) = .func (.func x) #[] #[] := fun _ => rfl); generalize a1.eval = ρ at *
          go_simp <;> (intros; first | (exfalso; omega) | rfl)
        · intro vs p hI0 hp
          have hI := Roll.inw_pure (by decide) rfl hI0
          clear hI0
          have h11 : (vs 11) = .int .i64 0 := hp 11 (by simp [LofT15])
          have e89 : (Roll.putD DofT15 vs [11] b0).eval (.tmp 89) = .int .i64 0 := (Roll.eval_new 11 rfl (by decide) (by decide) (by omega)).trans h11
          clear hp hlv hN
          unfold Roll.Goes
          simp only [LofT15, List.getD_cons_zero, List.getD_cons_succ]
          generalize Roll.putD DofT15 vs [11] b0 = a1 at *
          refine Roll.goes_val (w' := p) (.int .i64 0) rfl ?_ ⟨(Roll.outw_pure (by decide) rfl), rfl⟩
          (have ec : ∀ x, a1.eval (.const x) = x := fun _ => rfl); (have ef : ∀ x, a1.eval (.func x) = .func (.func x) #[] #[] := fun _ => rfl); generalize a1.eval = ρ at *
          clear h11
          go_simp <;> (intros; first | (exfalso; omega) | rfl)
      · intro vs p hI hR
        have h0 : (vs 0) = .pointer (some ⟨gp, 0, none⟩) := hR 0 (by omega)
        have h1 : (vs 1) = .pointer (some ⟨gp, 0, none⟩) := hR 1 (by omega)
        have h2 : (vs 2) = .pointer (some ⟨gp, 0, none⟩) := hR 2 (by omega)
        have h3 : (vs 3) = .pointer (some ⟨g, 0, none⟩) := hR 3 (by omega)
        have h4 : (vs 4) = .pointer (some ⟨gp, 0, none⟩) := hR 4 (by omega)
        have h5 : (vs 5) = .pointer (some ⟨gp, 0, none⟩) := hR 5 (by omega)
        have h6 : (vs 6) = .pointer (some ⟨gp, 2, none⟩) := hR 6 (by omega)
        have h7 : (vs 7) = .int .i64 (n : Int) := hR 7 (by omega)
        have h8 : ∃ gk, (vs 8) = .tuple #[.pointer (some ⟨gk, 0, none⟩), .int .i64 0] := hR 8 (by omega)
        have h9 : ∃ gk, (vs 8) = .tuple #[.pointer (some ⟨gk, 0, none⟩), .int .i64 0] ∧ (vs 9) = .tuple #[.pointer (some ⟨gk, 0, none⟩), .int .i64 0] := hR 9 (by omega)
        have h10 : ∃ gk, (vs 9) = .tuple #[.pointer (some ⟨gk, 0, none⟩), .int .i64 0] ∧ (vs 10) = .pointer (some ⟨gk, 0, none⟩) := hR 10 (by omega)
        have h11 : (vs 11) = .int .i64 0 := hR 11 (by omega)
        have h12 : ∃ gk, (vs 10) = .pointer (some ⟨gk, 0, none⟩) ∧ (vs 12) = .pointer (some ⟨gk, 0, none⟩) := hR 12 (by omega)
        have h13 : (vs 13) = .int .i64 0 := hR 13 (by omega)
        clear hR
        simp only [List.range_succ, List.range_zero, List.nil_append, List.cons_append, Roll.putD, Act.put, List.getD_cons_zero, List.getD_cons_succ, List.setIfInBounds_toArray, List.set_cons_zero, List.set_cons_succ, List.drop_succ_cons, List.drop_zero, DofT15]
        simp only [h0, h1, h2, h3, h4, h5, h6, h7, h11, h13]
        clear h0 h1 h2 h3 h4 h5 h6 h7 h11 h13
        clear h8
        generalize vs 8 = v8 at *; generalize vs 9 = v9 at *; generalize vs 10 = v10 at *; generalize vs 12 = v12 at *
        obtain ⟨gk, rfl, hl8⟩ := hI
        obtain ⟨g9, e8, rfl⟩ := h9
        obtain rfl : g9 = gk := by simpa using e8.symm
        obtain ⟨g10, e9, rfl⟩ := h10
        obtain rfl : g10 = g9 := by simpa using e9.symm
        obtain ⟨g12, e10, rfl⟩ := h12
        obtain rfl : g12 = g10 := by simpa using e10.symm
        clear e8 e9 e10
        have HL9 : Hid (Lv w p (logO g12 g (mOpen 1 n 2 []) :: [tornO (.slice ta2 ts.length tc2) ts, pastO gp g g2 n v sy r, diskO g (cutD d2 ts)])) := Lib.hid (by rw [← HMO.out, ← HLST.out]; exact hl8)
        have q9 := (HL9.out.pastF (i := 2) rfl).2.2.2.1
        obtain ⟨R, hR⟩ : ∃ R, R = roomZ n ((0 : Nat) : Int) := ⟨_, rfl⟩
        have HRR := Lib.hid hR.symm
        have HRM : Hid (∀ u, Calls Try.prog 30 #[.int .i64 (n : Int), .slice none 0 0] u fun x w' => x = .returned (.int .i64 R) ∧ u = w') := Lib.hid (fun u => by rw [hR]; exact rroom_any (fun _ => False) none 0 0 n [] u ⟨rfl, Nat.le_refl _, by omega, fun j hj => absurd hj (by simp)⟩ (by have := HNB.out.2; omega) (by simp [takR]) (by omega) (fun q hq => by cases hq))
        clear hR q9
        obtain ⟨LX, hlx, hx1, sx, hx2⟩ : ∃ LX, Lv w p LX ∧ LX[0]? = some (logO g12 g (mOpen 1 n 2 [])) ∧ ∃ sx, LX[2]? = some (pastO gp g g2 n v sx r) := ⟨_, HL9.out, rfl, _, rfl⟩
        clear hl8 HL7 HOP HPC HLST HMO HL9
        have HL7 := Lib.hid hlx
        have HRC : Hid (∀ u, Lv w u LX → Calls Try.prog 27 #[.pointer (some ⟨g12, 0, none⟩)] u fun x w' => ∃ a9 c9, x = .returned (.slice a9 0 c9) ∧ Lv w w' LX) := Lib.hid (fun u hl => (records_lv hl hx1 (Nat.zero_le _) (fun q hq => by cases hq)).mono (fun e w' ⟨a9, c9, he, hl9⟩ => ⟨a9, c9, he, hl9.tail⟩))
        have HRO : Hid (∀ u, Lv w u LX → Calls Try.prog 29 #[.pointer (some ⟨g12, 0, none⟩)] u fun x w' => x = .returned (.int .i64 R) ∧ Lv w w' LX) := Lib.hid (fun u hl => (room_lv hl hx1 (show n ≤ 4096 by have := HNB.out.2; omega) (show takR [] ≤ 1000000 by simp [takR])).mono (fun e w' he => ⟨by rw [he.1, show roomZ (mOpen 1 n 2 []).n (mOpen 1 n 2 []).tak = R from HRR.out], hl.below he.2⟩))
        have HPC : Hid (∀ u, Lv w u LX → u.cell? ⟨gp, 2, none⟩ = some (.int .i64 (n : Int))) := Lib.hid (fun u hl => (hl.pastF hx2).2.2.2.1)
        clear hlx hx1 hx2
        go_upto_region 16 with fail
        refine Roll.region_x 19 115 DofT16 LofT16 [(9, .pointer (some ⟨gp, 0, none⟩)), (13, .pointer (some ⟨g12, 0, none⟩)), (14, .int .i64 0)] 14 [true, true, true, true, true, true, true, true, false, true, true, true, true, true, false, true, true, true, true] (fun p => Lv w p LX) (fun vv p => Lv w p LX) (fun p => Lv w p LX) (fun _ _ => True) [fun vv p => (vv 0) = .int .i64 0, fun vv p => (vv 1) = .bool true, fun vv p => (vv 2) = .bool true, fun vv p => (vv 3) = .pointer (some ⟨g12, 0, none⟩), fun vv p => (vv 4) = .bool true, fun vv p => (vv 5) = .bool true, fun vv p => (vv 6) = .bool true, fun vv p => (vv 7) = .pointer (some ⟨g12, 0, none⟩), fun vv p => ∃ a9 c9, (vv 8) = .slice a9 0 c9, fun vv p => (vv 9) = .int .i64 0, fun vv p => (vv 10) = .bool true, fun vv p => (vv 11) = .bool true, fun vv p => (vv 12) = .bool true, fun vv p => (vv 13) = .pointer (some ⟨g12, 0, none⟩), fun vv p => (vv 14) = .int .i64 R, fun vv p => (vv 15) = .pointer (some ⟨gp, 0, none⟩), fun vv p => (vv 16) = .pointer (some ⟨gp, 0, none⟩), fun vv p => (vv 17) = .pointer (some ⟨gp, 2, none⟩), fun vv p => (vv 18) = .int .i64 (n : Int)] (by kernel_rfl) (by kernel_rfl) rfl ⟨rfl, rfl, rfl, trivial⟩ (HL7.out.below (Below.refl _ _).drew) (by decide) (by kernel_rfl) (fun _ h => h) (fun _ _ h => h) (fun _ => trivial) ?_ ?_ ?_
        · exact ⟨fun _ _ _ _ h => h, fun _ _ _ _ h => h, fun _ _ _ _ h => h, fun _ _ _ _ h => h, fun _ _ _ _ h => h, fun _ _ _ _ h => h, fun _ _ _ _ h => h, fun _ _ _ _ h => h, fun _ _ _ _ h => h, fun _ _ _ _ h => h, fun _ _ _ _ h => h, fun _ _ _ _ h => h, fun _ _ _ _ h => h, fun _ _ _ _ h => h, fun _ _ _ _ h => h, fun _ _ _ _ h => h, fun _ _ _ _ h => h, fun _ _ _ _ h => h, fun _ _ _ _ h => h, trivial⟩
        · intro b0 hN hlv
          refine ⟨?_, ?_, ?_, ?_, ?_, ?_, ?_, ?_, ?_, ?_, ?_, ?_, ?_, ?_, ?_, ?_, ?_, ?_, ?_, trivial⟩
          · intro vs p hI0 hp
            have hI := Roll.inw_pure (by decide) rfl hI0
            clear hI0
            have e14 : (Roll.putD DofT16 vs [] b0).eval (.tmp 14) = .int .i64 0 := (Roll.eval_old rfl).trans (hlv.at 2 (14, .int .i64 0) rfl)
            clear hp hlv hN
            unfold Roll.Goes
            simp only [LofT16, List.getD_cons_zero, List.getD_cons_succ]
            generalize Roll.putD DofT16 vs [] b0 = a1 at *
            refine Roll.goes_val (w' := p) (.int .i64 0) rfl ?_ ⟨(Roll.outw_pure (by decide) rfl), rfl⟩
            (have ec : ∀ x, a1.eval (.const x) = x := fun _ => rfl); (have ef : ∀ x, a1.eval (.func x) = .func (.func x) #[] #[] := fun _ => rfl); generalize a1.eval = ρ at *
            skip
            go_simp <;> (intros; first | (exfalso; omega) | rfl)
          · intro vs p hI0 hp
            have hI := Roll.inw_pure (by decide) rfl hI0
            clear hI0
            have h0 : (vs 0) = .int .i64 0 := hp 0 (by simp [LofT16])
            have e90 : (Roll.putD DofT16 vs [0] b0).eval (.tmp 90) = .int .i64 0 := (Roll.eval_new 0 rfl (by decide) (by decide) (by omega)).trans h0
            clear hp hlv hN
            unfold Roll.Goes
            simp only [LofT16, List.getD_cons_zero, List.getD_cons_succ]
            generalize Roll.putD DofT16 vs [0] b0 = a1 at *
            refine Roll.goes_val (w' := p) (.bool true) rfl ?_ ⟨(Roll.outw_pure (by decide) rfl), rfl⟩
            (have ec : ∀ x, a1.eval (.const x) = x := fun _ => rfl); (have ef : ∀ x, a1.eval (.func x) = .func (.func x) #[] #[] := fun _ => rfl); generalize a1.eval = ρ at *
            clear h0
            go_simp <;> (intros; first | (exfalso; omega) | rfl)
          · intro vs p hI0 hp
            have hI := Roll.inw_pure (by decide) rfl hI0
            clear hI0
            have h1 : (vs 1) = .bool true := hp 1 (by simp [LofT16])
            have e91 : (Roll.putD DofT16 vs [1] b0).eval (.tmp 91) = .bool true := (Roll.eval_new 1 rfl (by decide) (by decide) (by omega)).trans h1
            clear hp hlv hN
            unfold Roll.Goes
            simp only [LofT16, List.getD_cons_zero, List.getD_cons_succ]
            generalize Roll.putD DofT16 vs [1] b0 = a1 at *
            refine Roll.goes_val (w' := p) (.bool true) rfl ?_ ⟨(Roll.outw_pure (by decide) rfl), rfl⟩
            (have ec : ∀ x, a1.eval (.const x) = x := fun _ => rfl); (have ef : ∀ x, a1.eval (.func x) = .func (.func x) #[] #[] := fun _ => rfl); generalize a1.eval = ρ at *
            clear h1
            go_simp <;> (intros; first | (exfalso; omega) | rfl)
          · intro vs p hI0 hp
            have hI := Roll.inw_pure (by decide) rfl hI0
            clear hI0
            have h2 : (vs 2) = .bool true := hp 2 (by simp [LofT16])
            have e13 : (Roll.putD DofT16 vs [2] b0).eval (.tmp 13) = .pointer (some ⟨g12, 0, none⟩) := (Roll.eval_old rfl).trans (hlv.at 1 (13, .pointer (some ⟨g12, 0, none⟩)) rfl)
            clear hp hlv hN
            refine ⟨fun hg => ?_, fun hg => absurd h2 hg⟩
            clear hg
            unfold Roll.Goes
            simp only [LofT16, List.getD_cons_zero, List.getD_cons_succ]
            generalize Roll.putD DofT16 vs [2] b0 = a1 at *
            refine Roll.goes_val (w' := p) (.pointer (some ⟨g12, 0, none⟩)) rfl ?_ ⟨(Roll.outw_pure (by decide) rfl), rfl⟩
            (have ec : ∀ x, a1.eval (.const x) = x := fun _ => rfl); (have ef : ∀ x, a1.eval (.func x) = .func (.func x) #[] #[] := fun _ => rfl); generalize a1.eval = ρ at *
            clear h2
            go_simp <;> (intros; first | (exfalso; omega) | rfl)
          · intro vs p hI0 hp
            have hI := Roll.inw_pure (by decide) rfl hI0
            clear hI0
            have h3 : (vs 3) = .pointer (some ⟨g12, 0, none⟩) := hp 3 (by simp [LofT16])
            have h2 : (vs 2) = .bool true := hp 2 (by simp [LofT16])
            have e93 : (Roll.putD DofT16 vs [3, 2] b0).eval (.tmp 93) = .pointer (some ⟨g12, 0, none⟩) := (Roll.eval_new 3 rfl (by decide) (by decide) (by omega)).trans h3
            clear hp hlv hN
            refine ⟨fun hg => ?_, fun hg => absurd h2 hg⟩
            clear hg
            unfold Roll.Goes
            simp only [LofT16, List.getD_cons_zero, List.getD_cons_succ]
            generalize Roll.putD DofT16 vs [3, 2] b0 = a1 at *
            refine Roll.goes_val (w' := p) (.bool true) rfl ?_ ⟨(Roll.outw_pure (by decide) rfl), rfl⟩
            (have ec : ∀ x, a1.eval (.const x) = x := fun _ => rfl); (have ef : ∀ x, a1.eval (.func x) = .func (.func x) #[] #[] := fun _ => rfl); generalize a1.eval = ρ at *
            clear h3 h2
            go_simp <;> (intros; first | (exfalso; omega) | rfl)
          · intro vs p hI0 hp
            have hI := Roll.inw_pure (by decide) rfl hI0
            clear hI0
            have h2 : (vs 2) = .bool true := hp 2 (by simp [LofT16])
            have h4 : (vs 4) = .bool true := hp 4 (by simp [LofT16])
            have e92 : (Roll.putD DofT16 vs [2, 4] b0).eval (.tmp 92) = .bool true := (Roll.eval_new 2 rfl (by decide) (by decide) (by omega)).trans h2
            have e94 : (Roll.putD DofT16 vs [2, 4] b0).eval (.tmp 94) = .bool true := (Roll.eval_new 4 rfl (by decide) (by decide) (by omega)).trans h4
            clear hp hlv hN
            unfold Roll.Goes
            simp only [LofT16, List.getD_cons_zero, List.getD_cons_succ]
            generalize Roll.putD DofT16 vs [2, 4] b0 = a1 at *
            refine Roll.goes_val (w' := p) (.bool true) rfl ?_ ⟨(Roll.outw_pure (by decide) rfl), rfl⟩
            (have ec : ∀ x, a1.eval (.const x) = x := fun _ => rfl); (have ef : ∀ x, a1.eval (.func x) = .func (.func x) #[] #[] := fun _ => rfl); generalize a1.eval = ρ at *
            clear h2 h4
            go_simp <;> (intros; first | (exfalso; omega) | rfl)
          · intro vs p hI0 hp
            have hI := Roll.inw_pure (by decide) rfl hI0
            clear hI0
            have h5 : (vs 5) = .bool true := hp 5 (by simp [LofT16])
            have e95 : (Roll.putD DofT16 vs [5] b0).eval (.tmp 95) = .bool true := (Roll.eval_new 5 rfl (by decide) (by decide) (by omega)).trans h5
            clear hp hlv hN
            unfold Roll.Goes
            simp only [LofT16, List.getD_cons_zero, List.getD_cons_succ]
            generalize Roll.putD DofT16 vs [5] b0 = a1 at *
            refine Roll.goes_val (w' := p) (.bool true) rfl ?_ ⟨(Roll.outw_pure (by decide) rfl), rfl⟩
            (have ec : ∀ x, a1.eval (.const x) = x := fun _ => rfl); (have ef : ∀ x, a1.eval (.func x) = .func (.func x) #[] #[] := fun _ => rfl); generalize a1.eval = ρ at *
            clear h5
            go_simp <;> (intros; first | (exfalso; omega) | rfl)
          · intro vs p hI0 hp
            have hI := Roll.inw_pure (by decide) rfl hI0
            clear hI0
            have h6 : (vs 6) = .bool true := hp 6 (by simp [LofT16])
            have e13 : (Roll.putD DofT16 vs [6] b0).eval (.tmp 13) = .pointer (some ⟨g12, 0, none⟩) := (Roll.eval_old rfl).trans (hlv.at 1 (13, .pointer (some ⟨g12, 0, none⟩)) rfl)
            clear hp hlv hN
            refine ⟨fun hg => ?_, fun hg => absurd h6 hg⟩
            clear hg
            unfold Roll.Goes
            simp only [LofT16, List.getD_cons_zero, List.getD_cons_succ]
            generalize Roll.putD DofT16 vs [6] b0 = a1 at *
            refine Roll.goes_val (w' := p) (.pointer (some ⟨g12, 0, none⟩)) rfl ?_ ⟨(Roll.outw_pure (by decide) rfl), rfl⟩
            (have ec : ∀ x, a1.eval (.const x) = x := fun _ => rfl); (have ef : ∀ x, a1.eval (.func x) = .func (.func x) #[] #[] := fun _ => rfl); generalize a1.eval = ρ at *
            clear h6
            go_simp <;> (intros; first | (exfalso; omega) | rfl)
          · intro vs p hI0 hp
            have hI := Roll.inw_pre (by decide) rfl hI0
            clear hI0
            have h7 : (vs 7) = .pointer (some ⟨g12, 0, none⟩) := hp 7 (by simp [LofT16])
            have h6 : (vs 6) = .bool true := hp 6 (by simp [LofT16])
            have e97 : (Roll.putD DofT16 vs [7, 6] b0).eval (.tmp 97) = .pointer (some ⟨g12, 0, none⟩) := (Roll.eval_new 7 rfl (by decide) (by decide) (by omega)).trans h7
            clear hp hlv hN
            refine ⟨fun hg => ?_, fun hg => absurd h6 hg⟩
            clear hg
            unfold Roll.Goes
            simp only [LofT16, List.getD_cons_zero, List.getD_cons_succ]
            generalize Roll.putD DofT16 vs [7, 6] b0 = a1 at *
            refine Roll.goes_call 27 #[.pointer (some ⟨g12, 0, none⟩)] p rfl (by have ec : ∀ x, a1.eval (.const x) = x := fun _ => rfl; have ef : ∀ x, a1.eval (.func x) = .func (.func x) #[] #[] := fun _ => rfl; generalize a1.eval = ρ at *; go_simp) ?_
            refine (HRC.out p hI).mono ?_
            rintro y p2 ⟨a9, c9, rfl, hl⟩
            exact ⟨_, rfl, Roll.outw_pre (by decide) rfl hl trivial, a9, c9, rfl⟩
          · intro vs p hI0 hp
            have hI := Roll.inw_pure (by decide) rfl hI0
            clear hI0
            have h8 : ∃ a9 c9, (vs 8) = .slice a9 0 c9 := hp 8 (by simp [LofT16])
            have h6 : (vs 6) = .bool true := hp 6 (by simp [LofT16])
            have e98 : (Roll.putD DofT16 vs [8, 6] b0).eval (.tmp 98) = vs 8 := (Roll.eval_new 8 rfl (by decide) (by decide) (by omega))
            clear hp hlv hN
            refine ⟨fun hg => ?_, fun hg => absurd h6 hg⟩
            clear hg
            unfold Roll.Goes
            simp only [LofT16, List.getD_cons_zero, List.getD_cons_succ]
            generalize Roll.putD DofT16 vs [8, 6] b0 = a1 at *
            obtain ⟨a9, c9, hv⟩ := h8
            rw [hv] at e98
            refine Roll.goes_val (w' := p) (.int .i64 0) rfl ?_ ⟨(Roll.outw_pure (by decide) rfl), rfl⟩
            (have ec : ∀ x, a1.eval (.const x) = x := fun _ => rfl); (have ef : ∀ x, a1.eval (.func x) = .func (.func x) #[] #[] := fun _ => rfl); generalize a1.eval = ρ at *
            go_simp <;> (intros; first | (exfalso; omega) | rfl)
          · intro vs p hI0 hp
            have hI := Roll.inw_pure (by decide) rfl hI0
            clear hI0
            have h9 : (vs 9) = .int .i64 0 := hp 9 (by simp [LofT16])
            have h6 : (vs 6) = .bool true := hp 6 (by simp [LofT16])
            have e99 : (Roll.putD DofT16 vs [9, 6] b0).eval (.tmp 99) = .int .i64 0 := (Roll.eval_new 9 rfl (by decide) (by decide) (by omega)).trans h9
            clear hp hlv hN
            refine ⟨fun hg => ?_, fun hg => absurd h6 hg⟩
            clear hg
            unfold Roll.Goes
            simp only [LofT16, List.getD_cons_zero, List.getD_cons_succ]
            generalize Roll.putD DofT16 vs [9, 6] b0 = a1 at *
            refine Roll.goes_val (w' := p) (.bool true) rfl ?_ ⟨(Roll.outw_pure (by decide) rfl), rfl⟩
            (have ec : ∀ x, a1.eval (.const x) = x := fun _ => rfl); (have ef : ∀ x, a1.eval (.func x) = .func (.func x) #[] #[] := fun _ => rfl); generalize a1.eval = ρ at *
            clear h9 h6
            go_simp <;> (intros; first | (exfalso; omega) | rfl)
          · intro vs p hI0 hp
            have hI := Roll.inw_pure (by decide) rfl hI0
            clear hI0
            have h6 : (vs 6) = .bool true := hp 6 (by simp [LofT16])
            have h10 : (vs 10) = .bool true := hp 10 (by simp [LofT16])
            have e96 : (Roll.putD DofT16 vs [6, 10] b0).eval (.tmp 96) = .bool true := (Roll.eval_new 6 rfl (by decide) (by decide) (by omega)).trans h6
            have e100 : (Roll.putD DofT16 vs [6, 10] b0).eval (.tmp 100) = .bool true := (Roll.eval_new 10 rfl (by decide) (by decide) (by omega)).trans h10
            clear hp hlv hN
            unfold Roll.Goes
            simp only [LofT16, List.getD_cons_zero, List.getD_cons_succ]
            generalize Roll.putD DofT16 vs [6, 10] b0 = a1 at *
            refine Roll.goes_val (w' := p) (.bool true) rfl ?_ ⟨(Roll.outw_pure (by decide) rfl), rfl⟩
            (have ec : ∀ x, a1.eval (.const x) = x := fun _ => rfl); (have ef : ∀ x, a1.eval (.func x) = .func (.func x) #[] #[] := fun _ => rfl); generalize a1.eval = ρ at *
            clear h6 h10
            go_simp <;> (intros; first | (exfalso; omega) | rfl)
          · intro vs p hI0 hp
            have hI := Roll.inw_pure (by decide) rfl hI0
            clear hI0
            have h11 : (vs 11) = .bool true := hp 11 (by simp [LofT16])
            have e101 : (Roll.putD DofT16 vs [11] b0).eval (.tmp 101) = .bool true := (Roll.eval_new 11 rfl (by decide) (by decide) (by omega)).trans h11
            clear hp hlv hN
            unfold Roll.Goes
            simp only [LofT16, List.getD_cons_zero, List.getD_cons_succ]
            generalize Roll.putD DofT16 vs [11] b0 = a1 at *
            refine Roll.goes_val (w' := p) (.bool true) rfl ?_ ⟨(Roll.outw_pure (by decide) rfl), rfl⟩
            (have ec : ∀ x, a1.eval (.const x) = x := fun _ => rfl); (have ef : ∀ x, a1.eval (.func x) = .func (.func x) #[] #[] := fun _ => rfl); generalize a1.eval = ρ at *
            clear h11
            go_simp <;> (intros; first | (exfalso; omega) | rfl)
          · intro vs p hI0 hp
            have hI := Roll.inw_pure (by decide) rfl hI0
            clear hI0
            have h12 : (vs 12) = .bool true := hp 12 (by simp [LofT16])
            have e13 : (Roll.putD DofT16 vs [12] b0).eval (.tmp 13) = .pointer (some ⟨g12, 0, none⟩) := (Roll.eval_old rfl).trans (hlv.at 1 (13, .pointer (some ⟨g12, 0, none⟩)) rfl)
            clear hp hlv hN
            refine ⟨fun hg => ?_, fun hg => absurd h12 hg⟩
            clear hg
            unfold Roll.Goes
            simp only [LofT16, List.getD_cons_zero, List.getD_cons_succ]
            generalize Roll.putD DofT16 vs [12] b0 = a1 at *
            refine Roll.goes_val (w' := p) (.pointer (some ⟨g12, 0, none⟩)) rfl ?_ ⟨(Roll.outw_pure (by decide) rfl), rfl⟩
            (have ec : ∀ x, a1.eval (.const x) = x := fun _ => rfl); (have ef : ∀ x, a1.eval (.func x) = .func (.func x) #[] #[] := fun _ => rfl); generalize a1.eval = ρ at *
            clear h12
            go_simp <;> (intros; first | (exfalso; omega) | rfl)
          · intro vs p hI0 hp
            have hI := Roll.inw_k0 rfl hI0
            clear hI0
            have h13 : (vs 13) = .pointer (some ⟨g12, 0, none⟩) := hp 13 (by simp [LofT16])
            have h12 : (vs 12) = .bool true := hp 12 (by simp [LofT16])
            have e103 : (Roll.putD DofT16 vs [13, 12] b0).eval (.tmp 103) = .pointer (some ⟨g12, 0, none⟩) := (Roll.eval_new 13 rfl (by decide) (by decide) (by omega)).trans h13
            clear hp hlv hN
            refine ⟨fun hg => ?_, fun hg => absurd h12 hg⟩
            clear hg
            unfold Roll.Goes
            simp only [LofT16, List.getD_cons_zero, List.getD_cons_succ]
            generalize Roll.putD DofT16 vs [13, 12] b0 = a1 at *
            refine Roll.goes_call 29 #[.pointer (some ⟨g12, 0, none⟩)] p rfl (by have ec : ∀ x, a1.eval (.const x) = x := fun _ => rfl; have ef : ∀ x, a1.eval (.func x) = .func (.func x) #[] #[] := fun _ => rfl; generalize a1.eval = ρ at *; go_simp) ?_
            refine (HRO.out p hI).mono ?_
            rintro y p2 ⟨rfl, hl⟩
            exact ⟨_, rfl, Roll.outw_k0 rfl hl trivial, rfl⟩
          · intro vs p hI0 hp
            have hI := Roll.inw_pure (by decide) rfl hI0
            clear hI0
            have h12 : (vs 12) = .bool true := hp 12 (by simp [LofT16])
            have e9 : (Roll.putD DofT16 vs [12] b0).eval (.tmp 9) = .pointer (some ⟨gp, 0, none⟩) := (Roll.eval_old rfl).trans (hlv.at 0 (9, .pointer (some ⟨gp, 0, none⟩)) rfl)
            clear hp hlv hN
            refine ⟨fun hg => ?_, fun hg => absurd h12 hg⟩
            clear hg
            unfold Roll.Goes
            simp only [LofT16, List.getD_cons_zero, List.getD_cons_succ]
            generalize Roll.putD DofT16 vs [12] b0 = a1 at *
            refine Roll.goes_val (w' := p) (.pointer (some ⟨gp, 0, none⟩)) rfl ?_ ⟨(Roll.outw_pure (by decide) rfl), rfl⟩
            (have ec : ∀ x, a1.eval (.const x) = x := fun _ => rfl); (have ef : ∀ x, a1.eval (.func x) = .func (.func x) #[] #[] := fun _ => rfl); generalize a1.eval = ρ at *
            clear h12
            go_simp <;> (intros; first | (exfalso; omega) | rfl)
          · intro vs p hI0 hp
            have hI := Roll.inw_pure (by decide) rfl hI0
            clear hI0
            have h15 : (vs 15) = .pointer (some ⟨gp, 0, none⟩) := hp 15 (by simp [LofT16])
            have h12 : (vs 12) = .bool true := hp 12 (by simp [LofT16])
            have e105 : (Roll.putD DofT16 vs [15, 12] b0).eval (.tmp 105) = .pointer (some ⟨gp, 0, none⟩) := (Roll.eval_new 15 rfl (by decide) (by decide) (by omega)).trans h15
            clear hp hlv hN
            refine ⟨fun hg => ?_, fun hg => absurd h12 hg⟩
            clear hg
            unfold Roll.Goes
            simp only [LofT16, List.getD_cons_zero, List.getD_cons_succ]
            generalize Roll.putD DofT16 vs [15, 12] b0 = a1 at *
            refine Roll.goes_val (w' := p) (.pointer (some ⟨gp, 0, none⟩)) rfl ?_ ⟨(Roll.outw_pure (by decide) rfl), rfl⟩
            (have ec : ∀ x, a1.eval (.const x) = x := fun _ => rfl); (have ef : ∀ x, a1.eval (.func x) = .func (.func x) #[] #[] := fun _ => rfl); generalize a1.eval = ρ at *
            clear h15 h12
            go_simp <;> (intros; first | (exfalso; omega) | rfl)
          · intro vs p hI0 hp
            have hI := Roll.inw_pure (by decide) rfl hI0
            clear hI0
            have h16 : (vs 16) = .pointer (some ⟨gp, 0, none⟩) := hp 16 (by simp [LofT16])
            have h12 : (vs 12) = .bool true := hp 12 (by simp [LofT16])
            have e106 : (Roll.putD DofT16 vs [16, 12] b0).eval (.tmp 106) = .pointer (some ⟨gp, 0, none⟩) := (Roll.eval_new 16 rfl (by decide) (by decide) (by omega)).trans h16
            clear hp hlv hN
            refine ⟨fun hg => ?_, fun hg => absurd h12 hg⟩
            clear hg
            unfold Roll.Goes
            simp only [LofT16, List.getD_cons_zero, List.getD_cons_succ]
            generalize Roll.putD DofT16 vs [16, 12] b0 = a1 at *
            refine Roll.goes_val (w' := p) (.pointer (some ⟨gp, 2, none⟩)) rfl ?_ ⟨(Roll.outw_pure (by decide) rfl), rfl⟩
            (have ec : ∀ x, a1.eval (.const x) = x := fun _ => rfl); (have ef : ∀ x, a1.eval (.func x) = .func (.func x) #[] #[] := fun _ => rfl); generalize a1.eval = ρ at *
            clear h16 h12
            go_simp <;> (intros; first | (exfalso; omega) | rfl)
          · intro vs p hI0 hp
            have hI := Roll.inw_pure (by decide) rfl hI0
            clear hI0
            have h17 : (vs 17) = .pointer (some ⟨gp, 2, none⟩) := hp 17 (by simp [LofT16])
            have h12 : (vs 12) = .bool true := hp 12 (by simp [LofT16])
            have e107 : (Roll.putD DofT16 vs [17, 12] b0).eval (.tmp 107) = .pointer (some ⟨gp, 2, none⟩) := (Roll.eval_new 17 rfl (by decide) (by decide) (by omega)).trans h17
            clear hp hlv hN
            refine ⟨fun hg => ?_, fun hg => absurd h12 hg⟩
            clear hg
            unfold Roll.Goes
            simp only [LofT16, List.getD_cons_zero, List.getD_cons_succ]
            generalize Roll.putD DofT16 vs [17, 12] b0 = a1 at *
            have cf := HPC.out p hI
            refine Roll.goes_val (w' := p) (.int .i64 (n : Int)) rfl ?_ ⟨(Roll.outw_pure (by decide) rfl), rfl⟩
            (have ec : ∀ x, a1.eval (.const x) = x := fun _ => rfl); (have ef : ∀ x, a1.eval (.func x) = .func (.func x) #[] #[] := fun _ => rfl); generalize a1.eval = ρ at *
            go_simp <;> (intros; first | (exfalso; omega) | rfl)
        · intro vs p hI hR
          have h0 : (vs 0) = .int .i64 0 := hR 0 (by omega)
          have h1 : (vs 1) = .bool true := hR 1 (by omega)
          have h2 : (vs 2) = .bool true := hR 2 (by omega)
          have h3 : (vs 3) = .pointer (some ⟨g12, 0, none⟩) := hR 3 (by omega)
          have h4 : (vs 4) = .bool true := hR 4 (by omega)
          have h5 : (vs 5) = .bool true := hR 5 (by omega)
          have h6 : (vs 6) = .bool true := hR 6 (by omega)
          have h7 : (vs 7) = .pointer (some ⟨g12, 0, none⟩) := hR 7 (by omega)
          have h8 : ∃ a9 c9, (vs 8) = .slice a9 0 c9 := hR 8 (by omega)
          have h9 : (vs 9) = .int .i64 0 := hR 9 (by omega)
          have h10 : (vs 10) = .bool true := hR 10 (by omega)
          have h11 : (vs 11) = .bool true := hR 11 (by omega)
          have h12 : (vs 12) = .bool true := hR 12 (by omega)
          have h13 : (vs 13) = .pointer (some ⟨g12, 0, none⟩) := hR 13 (by omega)
          have h14 : (vs 14) = .int .i64 R := hR 14 (by omega)
          have h15 : (vs 15) = .pointer (some ⟨gp, 0, none⟩) := hR 15 (by omega)
          have h16 : (vs 16) = .pointer (some ⟨gp, 0, none⟩) := hR 16 (by omega)
          have h17 : (vs 17) = .pointer (some ⟨gp, 2, none⟩) := hR 17 (by omega)
          have h18 : (vs 18) = .int .i64 (n : Int) := hR 18 (by omega)
          clear hR
          simp only [List.range_succ, List.range_zero, List.nil_append, List.cons_append, Roll.putD, Act.put, List.getD_cons_zero, List.getD_cons_succ, List.setIfInBounds_toArray, List.set_cons_zero, List.set_cons_succ, List.drop_succ_cons, List.drop_zero, DofT16]
          simp only [h0, h1, h2, h3, h4, h5, h6, h7, h9, h10, h11, h12, h13, h14, h15, h16, h17, h18]
          clear h0 h1 h2 h3 h4 h5 h6 h7 h9 h10 h11 h12 h13 h14 h15 h16 h17 h18
          clear h8
          have HL18 := Lib.hid hI
          clear hI HL7
          go_wp2_with (first
            | (go_at_call 30; refine (HRM.out _).mono ?_; rintro e w13 ⟨rfl, rfl⟩)
            | (have x1 := HL18.out; go_at_call 19; refine (lives4_any _).mono ?_; rintro e w13 ⟨rfl, hb⟩; have HZ := Lib.hid (x1.args.trans (hb.mono x1.args.size)); clear hb x1 HL18))
          go_ret
          exact ⟨rfl, HZ.out⟩
end Go.Proofs.Ythffegfcgmhppaa

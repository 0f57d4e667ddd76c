/-
  Texts H5, Q8, one behind the other.
-/
import Derived.WalkKit
import Derived.WalkSpells
import Derived.WalkLawsBesides
import Derived.Deep.CutBlock
import Derived.OwnWalk
import Derived.Laws.AppendOwn
import Derived.Laws.OwnMore
import Derived.Deep.AppendSrc
import Derived.Deep.MidRow
import Derived.Lib.Hide
import Derived.Deep.QuietTactic
import Derived.BigQuiet
import Derived.Laws.ResultCell
import GoSem.Claim
import Derived.Orders
import Derived.Tactics
import Derived.Maps.RangeRun
import Derived.Maps.Range
import Derived.Maps.OwnOps
import Derived.Maps.RangeWalk
import Derived.Deep.Cut
import Derived.Deep.RegionWith
import Derived.Deep.DrawnRows
import Derived.StillTailTactics
import Derived.Carry
import Derived.Laws.CopyOwn
import Derived.Lib.AppendZerosOnto
import Derived.Laws.BytesString
import Derived.Laws.AppendOwnNone
import Derived.ProofKit
import Derived.OpenShut
import Derived.Deep.Slices
import Derived.Deep.Fields
import Derived.JoinedCond
import Derived.Laws.ShiftsVarLaws
import Derived.Laws.BitsAllLaws
import Derived.Test.YthffegfcgmhppaaRows
import Derived.Test.YthffegfcgmhppaaZJ408
namespace Go.Proofs.Ythffegfcgmhppaa
open Go.RowKit
set_option linter.unusedSimpArgs false
set_option linter.unusedVariables false
attribute [local go_sem ↓] exec_loadAct exec_at_zero' exec_at_succ' Go.wp_at_zero Go.wp_at_succ
def DofF19 : List (Option Tmp) := [some 114, some 115, some 116, some 117, some 118, some 119, some 120, some 121, some 122, some 123, some 124, some 125, some 126, some 127, some 128, some 129, some 8]
def LofF19 : List (List Nat) := [[], [0], [], [2], [1, 3], [4], [5], [6, 5], [5], [8, 5], [9, 5], [10, 5], [5], [11, 12, 5], [7, 13, 5], [5, 14], [15]]
def DofF10 : List (Option Tmp) := [some 58, some 59, some 60, some 61, some 62, some 63, some 64, some 65, some 66, some 57, some 67, some 68, some 10, some 11]
def LofF10 : List (List Nat) := [[], [0], [1], [2], [], [4], [5], [6], [3, 7], [8], [9], [9], [10], [11]]
theorem Past.fused {FR DS n : Nat} {m : LM} {d : DM} {rst : Bool} (h : Past FR DS n m d rst) (hF : Fine m d) (k : Int) (hk : k ≤ 9223372036854775807) (r2 : Bool) : Past FR DS n m (d.setFuse k) r2 :=
  (hF.setFuse k hk).past h.frm h.n_ (by rw [setFuse_S]; exact h.len) h.fit h.n4 r2
/-- what the objects of a past are between two acts -/
def PL (gp g gl n : Nat) (v : Value) (m : LM) (d : DM) (r : Bool) (OT : List Obj) : List Obj := pastO gp g gl n v m.syn r :: recsO v m.recs :: logO gl g m :: diskO g d :: OT
set_option maxRecDepth 100000 in
set_option maxHeartbeats 16000000 in
theorem fail_lv {w0 w : World} {gp g gl n DS : Nat} {m0 : LM} {d0 : DM} {v0 tv : Value} {ts : List TM} (h : Lv w0 w (PL gp g gl n v0 m0 d0 false [tornO tv ts])) (hP : Past 1 DS n m0 d0 false) (hF : Fine m0 d0) (k : Int) (hk1 : 0 ≤ k) (hk2 : k ≤ 1000) (aa : Option Addr) (an ac : Nat) (ms : List AM) (hA : Acts (Old w0) w0 aa an ac ms) :
    Calls Try.prog 24 #[.pointer (some ⟨gp, 0, none⟩), .slice aa an ac, .int .i64 k, tv] w fun x w' => x = .returned (.bool true) ∧ Below w0.heap.size w0 w' := by
  obtain ⟨_, q0, _, _, _, _, _⟩ := h.pastF (i := 0) rfl
  have HPF := Lib.hid (hP.fused hF k (by omega) false)
  have HA := Lib.hid hA
  have HMS := Lib.hid hA.1
  have hac : an ≤ ac := hA.2.1.2.1
  have ham : ac ≤ 9223372036854775807 := hA.2.1.2.2.1
  have HL0 := Lib.hid h
  have HN4 := Lib.hid hP.n4
  have HFT := Lib.hid hP.fit
  clear h hP hF hA
  go_enter Try.func24, Try.ntmps24
  go_upto_region 2 with (have x1 := HL0.out; go_at_call 21; refine (fuse_lv x1 (i := 3) (d := d0) rfl k (by omega) (by omega)).mono ?_; rintro e w1 ⟨rfl, hl⟩; have r5 := (hl.pastF (i := 0) rfl).2.2.2.2.2.2; have f5 := hl.pastFz (i := 0) rfl 5; have HL1 : Hid (Lv w0 (w1.setCell ⟨gp, 5, none⟩ (.bool false)) (PL gp g gl n v0 m0 (d0.setFuse k) false [tornO tv ts])) := Lib.hid (hl.pastRst (i := 0) rfl false); clear hl x1 HL0 q0)
  go_upto_region 3 with fail
  obtain ⟨w2, hw2⟩ : ∃ w2, w2 = w1.setCell ⟨gp, 5, none⟩ (.bool false) := ⟨_, rfl⟩
  rw [← hw2] at HL1 ⊢
  clear hw2 r5 f5
  go_upto_block 0 with fail
  go_cut [9] from 13 (fun u wx => ∃ (i : Nat) (v : Value) (m : LM) (d : DM) (r : Bool), u = .int .i64 (i : Int) ∧ Past 1 DS n m d r ∧ Lv w0 wx (PL gp g gl n v m d r [tornO tv ts]))
  case first =>
    go_wp2_with fail
    go_loopw [9] (fun t wr => ∃ (i : Nat) (v : Value) (m : LM) (d : DM) (r : Bool), i ≤ 20 ∧ t = .int .i64 (i : Int) ∧ Past 1 DS n m d r ∧ Lv w0 wr (PL gp g gl n v m d r [tornO tv ts])) (fun t _ => 20 - (intOf t).toNat)
    case atStart => exact ⟨0, v0, m0, d0.setFuse k, false, Nat.zero_le _, rfl, HPF.out, HL1.out⟩
    case round =>
      clear HL1 HPF
      obtain ⟨i, v, m, d, r, hi, rfl, hP, hL⟩ := hrel
      have q0 := (hL.pastF (i := 0) rfl).2.1
      have HP := Lib.hid hP
      have HL := Lib.hid hL
      clear hP hL
      by_cases hia : i < an
      · have hia2 : (i : Int) < (an : Int) := by omega
        by_cases hi20 : i < 20
        · have hi202 : (i : Int) < 20 := by omega
          by_cases hon : d.on = true
          · have hwi : IntKind.i64.wrap ((i : Int) + 1) = (i : Int) + 1 := i64_id _ (by omega) (by omega)
            have him : i < ms.length := by rw [HMS.out]; exact hia
            obtain ⟨mo, hmo⟩ : ∃ mo, mo = ms[i]'him := ⟨_, rfl⟩
            have hbw := HL.out.args
            obtain ⟨b, off, -, hbs, rfl, hcell⟩ := (HA.out.kept (Kept.of_below (fun _ => False) hbw) (fun _ _ _ h => h)).at (by omega)
            have hr := hcell i him
            have hmk := (HA.out.kept (Kept.of_below (fun _ => False) hbw) (fun _ _ _ h => h)).2.2 mo (by rw [hmo]; exact List.getElem_mem _)
            rw [← hmo] at hr
            obtain ⟨ob, hob⟩ : ∃ ob, ob = off + i * 3 := ⟨_, rfl⟩
            rw [← hob] at hr
            have hob2 : off + i * 3 = ob := hob.symm
            have ld0 := run_loadAct hr
            have HMK := Lib.hid hmk
            have HON := Lib.hid hon
            clear hcell hr hmk hmo hob hbw hon
            go_wp2_with (first
              | (go_at_call 35; refine (on_lv HL.out (i := 3) (d := d) rfl).mono ?_; rintro e w3 ⟨rfl, rfl⟩; rw [HON.out])
              | (have x1 := HL.out; go_at_call 26; refine (act_lv (OT := [tornO tv ts]) x1 HP.out HON.out _ mo HMK.out).mono ?_; rintro e w4 ⟨rfl, v', m', d', r', hP', -, -, hl'⟩; have HP4 := Lib.hid hP'; have HL4 := Lib.hid hl'; clear hP' hl' x1 HL))
            go_roundw
            case rel => exact ⟨i + 1, v', m', d', r', by omega, by go_num, HP4.out, HL4.out⟩
            case measure => simp [intOf]; omega
          · have hon2 : d.on = false := by simpa using hon
            have HON := Lib.hid hon2
            clear hon hon2
            go_wp2_with (go_at_call 35; refine (on_lv HL.out (i := 3) (d := d) rfl).mono ?_; rintro e w3 ⟨rfl, rfl⟩; rw [HON.out])
            go_meet
            exact ⟨i, v, m, d, r, rfl, HP.out, HL.out⟩
        · have hi202 : (20 : Int) ≤ (i : Int) := by omega
          go_wp2_with fail
          go_meet
          exact ⟨i, v, m, d, r, rfl, HP.out, HL.out⟩
      · have hia2 : (an : Int) ≤ (i : Int) := by omega
        go_wp2_with fail
        go_meet
        exact ⟨i, v, m, d, r, rfl, HP.out, HL.out⟩
  case rest =>
    obtain ⟨i, v, m, d, r, rfl, hP, hL⟩ := hcut
    clear HL1 HPF HA HMS hac ham
    rename World => w3
    have q0 := (hL.pastF (i := 0) rfl).2.1
    obtain ⟨r3, e3, rs, hga, hcs⟩ := hP.crash ts
    have hbd := hP.bd
    have hcap := hP.cap
    have hn4 := hP.n4
    have hrl : rs.length ≤ 100000 ∧ (∀ q ∈ rs, q.length ≤ 1000000) ∧ takR rs ≤ 1000000 := by
      have h1 := hga.en
      have h2 := hga.room
      obtain ⟨b1, b2, b3⟩ := lenB_facts rs
      exact ⟨by omega, fun q hq => by have := b1 q hq; omega, by omega⟩
    have HGA := Lib.hid hga
    have HCS := Lib.hid hcs
    have HRL := Lib.hid hrl
    have HBD := Lib.hid hbd
    have HSYB := Lib.hid hP.syn
    have HL := Lib.hid hL
    clear hL hga hcs hrl hbd hP hcap hn4
    go_upto_region 10 with (first
      | (have x1 := HL.out; go_at_call 21; refine (fuse_lv x1 (i := 3) (d := d) rfl 0 (by omega) (by omega)).mono ?_; rintro e w6 ⟨rfl, hl6⟩; have HL6 : Hid (Lv w0 w6 (PL gp g gl n v m (d.setFuse 0) r [tornO tv ts])) := Lib.hid hl6; have q6 := (HL6.out.pastF (i := 0) rfl).2.1; clear hl6 x1 HL)
      | (have x1 := HL6.out; go_at_call 28; obtain ⟨BT, ⟨ta, tc, htv, hTS⟩, -, -, -⟩ := HL6.out.get (i := 4) (o := tornO tv ts) rfl; subst htv; refine (restart_lv x1 (i := 3) (d := d.setFuse 0) rfl hTS (.inr ⟨4, _, by omega, rfl, rfl⟩)).mono ?_; rintro e w7 ⟨rfl, hl7⟩; have HL7 : Hid (Lv w0 w7 (PL gp g gl n v m (cutD d ts) r [tornO (.slice ta ts.length tc) ts])) := Lib.hid hl7; clear hl7 hTS x1 HL6))
    obtain ⟨D1, a1, c1, hv1, hrd1⟩ := HL7.out.recsR (i := 1) rfl
    subst hv1
    have ha1c := hrd1.2.1
    have ha1m := hrd1.2.2.1
    clear hrd1
    obtain ⟨LST, hLST⟩ : ∃ LST, LST = PL gp g gl n (.slice a1 m.recs.length c1) m (cutD d ts) r [tornO (.slice ta ts.length tc) ts] := ⟨_, rfl⟩
    rw [← hLST] at HL7
    obtain ⟨MO, hMO⟩ : ∃ MO, MO = mOpen 1 n r3 rs := ⟨_, rfl⟩
    have HOP : Hid (∀ u, Lv w0 u LST → Calls Try.prog 18 #[.pointer (some ⟨g, 0, none⟩), .int .i64 1, .int .i64 (n : Int)] u fun x w' => ∃ gk, x = .returned (.tuple #[.pointer (some ⟨gk, 0, none⟩), .int .i64 0]) ∧ Lv w0 w' (logO gk g MO :: LST)) := Lib.hid (fun u hl => by rw [hLST] at hl ⊢; rw [hMO]; exact open_ga hl (j := 3) rfl HGA.out (show 1 ≤ 4096 by omega) HN4.out.1 (show n ≤ 200 by have := HN4.out.2; omega) (cutD_on _ _))
    have HPC : Hid (∀ u, Lv w0 u LST → u.cell? ⟨gp, 0, none⟩ = some (.pointer (some ⟨g, 0, none⟩)) ∧ u.cell? ⟨gp, 2, none⟩ = some (.int .i64 (n : Int))) := Lib.hid (fun u hl => by rw [hLST] at hl; have := hl.pastF (i := 0) rfl; exact ⟨this.2.1, this.2.2.2.1⟩)
    have HLST := Lib.hid hLST
    have HMO := Lib.hid hMO
    clear hLST hMO
    refine Roll.region_v 14 130 DofF10 LofF10 [(0, .pointer (some ⟨gp, 0, none⟩))] 8 [true, true, true, false, true, true, true, false, false, true, true, true, true, true] (fun p => Lv w0 p LST) (fun vv p => ∃ gk, vv = .tuple #[.pointer (some ⟨gk, 0, none⟩), .int .i64 0] ∧ Lv w0 p (logO gk g MO :: LST)) (fun p => True) (fun _ _ => True) [fun vv p => (vv 0) = .pointer (some ⟨gp, 0, none⟩), fun vv p => (vv 1) = .pointer (some ⟨gp, 0, none⟩), fun vv p => (vv 2) = .pointer (some ⟨gp, 0, none⟩), fun vv p => (vv 3) = .pointer (some ⟨g, 0, none⟩), fun vv p => (vv 4) = .pointer (some ⟨gp, 0, none⟩), fun vv p => (vv 5) = .pointer (some ⟨gp, 0, none⟩), fun vv p => (vv 6) = .pointer (some ⟨gp, 2, none⟩), fun vv p => (vv 7) = .int .i64 (n : Int), fun vv p => ∃ gk, (vv 8) = .tuple #[.pointer (some ⟨gk, 0, none⟩), .int .i64 0], fun vv p => ∃ gk, (vv 8) = .tuple #[.pointer (some ⟨gk, 0, none⟩), .int .i64 0] ∧ (vv 9) = .tuple #[.pointer (some ⟨gk, 0, none⟩), .int .i64 0], fun vv p => ∃ gk, (vv 9) = .tuple #[.pointer (some ⟨gk, 0, none⟩), .int .i64 0] ∧ (vv 10) = .pointer (some ⟨gk, 0, none⟩), fun vv p => (vv 11) = .int .i64 0, fun vv p => ∃ gk, (vv 10) = .pointer (some ⟨gk, 0, none⟩) ∧ (vv 12) = .pointer (some ⟨gk, 0, none⟩), fun vv p => (vv 13) = .int .i64 0] (by kernel_rfl) (by kernel_rfl) rfl ⟨rfl, trivial⟩ (HL7.out.below (Below.refl _ _).drew) (by decide) (by kernel_rfl) (fun _ _ => trivial) (fun _ _ _ => trivial) (fun _ => trivial) ?_ ?_ ?_
    · exact ⟨fun _ _ _ _ h => h, fun _ _ _ _ h => h, fun _ _ _ _ h => h, fun _ _ _ _ h => h, fun _ _ _ _ h => h, fun _ _ _ _ h => h, fun _ _ _ _ h => h, fun _ _ _ _ h => h, fun _ _ _ _ h => h, fun _ _ _ _ h => h, fun _ _ _ _ h => h, fun _ _ _ _ h => h, fun _ _ _ _ h => h, fun _ _ _ _ h => h, trivial⟩
    · intro b0 hN hlv
      refine ⟨?_, ?_, ?_, ?_, ?_, ?_, ?_, ?_, ?_, ?_, ?_, ?_, ?_, ?_, trivial⟩
      · intro vs p hI0 hp
        have hI := Roll.inw_pure (by decide) rfl hI0
        clear hI0
        have e0 : (Roll.putD DofF10 vs [] b0).eval (.tmp 0) = .pointer (some ⟨gp, 0, none⟩) := (Roll.eval_old rfl).trans (hlv.at 0 (0, .pointer (some ⟨gp, 0, none⟩)) rfl)
        clear hp hlv hN
        unfold Roll.Goes
        simp only [LofF10, List.getD_cons_zero, List.getD_cons_succ]
        generalize Roll.putD DofF10 vs [] b0 = a1 at *
        refine Roll.goes_val (w' := p) (.pointer (some ⟨gp, 0, none⟩)) rfl ?_ ⟨(Roll.outw_pure (by decide) rfl), rfl⟩
        (have ec : ∀ x, a1.eval (.const x) = x := fun _ => rfl); (have ef : ∀ x, a1.eval (.func x) = .func (.func x) #[] #[] := fun _ => rfl); generalize a1.eval = ρ at *
        skip
        go_simp <;> (intros; first | (exfalso; omega) | rfl)
      · intro vs p hI0 hp
        have hI := Roll.inw_pure (by decide) rfl hI0
        clear hI0
        have h0 : (vs 0) = .pointer (some ⟨gp, 0, none⟩) := hp 0 (by simp [LofF10])
        have e58 : (Roll.putD DofF10 vs [0] b0).eval (.tmp 58) = .pointer (some ⟨gp, 0, none⟩) := (Roll.eval_new 0 rfl (by decide) (by decide) (by omega)).trans h0
        clear hp hlv hN
        unfold Roll.Goes
        simp only [LofF10, List.getD_cons_zero, List.getD_cons_succ]
        generalize Roll.putD DofF10 vs [0] b0 = a1 at *
        refine Roll.goes_val (w' := p) (.pointer (some ⟨gp, 0, none⟩)) rfl ?_ ⟨(Roll.outw_pure (by decide) rfl), rfl⟩
        (have ec : ∀ x, a1.eval (.const x) = x := fun _ => rfl); (have ef : ∀ x, a1.eval (.func x) = .func (.func x) #[] #[] := fun _ => rfl); generalize a1.eval = ρ at *
        clear h0
        go_simp <;> (intros; first | (exfalso; omega) | rfl)
      · intro vs p hI0 hp
        have hI := Roll.inw_pure (by decide) rfl hI0
        clear hI0
        have h1 : (vs 1) = .pointer (some ⟨gp, 0, none⟩) := hp 1 (by simp [LofF10])
        have e59 : (Roll.putD DofF10 vs [1] b0).eval (.tmp 59) = .pointer (some ⟨gp, 0, none⟩) := (Roll.eval_new 1 rfl (by decide) (by decide) (by omega)).trans h1
        clear hp hlv hN
        unfold Roll.Goes
        simp only [LofF10, List.getD_cons_zero, List.getD_cons_succ]
        generalize Roll.putD DofF10 vs [1] b0 = a1 at *
        refine Roll.goes_val (w' := p) (.pointer (some ⟨gp, 0, none⟩)) rfl ?_ ⟨(Roll.outw_pure (by decide) rfl), rfl⟩
        (have ec : ∀ x, a1.eval (.const x) = x := fun _ => rfl); (have ef : ∀ x, a1.eval (.func x) = .func (.func x) #[] #[] := fun _ => rfl); generalize a1.eval = ρ at *
        clear h1
        go_simp <;> (intros; first | (exfalso; omega) | rfl)
      · intro vs p hI0 hp
        have hI := Roll.inw_pre (by decide) rfl hI0
        clear hI0
        have h2 : (vs 2) = .pointer (some ⟨gp, 0, none⟩) := hp 2 (by simp [LofF10])
        have e60 : (Roll.putD DofF10 vs [2] b0).eval (.tmp 60) = .pointer (some ⟨gp, 0, none⟩) := (Roll.eval_new 2 rfl (by decide) (by decide) (by omega)).trans h2
        clear hp hlv hN
        unfold Roll.Goes
        simp only [LofF10, List.getD_cons_zero, List.getD_cons_succ]
        generalize Roll.putD DofF10 vs [2] b0 = a1 at *
        have cf := (HPC.out p hI).1
        refine Roll.goes_val (w' := p) (.pointer (some ⟨g, 0, none⟩)) rfl ?_ ⟨Roll.outw_pre (by decide) rfl hI trivial, rfl⟩
        (have ec : ∀ x, a1.eval (.const x) = x := fun _ => rfl); (have ef : ∀ x, a1.eval (.func x) = .func (.func x) #[] #[] := fun _ => rfl); generalize a1.eval = ρ at *
        go_simp <;> (intros; first | (exfalso; omega) | rfl)
      · intro vs p hI0 hp
        have hI := Roll.inw_pure (by decide) rfl hI0
        clear hI0
        have e0 : (Roll.putD DofF10 vs [] b0).eval (.tmp 0) = .pointer (some ⟨gp, 0, none⟩) := (Roll.eval_old rfl).trans (hlv.at 0 (0, .pointer (some ⟨gp, 0, none⟩)) rfl)
        clear hp hlv hN
        unfold Roll.Goes
        simp only [LofF10, List.getD_cons_zero, List.getD_cons_succ]
        generalize Roll.putD DofF10 vs [] b0 = a1 at *
        refine Roll.goes_val (w' := p) (.pointer (some ⟨gp, 0, none⟩)) rfl ?_ ⟨(Roll.outw_pure (by decide) rfl), rfl⟩
        (have ec : ∀ x, a1.eval (.const x) = x := fun _ => rfl); (have ef : ∀ x, a1.eval (.func x) = .func (.func x) #[] #[] := fun _ => rfl); generalize a1.eval = ρ at *
        skip
        go_simp <;> (intros; first | (exfalso; omega) | rfl)
      · intro vs p hI0 hp
        have hI := Roll.inw_pure (by decide) rfl hI0
        clear hI0
        have h4 : (vs 4) = .pointer (some ⟨gp, 0, none⟩) := hp 4 (by simp [LofF10])
        have e62 : (Roll.putD DofF10 vs [4] b0).eval (.tmp 62) = .pointer (some ⟨gp, 0, none⟩) := (Roll.eval_new 4 rfl (by decide) (by decide) (by omega)).trans h4
        clear hp hlv hN
        unfold Roll.Goes
        simp only [LofF10, List.getD_cons_zero, List.getD_cons_succ]
        generalize Roll.putD DofF10 vs [4] b0 = a1 at *
        refine Roll.goes_val (w' := p) (.pointer (some ⟨gp, 0, none⟩)) rfl ?_ ⟨(Roll.outw_pure (by decide) rfl), rfl⟩
        (have ec : ∀ x, a1.eval (.const x) = x := fun _ => rfl); (have ef : ∀ x, a1.eval (.func x) = .func (.func x) #[] #[] := fun _ => rfl); generalize a1.eval = ρ at *
        clear h4
        go_simp <;> (intros; first | (exfalso; omega) | rfl)
      · intro vs p hI0 hp
        have hI := Roll.inw_pure (by decide) rfl hI0
        clear hI0
        have h5 : (vs 5) = .pointer (some ⟨gp, 0, none⟩) := hp 5 (by simp [LofF10])
        have e63 : (Roll.putD DofF10 vs [5] b0).eval (.tmp 63) = .pointer (some ⟨gp, 0, none⟩) := (Roll.eval_new 5 rfl (by decide) (by decide) (by omega)).trans h5
        clear hp hlv hN
        unfold Roll.Goes
        simp only [LofF10, List.getD_cons_zero, List.getD_cons_succ]
        generalize Roll.putD DofF10 vs [5] b0 = a1 at *
        refine Roll.goes_val (w' := p) (.pointer (some ⟨gp, 2, none⟩)) rfl ?_ ⟨(Roll.outw_pure (by decide) rfl), rfl⟩
        (have ec : ∀ x, a1.eval (.const x) = x := fun _ => rfl); (have ef : ∀ x, a1.eval (.func x) = .func (.func x) #[] #[] := fun _ => rfl); generalize a1.eval = ρ at *
        clear h5
        go_simp <;> (intros; first | (exfalso; omega) | rfl)
      · intro vs p hI0 hp
        have hI := Roll.inw_pre (by decide) rfl hI0
        clear hI0
        have h6 : (vs 6) = .pointer (some ⟨gp, 2, none⟩) := hp 6 (by simp [LofF10])
        have e64 : (Roll.putD DofF10 vs [6] b0).eval (.tmp 64) = .pointer (some ⟨gp, 2, none⟩) := (Roll.eval_new 6 rfl (by decide) (by decide) (by omega)).trans h6
        clear hp hlv hN
        unfold Roll.Goes
        simp only [LofF10, List.getD_cons_zero, List.getD_cons_succ]
        generalize Roll.putD DofF10 vs [6] b0 = a1 at *
        have cf := (HPC.out p hI).2
        refine Roll.goes_val (w' := p) (.int .i64 (n : Int)) rfl ?_ ⟨Roll.outw_pre (by decide) rfl hI trivial, rfl⟩
        (have ec : ∀ x, a1.eval (.const x) = x := fun _ => rfl); (have ef : ∀ x, a1.eval (.func x) = .func (.func x) #[] #[] := fun _ => rfl); generalize a1.eval = ρ at *
        go_simp <;> (intros; first | (exfalso; omega) | rfl)
      · intro vs p hI0 hp
        have hI := Roll.inw_k0 rfl hI0
        clear hI0
        have h3 : (vs 3) = .pointer (some ⟨g, 0, none⟩) := hp 3 (by simp [LofF10])
        have h7 : (vs 7) = .int .i64 (n : Int) := hp 7 (by simp [LofF10])
        have e61 : (Roll.putD DofF10 vs [3, 7] b0).eval (.tmp 61) = .pointer (some ⟨g, 0, none⟩) := (Roll.eval_new 3 rfl (by decide) (by decide) (by omega)).trans h3
        have e65 : (Roll.putD DofF10 vs [3, 7] b0).eval (.tmp 65) = .int .i64 (n : Int) := (Roll.eval_new 7 rfl (by decide) (by decide) (by omega)).trans h7
        clear hp hlv hN
        unfold Roll.Goes
        simp only [LofF10, List.getD_cons_zero, List.getD_cons_succ]
        generalize Roll.putD DofF10 vs [3, 7] b0 = a1 at *
        refine Roll.goes_call 18 #[.pointer (some ⟨g, 0, none⟩), .int .i64 1, .int .i64 (n : Int)] p rfl (by have ec : ∀ x, a1.eval (.const x) = x := fun _ => rfl; have ef : ∀ x, a1.eval (.func x) = .func (.func x) #[] #[] := fun _ => rfl; generalize a1.eval = ρ at *; go_simp) ?_
        refine (HOP.out p hI).mono ?_
        rintro y p2 ⟨gk, rfl, hl⟩
        exact ⟨_, rfl, Roll.outw_k0 rfl ⟨gk, rfl, hl⟩ trivial, gk, rfl⟩
      · intro vs p hI0 hp
        have hI := Roll.inw_pure (by decide) rfl hI0
        clear hI0
        have h8 : ∃ gk, (vs 8) = .tuple #[.pointer (some ⟨gk, 0, none⟩), .int .i64 0] := hp 8 (by simp [LofF10])
        have e66 : (Roll.putD DofF10 vs [8] b0).eval (.tmp 66) = vs 8 := (Roll.eval_new 8 rfl (by decide) (by decide) (by omega))
        clear hp hlv hN
        unfold Roll.Goes
        simp only [LofF10, List.getD_cons_zero, List.getD_cons_succ]
        generalize Roll.putD DofF10 vs [8] b0 = a1 at *
        obtain ⟨gk, hv⟩ := h8
        rw [hv] at e66
        refine Roll.goes_val (w' := p) (.tuple #[.pointer (some ⟨gk, 0, none⟩), .int .i64 0]) rfl ?_ ⟨(Roll.outw_pure (by decide) rfl), gk, hv, rfl⟩
        (have ec : ∀ x, a1.eval (.const x) = x := fun _ => rfl); (have ef : ∀ x, a1.eval (.func x) = .func (.func x) #[] #[] := fun _ => rfl); generalize a1.eval = ρ at *
        go_simp <;> (intros; first | (exfalso; omega) | rfl)
      · intro vs p hI0 hp
        have hI := Roll.inw_pure (by decide) rfl hI0
        clear hI0
        have h9 : ∃ gk, (vs 8) = .tuple #[.pointer (some ⟨gk, 0, none⟩), .int .i64 0] ∧ (vs 9) = .tuple #[.pointer (some ⟨gk, 0, none⟩), .int .i64 0] := hp 9 (by simp [LofF10])
        have e57 : (Roll.putD DofF10 vs [9] b0).eval (.tmp 57) = vs 9 := (Roll.eval_new 9 rfl (by decide) (by decide) (by omega))
        clear hp hlv hN
        unfold Roll.Goes
        simp only [LofF10, List.getD_cons_zero, List.getD_cons_succ]
        generalize Roll.putD DofF10 vs [9] b0 = a1 at *
        obtain ⟨gk, -, hv⟩ := h9
        rw [hv] at e57
        refine Roll.goes_val (w' := p) (.pointer (some ⟨gk, 0, none⟩)) rfl ?_ ⟨(Roll.outw_pure (by decide) rfl), gk, hv, rfl⟩
        (have ec : ∀ x, a1.eval (.const x) = x := fun _ => rfl); (have ef : ∀ x, a1.eval (.func x) = .func (.func x) #[] #[] := fun _ => rfl); generalize a1.eval = ρ at *
        go_simp <;> (intros; first | (exfalso; omega) | rfl)
      · intro vs p hI0 hp
        have hI := Roll.inw_pure (by decide) rfl hI0
        clear hI0
        have h9 : ∃ gk, (vs 8) = .tuple #[.pointer (some ⟨gk, 0, none⟩), .int .i64 0] ∧ (vs 9) = .tuple #[.pointer (some ⟨gk, 0, none⟩), .int .i64 0] := hp 9 (by simp [LofF10])
        have e57 : (Roll.putD DofF10 vs [9] b0).eval (.tmp 57) = vs 9 := (Roll.eval_new 9 rfl (by decide) (by decide) (by omega))
        clear hp hlv hN
        unfold Roll.Goes
        simp only [LofF10, List.getD_cons_zero, List.getD_cons_succ]
        generalize Roll.putD DofF10 vs [9] b0 = a1 at *
        obtain ⟨gk, -, hv⟩ := h9
        rw [hv] at e57
        refine Roll.goes_val (w' := p) (.int .i64 0) rfl ?_ ⟨(Roll.outw_pure (by decide) rfl), rfl⟩
        (have ec : ∀ x, a1.eval (.const x) = x := fun _ => rfl); (have ef : ∀ x, a1.eval (.func x) = .func (.func x) #[] #[] := fun _ => rfl); generalize a1.eval = ρ at *
        go_simp <;> (intros; first | (exfalso; omega) | rfl)
      · intro vs p hI0 hp
        have hI := Roll.inw_pure (by decide) rfl hI0
        clear hI0
        have h10 : ∃ gk, (vs 9) = .tuple #[.pointer (some ⟨gk, 0, none⟩), .int .i64 0] ∧ (vs 10) = .pointer (some ⟨gk, 0, none⟩) := hp 10 (by simp [LofF10])
        have e67 : (Roll.putD DofF10 vs [10] b0).eval (.tmp 67) = vs 10 := (Roll.eval_new 10 rfl (by decide) (by decide) (by omega))
        clear hp hlv hN
        unfold Roll.Goes
        simp only [LofF10, List.getD_cons_zero, List.getD_cons_succ]
        generalize Roll.putD DofF10 vs [10] b0 = a1 at *
        obtain ⟨gk, -, hv⟩ := h10
        rw [hv] at e67
        refine Roll.goes_val (w' := p) (.pointer (some ⟨gk, 0, none⟩)) rfl ?_ ⟨(Roll.outw_pure (by decide) rfl), gk, hv, rfl⟩
        (have ec : ∀ x, a1.eval (.const x) = x := fun _ => rfl); (have ef : ∀ x, a1.eval (.func x) = .func (.func x) #[] #[] := fun _ => rfl); generalize a1.eval = ρ at *
        go_simp <;> (intros; first | (exfalso; omega) | rfl)
      · intro vs p hI0 hp
        have hI := Roll.inw_pure (by decide) rfl hI0
        clear hI0
        have h11 : (vs 11) = .int .i64 0 := hp 11 (by simp [LofF10])
        have e68 : (Roll.putD DofF10 vs [11] b0).eval (.tmp 68) = .int .i64 0 := (Roll.eval_new 11 rfl (by decide) (by decide) (by omega)).trans h11
        clear hp hlv hN
        unfold Roll.Goes
        simp only [LofF10, List.getD_cons_zero, List.getD_cons_succ]
        generalize Roll.putD DofF10 vs [11] b0 = a1 at *
        refine Roll.goes_val (w' := p) (.int .i64 0) rfl ?_ ⟨(Roll.outw_pure (by decide) rfl), rfl⟩
        (have ec : ∀ x, a1.eval (.const x) = x := fun _ => rfl); (have ef : ∀ x, a1.eval (.func x) = .func (.func x) #[] #[] := fun _ => rfl); generalize a1.eval = ρ at *
        clear h11
        go_simp <;> (intros; first | (exfalso; omega) | rfl)
    · intro vs p hI hR
      have h0 : (vs 0) = .pointer (some ⟨gp, 0, none⟩) := hR 0 (by omega)
      have h1 : (vs 1) = .pointer (some ⟨gp, 0, none⟩) := hR 1 (by omega)
      have h2 : (vs 2) = .pointer (some ⟨gp, 0, none⟩) := hR 2 (by omega)
      have h3 : (vs 3) = .pointer (some ⟨g, 0, none⟩) := hR 3 (by omega)
      have h4 : (vs 4) = .pointer (some ⟨gp, 0, none⟩) := hR 4 (by omega)
      have h5 : (vs 5) = .pointer (some ⟨gp, 0, none⟩) := hR 5 (by omega)
      have h6 : (vs 6) = .pointer (some ⟨gp, 2, none⟩) := hR 6 (by omega)
      have h7 : (vs 7) = .int .i64 (n : Int) := hR 7 (by omega)
      have h8 : ∃ gk, (vs 8) = .tuple #[.pointer (some ⟨gk, 0, none⟩), .int .i64 0] := hR 8 (by omega)
      have h9 : ∃ gk, (vs 8) = .tuple #[.pointer (some ⟨gk, 0, none⟩), .int .i64 0] ∧ (vs 9) = .tuple #[.pointer (some ⟨gk, 0, none⟩), .int .i64 0] := hR 9 (by omega)
      have h10 : ∃ gk, (vs 9) = .tuple #[.pointer (some ⟨gk, 0, none⟩), .int .i64 0] ∧ (vs 10) = .pointer (some ⟨gk, 0, none⟩) := hR 10 (by omega)
      have h11 : (vs 11) = .int .i64 0 := hR 11 (by omega)
      have h12 : ∃ gk, (vs 10) = .pointer (some ⟨gk, 0, none⟩) ∧ (vs 12) = .pointer (some ⟨gk, 0, none⟩) := hR 12 (by omega)
      have h13 : (vs 13) = .int .i64 0 := hR 13 (by omega)
      clear hR
      simp only [List.range_succ, List.range_zero, List.nil_append, List.cons_append, Roll.putD, Act.put, List.getD_cons_zero, List.getD_cons_succ, List.setIfInBounds_toArray, List.set_cons_zero, List.set_cons_succ, List.drop_succ_cons, List.drop_zero, DofF10]
      simp only [h0, h1, h2, h3, h4, h5, h6, h7, h11, h13]
      clear h0 h1 h2 h3 h4 h5 h6 h7 h11 h13
      clear h8
      generalize vs 8 = v8 at *; generalize vs 9 = v9 at *; generalize vs 10 = v10 at *; generalize vs 12 = v12 at *
      obtain ⟨gk, rfl, hl8⟩ := hI
      obtain ⟨g9, e8, rfl⟩ := h9
      obtain rfl : g9 = gk := by simpa using e8.symm
      obtain ⟨g10, e9, rfl⟩ := h10
      obtain rfl : g10 = g9 := by simpa using e9.symm
      obtain ⟨g12, e10, rfl⟩ := h12
      obtain rfl : g12 = g10 := by simpa using e10.symm
      clear e8 e9 e10
      have HL9 : Hid (Lv w0 p (logO g12 g (mOpen 1 n r3 rs) :: PL gp g gl n (.slice a1 m.recs.length c1) m (cutD d ts) r [tornO (.slice ta ts.length tc) ts])) := Lib.hid (by rw [← HMO.out, ← HLST.out]; exact hl8)
      obtain ⟨rn, hrn⟩ : ∃ rn, rn = rs.length := ⟨_, rfl⟩
      obtain ⟨ql, hql⟩ : ∃ ql, ql = m.recs.length := ⟨_, rfl⟩
      obtain ⟨sy, hsy⟩ : ∃ sy, sy = m.syn := ⟨_, rfl⟩
      have HRN := Lib.hid hrn
      have HQL := Lib.hid hql
      have HSY := Lib.hid hsy
      clear hl8 HL7 HOP HPC HLST HMO hrn hql hsy
      go_upto_region 14 with (have x1 := HL9.out; go_at_call 27; refine (records_lv x1 (ii := 0) (m := mOpen 1 n r3 rs) rfl HRL.out.1 HRL.out.2.1).mono ?_; rintro e w10 ⟨ra, rc, rfl, hl10⟩; rw [show (mOpen 1 n r3 rs).recs.length = rs.length from rfl, ← HRN.out] at hl10 ⊢; rw [← HQL.out] at hl10; have HL10 : Hid (Lv w0 w10 (recsO (.slice ra rn rc) rs :: logO g12 g (mOpen 1 n r3 rs) :: pastO gp g gl n (.slice a1 ql c1) m.syn r :: [recsO (.slice a1 ql c1) m.recs, logO gl g m, diskO g (cutD d ts), tornO (.slice ta ts.length tc) ts])) := Lib.hid hl10; clear hl10 x1 HL9)
      obtain ⟨_, _, _, t2, t3, t4, t5⟩ := HL10.out.pastF (i := 2) rfl
      rw [← HSY.out] at t4
      go_still_tail 9, (by kernel_rfl)
      change wpList _ _ _ _ _ w10.drew
      have HL11 := Lib.hid (HL10.out.below (Below.refl _ _).drew)
      have u5 := (HL11.out.pastF (i := 2) rfl).2.2.2.2.2.2
      clear t2 t3 t4 t5
      have HBT : Hid (Calls Try.prog 36 #[.slice ra rn rc, .int .i64 (sy : Int), .slice a1 ql c1] w10.drew fun x w' => x = .returned (.bool (decide (sy ≤ rn ∧ rn ≤ ql) && (rs == m.recs.take rn))) ∧ Below w10.drew.heap.size w10.drew w') := Lib.hid (by
        obtain ⟨D9, a8, c8, hv9, hrd9⟩ := HL11.out.recsR (i := 0) rfl
        obtain ⟨D8, a7, c7, hv8, hrd8⟩ := HL11.out.recsR (i := 3) rfl
        rw [← HRN.out] at hv9 hrd9
        rw [← HQL.out] at hv8 hrd8
        cases hv9
        cases hv8
        have h1 := HRL.out.1
        have h2 := HBD.out.1
        have h3 := HSYB.out
        rw [← HRN.out] at h1
        rw [← HQL.out] at h2
        rw [← HSY.out, ← HQL.out] at h3
        exact between_any _ _ _ _ _ _ _ _ _ _ _ hrd9 hrd8 (by omega) (by omega))
      obtain ⟨R, hR⟩ : ∃ R, R = roomZ n ((takR rs : Nat) : Int) := ⟨_, rfl⟩
      have HRR := Lib.hid hR.symm
      obtain ⟨B, hB⟩ : ∃ B, B = (decide (sy ≤ rn ∧ rn ≤ ql) && (rs == m.recs.take rn)) := ⟨_, rfl⟩
      rw [← hB] at HBT
      have hcase : B = true ∨ (B = false ∧ r = true ∧ rn = 0) := by
        have hcx := HCS.out
        rw [← HRN.out, ← HQL.out, ← HSY.out] at hcx
        rcases hcx with ⟨z1, z2, z3⟩ | ⟨z1, z2⟩
        · left
          rw [hB, decide_eq_true ⟨z1, z2⟩, Bool.true_and]
          exact beq_iff_eq.2 z3
        · rcases Bool.eq_false_or_eq_true B with e | e
          · exact .inl e
          · exact .inr ⟨e, z1, by rw [HRN.out, z2]; rfl⟩
      obtain ⟨w11, hw11⟩ : ∃ w11, w11 = w10.drew := ⟨_, rfl⟩
      rw [← hw11] at HL11 HBT u5 ⊢
      clear hB hR hw11 HL10
      rcases hcase with rfl | ⟨rfl, hr1, hr2⟩
      · go_upto_region 16 with (have x1 := HBT.out; go_at_call 36; refine x1.mono ?_; rintro e w12 ⟨rfl, hb⟩; have HL12 := Lib.hid (HL11.out.below hb); clear hb x1 HBT HL11)
        clear u5
        have r1 := (HL12.out.pastF (i := 2) rfl).2.2.1
        have f1 := HL12.out.pastFz (i := 2) rfl 1
        have HL13 := Lib.hid (HL12.out.pastLog (i := 2) rfl g12)
        go_upto_region 17 with fail
        obtain ⟨w13, hw13⟩ : ∃ w13, w13 = w12.setCell ⟨gp, 1, none⟩ (.pointer (some ⟨g12, 0, none⟩)) := ⟨_, rfl⟩
        rw [← hw13] at HL13 ⊢
        clear hw13 r1 f1 HL12
        go_upto_region 18 with (have x1 := HL13.out; go_at_call 50; obtain ⟨D9, a9, c9, hv9, hrd9⟩ := x1.recsR (i := 0) rfl; rw [← HRN.out] at hv9 hrd9; cases hv9; refine (copied_any D9 ra rn rc rs w13 hrd9 HRL.out.2.1 (by rw [HRN.out]; exact HRL.out.1)).mono ?_; rintro e w14 ⟨v14, rfl, hm⟩; have hl14 := x1.onto hm; obtain ⟨D8, a14, c14, hv14, hrd14⟩ := hl14.recsR (i := 0) rfl; rw [← HRN.out] at hv14 hrd14; subst hv14; have h14a := hrd14.2.1; have h14b := hrd14.2.2.1; have HL14 := Lib.hid hl14; have r3 := (HL14.out.pastF (i := 3) rfl).2.2.2.2.1; have f3 := HL14.out.pastFz (i := 3) rfl 3; have HL15 := Lib.hid (HL14.out.pastAll (i := 3) rfl (.slice a14 rn c14)); clear hm hl14 hrd14 hrd9 x1 HL13)
        obtain ⟨w15, hw15⟩ : ∃ w15, w15 = w14.setCell ⟨gp, 3, none⟩ (.slice a14 rn c14) := ⟨_, rfl⟩
        rw [← hw15] at HL15 ⊢
        have r4 := (HL15.out.pastF (i := 3) rfl).2.2.2.2.2.1
        have f4 := HL15.out.pastFz (i := 3) rfl 4
        have HL16 := Lib.hid (HL15.out.pastSyn (i := 3) rfl rn)
        clear hw15 r3 f3 HL14
        go_upto_region 19 with fail
        obtain ⟨w16, hw16⟩ : ∃ w16, w16 = w15.setCell ⟨gp, 4, none⟩ (.int .i64 (rn : Int)) := ⟨_, rfl⟩
        rw [← hw16] at HL16 ⊢
        have n16 := (HL16.out.pastF (i := 3) rfl).2.2.2.1
        clear hw16 r4 f4 HL15
        clear n16
        obtain ⟨LX, hlx, hx1, hx2, sx, rx, hx3⟩ : ∃ LX, Lv w0 w16 LX ∧ LX[1]? = some (recsO (.slice ra rn rc) rs) ∧ LX[2]? = some (logO g12 g (mOpen 1 n r3 rs)) ∧ ∃ sx rx, LX[3]? = some (pastO gp g g12 n (.slice a14 rn c14) sx rx) := ⟨_, HL16.out, rfl, rfl, _, _, rfl⟩
        have HL7 := Lib.hid hlx
        have HX1 := Lib.hid hx1
        have HSN : Hid (∀ u, Lv w0 u LX → Calls Try.prog 42 #[.pointer (some ⟨g12, 0, none⟩)] u fun x w' => x = .returned (.int .i64 (rn : Int)) ∧ u = w') := Lib.hid (fun u hl => by have := synced_lv hl hx2; rw [show ((mOpen 1 n r3 rs).syn : Int) = (rn : Int) from congrArg _ HRN.out.symm] at this; exact this)
        have HRO : Hid (∀ u, Lv w0 u LX → Calls Try.prog 29 #[.pointer (some ⟨g12, 0, none⟩)] u fun x w' => x = .returned (.int .i64 R) ∧ Lv w0 w' LX) := Lib.hid (fun u hl => (room_lv hl hx2 (show n ≤ 4096 by have := HN4.out.2; omega) (show takR rs ≤ 1000000 from HRL.out.2.2)).mono (fun e w' he => ⟨by rw [he.1, show roomZ (mOpen 1 n r3 rs).n (mOpen 1 n r3 rs).tak = R from HRR.out], hl.below he.2⟩))
        have HPC : Hid (∀ u, Lv w0 u LX → u.cell? ⟨gp, 2, none⟩ = some (.int .i64 (n : Int))) := Lib.hid (fun u hl => (hl.pastF hx3).2.2.2.1)
        clear hlx hx1 hx2 hx3 HL16
        refine Roll.region_x 13 130 DofF19 LofF19 [(0, .pointer (some ⟨gp, 0, none⟩)), (10, .pointer (some ⟨g12, 0, none⟩)), (12, .slice ra rn rc)] 7 [true, true, true, true, true, true, true, false, true, true, true, true, true] (fun p => Lv w0 p LX) (fun vv p => Lv w0 p LX) (fun p => Lv w0 p LX) (fun _ _ => True) [fun vv p => (vv 0) = .pointer (some ⟨g12, 0, none⟩), fun vv p => (vv 1) = .int .i64 (rn : Int), fun vv p => (vv 2) = .slice ra rn rc, fun vv p => (vv 3) = .int .i64 (rn : Int), fun vv p => (vv 4) = .bool true, fun vv p => (vv 5) = .bool true, fun vv p => (vv 6) = .pointer (some ⟨g12, 0, none⟩), fun vv p => (vv 7) = .int .i64 R, fun vv p => (vv 8) = .pointer (some ⟨gp, 0, none⟩), fun vv p => (vv 9) = .pointer (some ⟨gp, 0, none⟩), fun vv p => (vv 10) = .pointer (some ⟨gp, 2, none⟩), fun vv p => (vv 11) = .int .i64 (n : Int), fun vv p => (vv 12) = .slice ra rn rc] (by kernel_rfl) (by kernel_rfl) rfl ⟨rfl, rfl, rfl, trivial⟩ (HL7.out.below (Below.refl _ _).drew) (by decide) (by kernel_rfl) (fun _ h => h) (fun _ _ h => h) (fun _ => trivial) ?_ ?_ ?_
        · exact ⟨fun _ _ _ _ h => h, fun _ _ _ _ h => h, fun _ _ _ _ h => h, fun _ _ _ _ h => h, fun _ _ _ _ h => h, fun _ _ _ _ h => h, fun _ _ _ _ h => h, fun _ _ _ _ h => h, fun _ _ _ _ h => h, fun _ _ _ _ h => h, fun _ _ _ _ h => h, fun _ _ _ _ h => h, fun _ _ _ _ h => h, trivial⟩
        · intro b0 hN hlv
          refine ⟨?_, ?_, ?_, ?_, ?_, ?_, ?_, ?_, ?_, ?_, ?_, ?_, ?_, trivial⟩
          · intro vs p hI0 hp
            have hI := Roll.inw_pure (by decide) rfl hI0
            clear hI0
            have e10 : (Roll.putD DofF19 vs [] b0).eval (.tmp 10) = .pointer (some ⟨g12, 0, none⟩) := (Roll.eval_old rfl).trans (hlv.at 1 (10, .pointer (some ⟨g12, 0, none⟩)) rfl)
            clear hp hlv hN
            unfold Roll.Goes
            simp only [LofF19, List.getD_cons_zero, List.getD_cons_succ]
            generalize Roll.putD DofF19 vs [] b0 = a1 at *
            refine Roll.goes_val (w' := p) (.pointer (some ⟨g12, 0, none⟩)) rfl ?_ ⟨(Roll.outw_pure (by decide) rfl), rfl⟩
            (have ec : ∀ x, a1.eval (.const x) = x := fun _ => rfl); (have ef : ∀ x, a1.eval (.func x) = .func (.func x) #[] #[] := fun _ => rfl); generalize a1.eval = ρ at *
            skip
            go_simp <;> (intros; first | (exfalso; omega) | rfl)
          · intro vs p hI0 hp
            have hI := Roll.inw_pure (by decide) rfl hI0
            clear hI0
            have h0 : (vs 0) = .pointer (some ⟨g12, 0, none⟩) := hp 0 (by simp [LofF19])
            have e114 : (Roll.putD DofF19 vs [0] b0).eval (.tmp 114) = .pointer (some ⟨g12, 0, none⟩) := (Roll.eval_new 0 rfl (by decide) (by decide) (by omega)).trans h0
            clear hp hlv hN
            unfold Roll.Goes
            simp only [LofF19, List.getD_cons_zero, List.getD_cons_succ]
            generalize Roll.putD DofF19 vs [0] b0 = a1 at *
            refine Roll.goes_call 42 #[.pointer (some ⟨g12, 0, none⟩)] p rfl (by have ec : ∀ x, a1.eval (.const x) = x := fun _ => rfl; have ef : ∀ x, a1.eval (.func x) = .func (.func x) #[] #[] := fun _ => rfl; generalize a1.eval = ρ at *; go_simp) ?_
            refine (HSN.out p hI).mono ?_
            rintro y p2 ⟨rfl, rfl⟩
            exact ⟨_, rfl, Roll.outw_pure (by decide) rfl, rfl⟩
          · intro vs p hI0 hp
            have hI := Roll.inw_pure (by decide) rfl hI0
            clear hI0
            have e12 : (Roll.putD DofF19 vs [] b0).eval (.tmp 12) = .slice ra rn rc := (Roll.eval_old rfl).trans (hlv.at 2 (12, .slice ra rn rc) rfl)
            clear hp hlv hN
            unfold Roll.Goes
            simp only [LofF19, List.getD_cons_zero, List.getD_cons_succ]
            generalize Roll.putD DofF19 vs [] b0 = a1 at *
            refine Roll.goes_val (w' := p) (.slice ra rn rc) rfl ?_ ⟨(Roll.outw_pure (by decide) rfl), rfl⟩
            (have ec : ∀ x, a1.eval (.const x) = x := fun _ => rfl); (have ef : ∀ x, a1.eval (.func x) = .func (.func x) #[] #[] := fun _ => rfl); generalize a1.eval = ρ at *
            skip
            go_simp <;> (intros; first | (exfalso; omega) | rfl)
          · intro vs p hI0 hp
            have hI := Roll.inw_pure (by decide) rfl hI0
            clear hI0
            have h2 : (vs 2) = .slice ra rn rc := hp 2 (by simp [LofF19])
            have e116 : (Roll.putD DofF19 vs [2] b0).eval (.tmp 116) = .slice ra rn rc := (Roll.eval_new 2 rfl (by decide) (by decide) (by omega)).trans h2
            clear hp hlv hN
            unfold Roll.Goes
            simp only [LofF19, List.getD_cons_zero, List.getD_cons_succ]
            generalize Roll.putD DofF19 vs [2] b0 = a1 at *
            refine Roll.goes_val (w' := p) (.int .i64 (rn : Int)) rfl ?_ ⟨(Roll.outw_pure (by decide) rfl), rfl⟩
            (have ec : ∀ x, a1.eval (.const x) = x := fun _ => rfl); (have ef : ∀ x, a1.eval (.func x) = .func (.func x) #[] #[] := fun _ => rfl); generalize a1.eval = ρ at *
            clear h2
            go_simp <;> (intros; first | (exfalso; omega) | rfl)
          · intro vs p hI0 hp
            have hI := Roll.inw_pure (by decide) rfl hI0
            clear hI0
            have h1 : (vs 1) = .int .i64 (rn : Int) := hp 1 (by simp [LofF19])
            have h3 : (vs 3) = .int .i64 (rn : Int) := hp 3 (by simp [LofF19])
            have e115 : (Roll.putD DofF19 vs [1, 3] b0).eval (.tmp 115) = .int .i64 (rn : Int) := (Roll.eval_new 1 rfl (by decide) (by decide) (by omega)).trans h1
            have e117 : (Roll.putD DofF19 vs [1, 3] b0).eval (.tmp 117) = .int .i64 (rn : Int) := (Roll.eval_new 3 rfl (by decide) (by decide) (by omega)).trans h3
            clear hp hlv hN
            unfold Roll.Goes
            simp only [LofF19, List.getD_cons_zero, List.getD_cons_succ]
            generalize Roll.putD DofF19 vs [1, 3] b0 = a1 at *
            refine Roll.goes_val (w' := p) (.bool true) rfl ?_ ⟨(Roll.outw_pure (by decide) rfl), rfl⟩
            (have ec : ∀ x, a1.eval (.const x) = x := fun _ => rfl); (have ef : ∀ x, a1.eval (.func x) = .func (.func x) #[] #[] := fun _ => rfl); generalize a1.eval = ρ at *
            clear h1 h3
            go_simp <;> (intros; first | (exfalso; omega) | rfl)
          · intro vs p hI0 hp
            have hI := Roll.inw_pure (by decide) rfl hI0
            clear hI0
            have h4 : (vs 4) = .bool true := hp 4 (by simp [LofF19])
            have e118 : (Roll.putD DofF19 vs [4] b0).eval (.tmp 118) = .bool true := (Roll.eval_new 4 rfl (by decide) (by decide) (by omega)).trans h4
            clear hp hlv hN
            unfold Roll.Goes
            simp only [LofF19, List.getD_cons_zero, List.getD_cons_succ]
            generalize Roll.putD DofF19 vs [4] b0 = a1 at *
            refine Roll.goes_val (w' := p) (.bool true) rfl ?_ ⟨(Roll.outw_pure (by decide) rfl), rfl⟩
            (have ec : ∀ x, a1.eval (.const x) = x := fun _ => rfl); (have ef : ∀ x, a1.eval (.func x) = .func (.func x) #[] #[] := fun _ => rfl); generalize a1.eval = ρ at *
            clear h4
            go_simp <;> (intros; first | (exfalso; omega) | rfl)
          · intro vs p hI0 hp
            have hI := Roll.inw_pure (by decide) rfl hI0
            clear hI0
            have h5 : (vs 5) = .bool true := hp 5 (by simp [LofF19])
            have e10 : (Roll.putD DofF19 vs [5] b0).eval (.tmp 10) = .pointer (some ⟨g12, 0, none⟩) := (Roll.eval_old rfl).trans (hlv.at 1 (10, .pointer (some ⟨g12, 0, none⟩)) rfl)
            clear hp hlv hN
            refine ⟨fun hg => ?_, fun hg => absurd h5 hg⟩
            clear hg
            unfold Roll.Goes
            simp only [LofF19, List.getD_cons_zero, List.getD_cons_succ]
            generalize Roll.putD DofF19 vs [5] b0 = a1 at *
            refine Roll.goes_val (w' := p) (.pointer (some ⟨g12, 0, none⟩)) rfl ?_ ⟨(Roll.outw_pure (by decide) rfl), rfl⟩
            (have ec : ∀ x, a1.eval (.const x) = x := fun _ => rfl); (have ef : ∀ x, a1.eval (.func x) = .func (.func x) #[] #[] := fun _ => rfl); generalize a1.eval = ρ at *
            clear h5
            go_simp <;> (intros; first | (exfalso; omega) | rfl)
          · intro vs p hI0 hp
            have hI := Roll.inw_k0 rfl hI0
            clear hI0
            have h6 : (vs 6) = .pointer (some ⟨g12, 0, none⟩) := hp 6 (by simp [LofF19])
            have h5 : (vs 5) = .bool true := hp 5 (by simp [LofF19])
            have e120 : (Roll.putD DofF19 vs [6, 5] b0).eval (.tmp 120) = .pointer (some ⟨g12, 0, none⟩) := (Roll.eval_new 6 rfl (by decide) (by decide) (by omega)).trans h6
            clear hp hlv hN
            refine ⟨fun hg => ?_, fun hg => absurd h5 hg⟩
            clear hg
            unfold Roll.Goes
            simp only [LofF19, List.getD_cons_zero, List.getD_cons_succ]
            generalize Roll.putD DofF19 vs [6, 5] b0 = a1 at *
            refine Roll.goes_call 29 #[.pointer (some ⟨g12, 0, none⟩)] p rfl (by have ec : ∀ x, a1.eval (.const x) = x := fun _ => rfl; have ef : ∀ x, a1.eval (.func x) = .func (.func x) #[] #[] := fun _ => rfl; generalize a1.eval = ρ at *; go_simp) ?_
            refine (HRO.out p hI).mono ?_
            rintro y p2 ⟨rfl, hl⟩
            exact ⟨_, rfl, Roll.outw_k0 rfl hl trivial, rfl⟩
          · intro vs p hI0 hp
            have hI := Roll.inw_pure (by decide) rfl hI0
            clear hI0
            have h5 : (vs 5) = .bool true := hp 5 (by simp [LofF19])
            have e0 : (Roll.putD DofF19 vs [5] b0).eval (.tmp 0) = .pointer (some ⟨gp, 0, none⟩) := (Roll.eval_old rfl).trans (hlv.at 0 (0, .pointer (some ⟨gp, 0, none⟩)) rfl)
            clear hp hlv hN
            refine ⟨fun hg => ?_, fun hg => absurd h5 hg⟩
            clear hg
            unfold Roll.Goes
            simp only [LofF19, List.getD_cons_zero, List.getD_cons_succ]
            generalize Roll.putD DofF19 vs [5] b0 = a1 at *
            refine Roll.goes_val (w' := p) (.pointer (some ⟨gp, 0, none⟩)) rfl ?_ ⟨(Roll.outw_pure (by decide) rfl), rfl⟩
            (have ec : ∀ x, a1.eval (.const x) = x := fun _ => rfl); (have ef : ∀ x, a1.eval (.func x) = .func (.func x) #[] #[] := fun _ => rfl); generalize a1.eval = ρ at *
            clear h5
            go_simp <;> (intros; first | (exfalso; omega) | rfl)
          · intro vs p hI0 hp
            have hI := Roll.inw_pure (by decide) rfl hI0
            clear hI0
            have h8 : (vs 8) = .pointer (some ⟨gp, 0, none⟩) := hp 8 (by simp [LofF19])
            have h5 : (vs 5) = .bool true := hp 5 (by simp [LofF19])
            have e122 : (Roll.putD DofF19 vs [8, 5] b0).eval (.tmp 122) = .pointer (some ⟨gp, 0, none⟩) := (Roll.eval_new 8 rfl (by decide) (by decide) (by omega)).trans h8
            clear hp hlv hN
            refine ⟨fun hg => ?_, fun hg => absurd h5 hg⟩
            clear hg
            unfold Roll.Goes
            simp only [LofF19, List.getD_cons_zero, List.getD_cons_succ]
            generalize Roll.putD DofF19 vs [8, 5] b0 = a1 at *
            refine Roll.goes_val (w' := p) (.pointer (some ⟨gp, 0, none⟩)) rfl ?_ ⟨(Roll.outw_pure (by decide) rfl), rfl⟩
            (have ec : ∀ x, a1.eval (.const x) = x := fun _ => rfl); (have ef : ∀ x, a1.eval (.func x) = .func (.func x) #[] #[] := fun _ => rfl); generalize a1.eval = ρ at *
            clear h8 h5
            go_simp <;> (intros; first | (exfalso; omega) | rfl)
          · intro vs p hI0 hp
            have hI := Roll.inw_pure (by decide) rfl hI0
            clear hI0
            have h9 : (vs 9) = .pointer (some ⟨gp, 0, none⟩) := hp 9 (by simp [LofF19])
            have h5 : (vs 5) = .bool true := hp 5 (by simp [LofF19])
            have e123 : (Roll.putD DofF19 vs [9, 5] b0).eval (.tmp 123) = .pointer (some ⟨gp, 0, none⟩) := (Roll.eval_new 9 rfl (by decide) (by decide) (by omega)).trans h9
            clear hp hlv hN
            refine ⟨fun hg => ?_, fun hg => absurd h5 hg⟩
            clear hg
            unfold Roll.Goes
            simp only [LofF19, List.getD_cons_zero, List.getD_cons_succ]
            generalize Roll.putD DofF19 vs [9, 5] b0 = a1 at *
            refine Roll.goes_val (w' := p) (.pointer (some ⟨gp, 2, none⟩)) rfl ?_ ⟨(Roll.outw_pure (by decide) rfl), rfl⟩
            (have ec : ∀ x, a1.eval (.const x) = x := fun _ => rfl); (have ef : ∀ x, a1.eval (.func x) = .func (.func x) #[] #[] := fun _ => rfl); generalize a1.eval = ρ at *
            clear h9 h5
            go_simp <;> (intros; first | (exfalso; omega) | rfl)
          · intro vs p hI0 hp
            have hI := Roll.inw_pure (by decide) rfl hI0
            clear hI0
            have h10 : (vs 10) = .pointer (some ⟨gp, 2, none⟩) := hp 10 (by simp [LofF19])
            have h5 : (vs 5) = .bool true := hp 5 (by simp [LofF19])
            have e124 : (Roll.putD DofF19 vs [10, 5] b0).eval (.tmp 124) = .pointer (some ⟨gp, 2, none⟩) := (Roll.eval_new 10 rfl (by decide) (by decide) (by omega)).trans h10
            clear hp hlv hN
            refine ⟨fun hg => ?_, fun hg => absurd h5 hg⟩
            clear hg
            unfold Roll.Goes
            simp only [LofF19, List.getD_cons_zero, List.getD_cons_succ]
            generalize Roll.putD DofF19 vs [10, 5] b0 = a1 at *
            have cf := HPC.out p hI
            refine Roll.goes_val (w' := p) (.int .i64 (n : Int)) rfl ?_ ⟨(Roll.outw_pure (by decide) rfl), rfl⟩
            (have ec : ∀ x, a1.eval (.const x) = x := fun _ => rfl); (have ef : ∀ x, a1.eval (.func x) = .func (.func x) #[] #[] := fun _ => rfl); generalize a1.eval = ρ at *
            go_simp <;> (intros; first | (exfalso; omega) | rfl)
          · intro vs p hI0 hp
            have hI := Roll.inw_pure (by decide) rfl hI0
            clear hI0
            have h5 : (vs 5) = .bool true := hp 5 (by simp [LofF19])
            have e12 : (Roll.putD DofF19 vs [5] b0).eval (.tmp 12) = .slice ra rn rc := (Roll.eval_old rfl).trans (hlv.at 2 (12, .slice ra rn rc) rfl)
            clear hp hlv hN
            refine ⟨fun hg => ?_, fun hg => absurd h5 hg⟩
            clear hg
            unfold Roll.Goes
            simp only [LofF19, List.getD_cons_zero, List.getD_cons_succ]
            generalize Roll.putD DofF19 vs [5] b0 = a1 at *
            refine Roll.goes_val (w' := p) (.slice ra rn rc) rfl ?_ ⟨(Roll.outw_pure (by decide) rfl), rfl⟩
            (have ec : ∀ x, a1.eval (.const x) = x := fun _ => rfl); (have ef : ∀ x, a1.eval (.func x) = .func (.func x) #[] #[] := fun _ => rfl); generalize a1.eval = ρ at *
            clear h5
            go_simp <;> (intros; first | (exfalso; omega) | rfl)
        · intro vs p hI hR
          have h0 : (vs 0) = .pointer (some ⟨g12, 0, none⟩) := hR 0 (by omega)
          have h1 : (vs 1) = .int .i64 (rn : Int) := hR 1 (by omega)
          have h2 : (vs 2) = .slice ra rn rc := hR 2 (by omega)
          have h3 : (vs 3) = .int .i64 (rn : Int) := hR 3 (by omega)
          have h4 : (vs 4) = .bool true := hR 4 (by omega)
          have h5 : (vs 5) = .bool true := hR 5 (by omega)
          have h6 : (vs 6) = .pointer (some ⟨g12, 0, none⟩) := hR 6 (by omega)
          have h7 : (vs 7) = .int .i64 R := hR 7 (by omega)
          have h8 : (vs 8) = .pointer (some ⟨gp, 0, none⟩) := hR 8 (by omega)
          have h9 : (vs 9) = .pointer (some ⟨gp, 0, none⟩) := hR 9 (by omega)
          have h10 : (vs 10) = .pointer (some ⟨gp, 2, none⟩) := hR 10 (by omega)
          have h11 : (vs 11) = .int .i64 (n : Int) := hR 11 (by omega)
          have h12 : (vs 12) = .slice ra rn rc := hR 12 (by omega)
          clear hR
          simp only [List.range_succ, List.range_zero, List.nil_append, List.cons_append, Roll.putD, Act.put, List.getD_cons_zero, List.getD_cons_succ, List.setIfInBounds_toArray, List.set_cons_zero, List.set_cons_succ, List.drop_succ_cons, List.drop_zero, DofF19]
          simp only [h0, h1, h2, h3, h4, h5, h6, h7, h8, h9, h10, h11, h12]
          clear h0 h1 h2 h3 h4 h5 h6 h7 h8 h9 h10 h11 h12
          have HL18 := Lib.hid hI
          clear hI HL7
          go_wp2_with (go_at_call 30; obtain ⟨D9, a9, c9, hv9, hrd9⟩ := HL18.out.recsR HX1.out; rw [← HRN.out] at hv9 hrd9; cases hv9; refine (rroom_any D9 ra rn rc n rs _ hrd9 (by have := HN4.out.2; omega) (by have := HRL.out.2.2; omega) (by have := HRL.out.1; rw [← HRN.out] at this; omega) HRL.out.2.1).mono ?_; rintro e w19 ⟨rfl, rfl⟩; rw [HRR.out]; clear hrd9)
          go_ret
          exact ⟨rfl, HL18.out.args⟩
      · subst hr1
        have hr3 : ((rn : Int) == 0) = true := by rw [hr2]; rfl
        clear hr2
        go_upto_region 16 with (have x1 := HBT.out; go_at_call 36; refine x1.mono ?_; rintro e w12 ⟨rfl, hb⟩; have HL12 := Lib.hid (HL11.out.below hb); have v5 := (HL12.out.pastF (i := 2) rfl).2.2.2.2.2.2; clear hb x1 HBT HL11 u5)
        clear v5 hr3
        have r1 := (HL12.out.pastF (i := 2) rfl).2.2.1
        have f1 := HL12.out.pastFz (i := 2) rfl 1
        have HL13 := Lib.hid (HL12.out.pastLog (i := 2) rfl g12)
        go_upto_region 17 with fail
        obtain ⟨w13, hw13⟩ : ∃ w13, w13 = w12.setCell ⟨gp, 1, none⟩ (.pointer (some ⟨g12, 0, none⟩)) := ⟨_, rfl⟩
        rw [← hw13] at HL13 ⊢
        clear hw13 r1 f1 HL12
        go_upto_region 18 with (have x1 := HL13.out; go_at_call 50; obtain ⟨D9, a9, c9, hv9, hrd9⟩ := x1.recsR (i := 0) rfl; rw [← HRN.out] at hv9 hrd9; cases hv9; refine (copied_any D9 ra rn rc rs w13 hrd9 HRL.out.2.1 (by rw [HRN.out]; exact HRL.out.1)).mono ?_; rintro e w14 ⟨v14, rfl, hm⟩; have hl14 := x1.onto hm; obtain ⟨D8, a14, c14, hv14, hrd14⟩ := hl14.recsR (i := 0) rfl; rw [← HRN.out] at hv14 hrd14; subst hv14; have h14a := hrd14.2.1; have h14b := hrd14.2.2.1; have HL14 := Lib.hid hl14; have r3 := (HL14.out.pastF (i := 3) rfl).2.2.2.2.1; have f3 := HL14.out.pastFz (i := 3) rfl 3; have HL15 := Lib.hid (HL14.out.pastAll (i := 3) rfl (.slice a14 rn c14)); clear hm hl14 hrd14 hrd9 x1 HL13)
        obtain ⟨w15, hw15⟩ : ∃ w15, w15 = w14.setCell ⟨gp, 3, none⟩ (.slice a14 rn c14) := ⟨_, rfl⟩
        rw [← hw15] at HL15 ⊢
        have r4 := (HL15.out.pastF (i := 3) rfl).2.2.2.2.2.1
        have f4 := HL15.out.pastFz (i := 3) rfl 4
        have HL16 := Lib.hid (HL15.out.pastSyn (i := 3) rfl rn)
        clear hw15 r3 f3 HL14
        go_upto_region 19 with fail
        obtain ⟨w16, hw16⟩ : ∃ w16, w16 = w15.setCell ⟨gp, 4, none⟩ (.int .i64 (rn : Int)) := ⟨_, rfl⟩
        rw [← hw16] at HL16 ⊢
        have n16 := (HL16.out.pastF (i := 3) rfl).2.2.2.1
        clear hw16 r4 f4 HL15
        clear n16
        obtain ⟨LX, hlx, hx1, hx2, sx, rx, hx3⟩ : ∃ LX, Lv w0 w16 LX ∧ LX[1]? = some (recsO (.slice ra rn rc) rs) ∧ LX[2]? = some (logO g12 g (mOpen 1 n r3 rs)) ∧ ∃ sx rx, LX[3]? = some (pastO gp g g12 n (.slice a14 rn c14) sx rx) := ⟨_, HL16.out, rfl, rfl, _, _, rfl⟩
        have HL7 := Lib.hid hlx
        have HX1 := Lib.hid hx1
        have HSN : Hid (∀ u, Lv w0 u LX → Calls Try.prog 42 #[.pointer (some ⟨g12, 0, none⟩)] u fun x w' => x = .returned (.int .i64 (rn : Int)) ∧ u = w') := Lib.hid (fun u hl => by have := synced_lv hl hx2; rw [show ((mOpen 1 n r3 rs).syn : Int) = (rn : Int) from congrArg _ HRN.out.symm] at this; exact this)
        have HRO : Hid (∀ u, Lv w0 u LX → Calls Try.prog 29 #[.pointer (some ⟨g12, 0, none⟩)] u fun x w' => x = .returned (.int .i64 R) ∧ Lv w0 w' LX) := Lib.hid (fun u hl => (room_lv hl hx2 (show n ≤ 4096 by have := HN4.out.2; omega) (show takR rs ≤ 1000000 from HRL.out.2.2)).mono (fun e w' he => ⟨by rw [he.1, show roomZ (mOpen 1 n r3 rs).n (mOpen 1 n r3 rs).tak = R from HRR.out], hl.below he.2⟩))
        have HPC : Hid (∀ u, Lv w0 u LX → u.cell? ⟨gp, 2, none⟩ = some (.int .i64 (n : Int))) := Lib.hid (fun u hl => (hl.pastF hx3).2.2.2.1)
        clear hlx hx1 hx2 hx3 HL16
        refine Roll.region_x 13 130 DofF19 LofF19 [(0, .pointer (some ⟨gp, 0, none⟩)), (10, .pointer (some ⟨g12, 0, none⟩)), (12, .slice ra rn rc)] 7 [true, true, true, true, true, true, true, false, true, true, true, true, true] (fun p => Lv w0 p LX) (fun vv p => Lv w0 p LX) (fun p => Lv w0 p LX) (fun _ _ => True) [fun vv p => (vv 0) = .pointer (some ⟨g12, 0, none⟩), fun vv p => (vv 1) = .int .i64 (rn : Int), fun vv p => (vv 2) = .slice ra rn rc, fun vv p => (vv 3) = .int .i64 (rn : Int), fun vv p => (vv 4) = .bool true, fun vv p => (vv 5) = .bool true, fun vv p => (vv 6) = .pointer (some ⟨g12, 0, none⟩), fun vv p => (vv 7) = .int .i64 R, fun vv p => (vv 8) = .pointer (some ⟨gp, 0, none⟩), fun vv p => (vv 9) = .pointer (some ⟨gp, 0, none⟩), fun vv p => (vv 10) = .pointer (some ⟨gp, 2, none⟩), fun vv p => (vv 11) = .int .i64 (n : Int), fun vv p => (vv 12) = .slice ra rn rc] (by kernel_rfl) (by kernel_rfl) rfl ⟨rfl, rfl, rfl, trivial⟩ (HL7.out.below (Below.refl _ _).drew) (by decide) (by kernel_rfl) (fun _ h => h) (fun _ _ h => h) (fun _ => trivial) ?_ ?_ ?_
        · exact ⟨fun _ _ _ _ h => h, fun _ _ _ _ h => h, fun _ _ _ _ h => h, fun _ _ _ _ h => h, fun _ _ _ _ h => h, fun _ _ _ _ h => h, fun _ _ _ _ h => h, fun _ _ _ _ h => h, fun _ _ _ _ h => h, fun _ _ _ _ h => h, fun _ _ _ _ h => h, fun _ _ _ _ h => h, fun _ _ _ _ h => h, trivial⟩
        · intro b0 hN hlv
          refine ⟨?_, ?_, ?_, ?_, ?_, ?_, ?_, ?_, ?_, ?_, ?_, ?_, ?_, trivial⟩
          · intro vs p hI0 hp
            have hI := Roll.inw_pure (by decide) rfl hI0
            clear hI0
            have e10 : (Roll.putD DofF19 vs [] b0).eval (.tmp 10) = .pointer (some ⟨g12, 0, none⟩) := (Roll.eval_old rfl).trans (hlv.at 1 (10, .pointer (some ⟨g12, 0, none⟩)) rfl)
            clear hp hlv hN
            unfold Roll.Goes
            simp only [LofF19, List.getD_cons_zero, List.getD_cons_succ]
            generalize Roll.putD DofF19 vs [] b0 = a1 at *
            refine Roll.goes_val (w' := p) (.pointer (some ⟨g12, 0, none⟩)) rfl ?_ ⟨(Roll.outw_pure (by decide) rfl), rfl⟩
            (have ec : ∀ x, a1.eval (.const x) = x := fun _ => rfl); (have ef : ∀ x, a1.eval (.func x) = .func (.func x) #[] #[] := fun _ => rfl); generalize a1.eval = ρ at *
            skip
            go_simp <;> (intros; first | (exfalso; omega) | rfl)
          · intro vs p hI0 hp
            have hI := Roll.inw_pure (by decide) rfl hI0
            clear hI0
            have h0 : (vs 0) = .pointer (some ⟨g12, 0, none⟩) := hp 0 (by simp [LofF19])
            have e114 : (Roll.putD DofF19 vs [0] b0).eval (.tmp 114) = .pointer (some ⟨g12, 0, none⟩) := (Roll.eval_new 0 rfl (by decide) (by decide) (by omega)).trans h0
            clear hp hlv hN
            unfold Roll.Goes
            simp only [LofF19, List.getD_cons_zero, List.getD_cons_succ]
            generalize Roll.putD DofF19 vs [0] b0 = a1 at *
            refine Roll.goes_call 42 #[.pointer (some ⟨g12, 0, none⟩)] p rfl (by have ec : ∀ x, a1.eval (.const x) = x := fun _ => rfl; have ef : ∀ x, a1.eval (.func x) = .func (.func x) #[] #[] := fun _ => rfl; generalize a1.eval = ρ at *; go_simp) ?_
            refine (HSN.out p hI).mono ?_
            rintro y p2 ⟨rfl, rfl⟩
            exact ⟨_, rfl, Roll.outw_pure (by decide) rfl, rfl⟩
          · intro vs p hI0 hp
            have hI := Roll.inw_pure (by decide) rfl hI0
            clear hI0
            have e12 : (Roll.putD DofF19 vs [] b0).eval (.tmp 12) = .slice ra rn rc := (Roll.eval_old rfl).trans (hlv.at 2 (12, .slice ra rn rc) rfl)
            clear hp hlv hN
            unfold Roll.Goes
            simp only [LofF19, List.getD_cons_zero, List.getD_cons_succ]
            generalize Roll.putD DofF19 vs [] b0 = a1 at *
            refine Roll.goes_val (w' := p) (.slice ra rn rc) rfl ?_ ⟨(Roll.outw_pure (by decide) rfl), rfl⟩
            (have ec : ∀ x, a1.eval (.const x) = x := fun _ => rfl); (have ef : ∀ x, a1.eval (.func x) = .func (.func x) #[] #[] := fun _ => rfl); generalize a1.eval = ρ at *
            skip
            go_simp <;> (intros; first | (exfalso; omega) | rfl)
          · intro vs p hI0 hp
            have hI := Roll.inw_pure (by decide) rfl hI0
            clear hI0
            have h2 : (vs 2) = .slice ra rn rc := hp 2 (by simp [LofF19])
            have e116 : (Roll.putD DofF19 vs [2] b0).eval (.tmp 116) = .slice ra rn rc := (Roll.eval_new 2 rfl (by decide) (by decide) (by omega)).trans h2
            clear hp hlv hN
            unfold Roll.Goes
            simp only [LofF19, List.getD_cons_zero, List.getD_cons_succ]
            generalize Roll.putD DofF19 vs [2] b0 = a1 at *
            refine Roll.goes_val (w' := p) (.int .i64 (rn : Int)) rfl ?_ ⟨(Roll.outw_pure (by decide) rfl), rfl⟩
            (have ec : ∀ x, a1.eval (.const x) = x := fun _ => rfl); (have ef : ∀ x, a1.eval (.func x) = .func (.func x) #[] #[] := fun _ => rfl); generalize a1.eval = ρ at *
            clear h2
            go_simp <;> (intros; first | (exfalso; omega) | rfl)
          · intro vs p hI0 hp
            have hI := Roll.inw_pure (by decide) rfl hI0
            clear hI0
            have h1 : (vs 1) = .int .i64 (rn : Int) := hp 1 (by simp [LofF19])
            have h3 : (vs 3) = .int .i64 (rn : Int) := hp 3 (by simp [LofF19])
            have e115 : (Roll.putD DofF19 vs [1, 3] b0).eval (.tmp 115) = .int .i64 (rn : Int) := (Roll.eval_new 1 rfl (by decide) (by decide) (by omega)).trans h1
            have e117 : (Roll.putD DofF19 vs [1, 3] b0).eval (.tmp 117) = .int .i64 (rn : Int) := (Roll.eval_new 3 rfl (by decide) (by decide) (by omega)).trans h3
            clear hp hlv hN
            unfold Roll.Goes
            simp only [LofF19, List.getD_cons_zero, List.getD_cons_succ]
            generalize Roll.putD DofF19 vs [1, 3] b0 = a1 at *
            refine Roll.goes_val (w' := p) (.bool true) rfl ?_ ⟨(Roll.outw_pure (by decide) rfl), rfl⟩
            (have ec : ∀ x, a1.eval (.const x) = x := fun _ => rfl); (have ef : ∀ x, a1.eval (.func x) = .func (.func x) #[] #[] := fun _ => rfl); generalize a1.eval = ρ at *
            clear h1 h3
            go_simp <;> (intros; first | (exfalso; omega) | rfl)
          · intro vs p hI0 hp
            have hI := Roll.inw_pure (by decide) rfl hI0
            clear hI0
            have h4 : (vs 4) = .bool true := hp 4 (by simp [LofF19])
            have e118 : (Roll.putD DofF19 vs [4] b0).eval (.tmp 118) = .bool true := (Roll.eval_new 4 rfl (by decide) (by decide) (by omega)).trans h4
            clear hp hlv hN
            unfold Roll.Goes
            simp only [LofF19, List.getD_cons_zero, List.getD_cons_succ]
            generalize Roll.putD DofF19 vs [4] b0 = a1 at *
            refine Roll.goes_val (w' := p) (.bool true) rfl ?_ ⟨(Roll.outw_pure (by decide) rfl), rfl⟩
            (have ec : ∀ x, a1.eval (.const x) = x := fun _ => rfl); (have ef : ∀ x, a1.eval (.func x) = .func (.func x) #[] #[] := fun _ => rfl); generalize a1.eval = ρ at *
            clear h4
            go_simp <;> (intros; first | (exfalso; omega) | rfl)
          · intro vs p hI0 hp
            have hI := Roll.inw_pure (by decide) rfl hI0
            clear hI0
            have h5 : (vs 5) = .bool true := hp 5 (by simp [LofF19])
            have e10 : (Roll.putD DofF19 vs [5] b0).eval (.tmp 10) = .pointer (some ⟨g12, 0, none⟩) := (Roll.eval_old rfl).trans (hlv.at 1 (10, .pointer (some ⟨g12, 0, none⟩)) rfl)
            clear hp hlv hN
            refine ⟨fun hg => ?_, fun hg => absurd h5 hg⟩
            clear hg
            unfold Roll.Goes
            simp only [LofF19, List.getD_cons_zero, List.getD_cons_succ]
            generalize Roll.putD DofF19 vs [5] b0 = a1 at *
            refine Roll.goes_val (w' := p) (.pointer (some ⟨g12, 0, none⟩)) rfl ?_ ⟨(Roll.outw_pure (by decide) rfl), rfl⟩
            (have ec : ∀ x, a1.eval (.const x) = x := fun _ => rfl); (have ef : ∀ x, a1.eval (.func x) = .func (.func x) #[] #[] := fun _ => rfl); generalize a1.eval = ρ at *
            clear h5
            go_simp <;> (intros; first | (exfalso; omega) | rfl)
          · intro vs p hI0 hp
            have hI := Roll.inw_k0 rfl hI0
            clear hI0
            have h6 : (vs 6) = .pointer (some ⟨g12, 0, none⟩) := hp 6 (by simp [LofF19])
            have h5 : (vs 5) = .bool true := hp 5 (by simp [LofF19])
            have e120 : (Roll.putD DofF19 vs [6, 5] b0).eval (.tmp 120) = .pointer (some ⟨g12, 0, none⟩) := (Roll.eval_new 6 rfl (by decide) (by decide) (by omega)).trans h6
            clear hp hlv hN
            refine ⟨fun hg => ?_, fun hg => absurd h5 hg⟩
            clear hg
            unfold Roll.Goes
            simp only [LofF19, List.getD_cons_zero, List.getD_cons_succ]
            generalize Roll.putD DofF19 vs [6, 5] b0 = a1 at *
            refine Roll.goes_call 29 #[.pointer (some ⟨g12, 0, none⟩)] p rfl (by have ec : ∀ x, a1.eval (.const x) = x := fun _ => rfl; have ef : ∀ x, a1.eval (.func x) = .func (.func x) #[] #[] := fun _ => rfl; generalize a1.eval = ρ at *; go_simp) ?_
            refine (HRO.out p hI).mono ?_
            rintro y p2 ⟨rfl, hl⟩
            exact ⟨_, rfl, Roll.outw_k0 rfl hl trivial, rfl⟩
          · intro vs p hI0 hp
            have hI := Roll.inw_pure (by decide) rfl hI0
            clear hI0
            have h5 : (vs 5) = .bool true := hp 5 (by simp [LofF19])
            have e0 : (Roll.putD DofF19 vs [5] b0).eval (.tmp 0) = .pointer (some ⟨gp, 0, none⟩) := (Roll.eval_old rfl).trans (hlv.at 0 (0, .pointer (some ⟨gp, 0, none⟩)) rfl)
            clear hp hlv hN
            refine ⟨fun hg => ?_, fun hg => absurd h5 hg⟩
            clear hg
            unfold Roll.Goes
            simp only [LofF19, List.getD_cons_zero, List.getD_cons_succ]
            generalize Roll.putD DofF19 vs [5] b0 = a1 at *
            refine Roll.goes_val (w' := p) (.pointer (some ⟨gp, 0, none⟩)) rfl ?_ ⟨(Roll.outw_pure (by decide) rfl), rfl⟩
            (have ec : ∀ x, a1.eval (.const x) = x := fun _ => rfl); (have ef : ∀ x, a1.eval (.func x) = .func (.func x) #[] #[] := fun _ => rfl); generalize a1.eval = ρ at *
            clear h5
            go_simp <;> (intros; first | (exfalso; omega) | rfl)
          · intro vs p hI0 hp
            have hI := Roll.inw_pure (by decide) rfl hI0
            clear hI0
            have h8 : (vs 8) = .pointer (some ⟨gp, 0, none⟩) := hp 8 (by simp [LofF19])
            have h5 : (vs 5) = .bool true := hp 5 (by simp [LofF19])
            have e122 : (Roll.putD DofF19 vs [8, 5] b0).eval (.tmp 122) = .pointer (some ⟨gp, 0, none⟩) := (Roll.eval_new 8 rfl (by decide) (by decide) (by omega)).trans h8
            clear hp hlv hN
            refine ⟨fun hg => ?_, fun hg => absurd h5 hg⟩
            clear hg
            unfold Roll.Goes
            simp only [LofF19, List.getD_cons_zero, List.getD_cons_succ]
            generalize Roll.putD DofF19 vs [8, 5] b0 = a1 at *
            refine Roll.goes_val (w' := p) (.pointer (some ⟨gp, 0, none⟩)) rfl ?_ ⟨(Roll.outw_pure (by decide) rfl), rfl⟩
            (have ec : ∀ x, a1.eval (.const x) = x := fun _ => rfl); (have ef : ∀ x, a1.eval (.func x) = .func (.func x) #[] #[] := fun _ => rfl); generalize a1.eval = ρ at *
            clear h8 h5
            go_simp <;> (intros; first | (exfalso; omega) | rfl)
          · intro vs p hI0 hp
            have hI := Roll.inw_pure (by decide) rfl hI0
            clear hI0
            have h9 : (vs 9) = .pointer (some ⟨gp, 0, none⟩) := hp 9 (by simp [LofF19])
            have h5 : (vs 5) = .bool true := hp 5 (by simp [LofF19])
            have e123 : (Roll.putD DofF19 vs [9, 5] b0).eval (.tmp 123) = .pointer (some ⟨gp, 0, none⟩) := (Roll.eval_new 9 rfl (by decide) (by decide) (by omega)).trans h9
            clear hp hlv hN
            refine ⟨fun hg => ?_, fun hg => absurd h5 hg⟩
            clear hg
            unfold Roll.Goes
            simp only [LofF19, List.getD_cons_zero, List.getD_cons_succ]
            generalize Roll.putD DofF19 vs [9, 5] b0 = a1 at *
            refine Roll.goes_val (w' := p) (.pointer (some ⟨gp, 2, none⟩)) rfl ?_ ⟨(Roll.outw_pure (by decide) rfl), rfl⟩
            (have ec : ∀ x, a1.eval (.const x) = x := fun _ => rfl); (have ef : ∀ x, a1.eval (.func x) = .func (.func x) #[] #[] := fun _ => rfl); generalize a1.eval = ρ at *
            clear h9 h5
            go_simp <;> (intros; first | (exfalso; omega) | rfl)
          · intro vs p hI0 hp
            have hI := Roll.inw_pure (by decide) rfl hI0
            clear hI0
            have h10 : (vs 10) = .pointer (some ⟨gp, 2, none⟩) := hp 10 (by simp [LofF19])
            have h5 : (vs 5) = .bool true := hp 5 (by simp [LofF19])
            have e124 : (Roll.putD DofF19 vs [10, 5] b0).eval (.tmp 124) = .pointer (some ⟨gp, 2, none⟩) := (Roll.eval_new 10 rfl (by decide) (by decide) (by omega)).trans h10
            clear hp hlv hN
            refine ⟨fun hg => ?_, fun hg => absurd h5 hg⟩
            clear hg
            unfold Roll.Goes
            simp only [LofF19, List.getD_cons_zero, List.getD_cons_succ]
            generalize Roll.putD DofF19 vs [10, 5] b0 = a1 at *
            have cf := HPC.out p hI
            refine Roll.goes_val (w' := p) (.int .i64 (n : Int)) rfl ?_ ⟨(Roll.outw_pure (by decide) rfl), rfl⟩
            (have ec : ∀ x, a1.eval (.const x) = x := fun _ => rfl); (have ef : ∀ x, a1.eval (.func x) = .func (.func x) #[] #[] := fun _ => rfl); generalize a1.eval = ρ at *
            go_simp <;> (intros; first | (exfalso; omega) | rfl)
          · intro vs p hI0 hp
            have hI := Roll.inw_pure (by decide) rfl hI0
            clear hI0
            have h5 : (vs 5) = .bool true := hp 5 (by simp [LofF19])
            have e12 : (Roll.putD DofF19 vs [5] b0).eval (.tmp 12) = .slice ra rn rc := (Roll.eval_old rfl).trans (hlv.at 2 (12, .slice ra rn rc) rfl)
            clear hp hlv hN
            refine ⟨fun hg => ?_, fun hg => absurd h5 hg⟩
            clear hg
            unfold Roll.Goes
            simp only [LofF19, List.getD_cons_zero, List.getD_cons_succ]
            generalize Roll.putD DofF19 vs [5] b0 = a1 at *
            refine Roll.goes_val (w' := p) (.slice ra rn rc) rfl ?_ ⟨(Roll.outw_pure (by decide) rfl), rfl⟩
            (have ec : ∀ x, a1.eval (.const x) = x := fun _ => rfl); (have ef : ∀ x, a1.eval (.func x) = .func (.func x) #[] #[] := fun _ => rfl); generalize a1.eval = ρ at *
            clear h5
            go_simp <;> (intros; first | (exfalso; omega) | rfl)
        · intro vs p hI hR
          have h0 : (vs 0) = .pointer (some ⟨g12, 0, none⟩) := hR 0 (by omega)
          have h1 : (vs 1) = .int .i64 (rn : Int) := hR 1 (by omega)
          have h2 : (vs 2) = .slice ra rn rc := hR 2 (by omega)
          have h3 : (vs 3) = .int .i64 (rn : Int) := hR 3 (by omega)
          have h4 : (vs 4) = .bool true := hR 4 (by omega)
          have h5 : (vs 5) = .bool true := hR 5 (by omega)
          have h6 : (vs 6) = .pointer (some ⟨g12, 0, none⟩) := hR 6 (by omega)
          have h7 : (vs 7) = .int .i64 R := hR 7 (by omega)
          have h8 : (vs 8) = .pointer (some ⟨gp, 0, none⟩) := hR 8 (by omega)
          have h9 : (vs 9) = .pointer (some ⟨gp, 0, none⟩) := hR 9 (by omega)
          have h10 : (vs 10) = .pointer (some ⟨gp, 2, none⟩) := hR 10 (by omega)
          have h11 : (vs 11) = .int .i64 (n : Int) := hR 11 (by omega)
          have h12 : (vs 12) = .slice ra rn rc := hR 12 (by omega)
          clear hR
          simp only [List.range_succ, List.range_zero, List.nil_append, List.cons_append, Roll.putD, Act.put, List.getD_cons_zero, List.getD_cons_succ, List.setIfInBounds_toArray, List.set_cons_zero, List.set_cons_succ, List.drop_succ_cons, List.drop_zero, DofF19]
          simp only [h0, h1, h2, h3, h4, h5, h6, h7, h8, h9, h10, h11, h12]
          clear h0 h1 h2 h3 h4 h5 h6 h7 h8 h9 h10 h11 h12
          have HL18 := Lib.hid hI
          clear hI HL7
          go_wp2_with (go_at_call 30; obtain ⟨D9, a9, c9, hv9, hrd9⟩ := HL18.out.recsR HX1.out; rw [← HRN.out] at hv9 hrd9; cases hv9; refine (rroom_any D9 ra rn rc n rs _ hrd9 (by have := HN4.out.2; omega) (by have := HRL.out.2.2; omega) (by have := HRL.out.1; rw [← HRN.out] at this; omega) HRL.out.2.1).mono ?_; rintro e w19 ⟨rfl, rfl⟩; rw [HRR.out]; clear hrd9)
          go_ret
          exact ⟨rfl, HL18.out.args⟩
end Go.Proofs.Ythffegfcgmhppaa
namespace Go.Proofs.Ythffegfcgmhppaa
open Go.RowKit
set_option linter.unusedSimpArgs false
set_option linter.unusedVariables false
def DofS4 : List (Option Tmp) := [some 14, some 15, some 16, some 17, some 18, some 19, some 20, some 21, some 22, some 23, some 24, some 25, some 26, some 27, some 28, some 8]
def LofS4 : List (List Nat) := [[], [], [], [2], [], [], [5], [6], [7], [8], [4, 9], [0, 1, 3, 10], [11], [12], [12, 13], [14]]
theorem Lv.swap01 {w0 w : World} {a b c d : Obj} (h : Lv w0 w [b, a, c, d]) : Lv w0 w [a, b, c, d] :=
  h.pick [a, b, c, d] (fun i => if i = 0 then 1 else if i = 1 then 0 else i) (fun i j hi hj => by
    have hi : i < 4 := hi
    have hj : j < 4 := hj
    intro e
    split at e <;> split at e <;> (try split at e) <;> (try split at e) <;> omega) (fun i hi => by
    have hi : i < 4 := hi
    have hi3 : i = 0 ∨ i = 1 ∨ i = 2 ∨ i = 3 := by omega
    rcases hi3 with rfl | rfl | rfl | rfl <;> rfl)
/-- the first of five objects becomes the last -/
theorem Lv.swap5 {w0 w : World} {a b c d e : Obj} (h : Lv w0 w [e, a, b, c, d]) : Lv w0 w [a, b, c, d, e] :=
  h.pick [a, b, c, d, e] (fun i => if i = 4 then 0 else i + 1) (fun i j hi hj => by
    have hi : i < 5 := hi
    have hj : j < 5 := hj
    intro e
    split at e <;> split at e <;> omega) (fun i hi => by
    have hi : i < 5 := hi
    have hi3 : i = 0 ∨ i = 1 ∨ i = 2 ∨ i = 3 ∨ i = 4 := by omega
    rcases hi3 with rfl | rfl | rfl | rfl | rfl <;> rfl)
set_option maxRecDepth 100000 in
set_option maxHeartbeats 8000000 in
theorem walsurvives_any (s : Int) (aa : Option Addr) (an ac : Nat) (ms : List AM) (fu : Int) (ta : Option Addr) (tn tc : Nat) (tl : List Int) (w : World) (s1 : -9223372036854775808 ≤ s) (s2 : s ≤ 9223372036854775807) (hA : Acts (Old w) w aa an ac ms) (u1 : -9223372036854775808 ≤ fu) (u2 : fu ≤ 9223372036854775807) (hI : Is (Old w) w ta tn tc tl) (hl64 : Ok64 tl) :
    Calls Try.prog 5 #[.int .i64 s, .slice aa an ac, .int .i64 fu, .slice ta tn tc] w fun e w' => e = .returned (.bool true) ∧ Below w.heap.size w w' := by
  obtain ⟨n, hn⟩ : ∃ n, n = bgN s := ⟨_, rfl⟩
  have hnb := bgN_bd s
  have HBG := Lib.hid (begin_lv (Lv.refl w) s s1 s2)
  rw [← hn] at hnb HBG
  obtain ⟨f1, f2, f3, f4, f5, f6⟩ := bg_fine n hnb.1 hnb.2
  obtain ⟨K, hK, hK2⟩ := around_nat fu 60 (by omega)
  have HAR : Hid (∀ u, Calls Try.prog 9 #[.int .i64 fu, .int .i64 60] u fun e w' => e = .returned (.int .i64 (K : Int)) ∧ u = w') := Lib.hid (fun u => by rw [← hK]; exact around_any fu 60 u u1 u2 (by omega) (by omega))
  have HP := Lib.hid (begin_past n hnb.1 hnb.2)
  have HFI := Lib.hid f3
  have HA := Lib.hid hA
  obtain ⟨DS, hDS⟩ : ∃ DS, DS = n + 2 := ⟨_, rfl⟩
  have hw2 : IntKind.i64.wrap ((n : Int) + 2) = (DS : Int) := by rw [i64_id _ (by omega) (by omega)]; omega
  rw [← hDS] at HP
  have hn15 := hnb.2
  have hDS2 : 1 ≤ DS ∧ DS ≤ 4096 := by omega
  have HTN : Hid (∀ u, Below w.heap.size w u → Is (Old w) u ta tn tc tl) := Lib.hid (fun u hu => hI.kept (Kept.of_below (fun x => w.heap.size ≤ x) hu) (fun x hx ho h => by have : x < w.heap.size := ho; omega))
  have H64 := Lib.hid hl64
  have HDS := Lib.hid hDS2
  have hac : an ≤ ac := hA.2.1.2.1
  have ham : ac ≤ 9223372036854775807 := hA.2.1.2.2.1
  clear hA hI hl64 hn hnb f1 f2 f3 f4 f5 f6 hK hDS hDS2
  go_enter Try.func5, Try.ntmps5
  go_upto_region 4 with (go_at_call 23; refine HBG.out.mono ?_; rintro e w1 ⟨gp, g, gl, rfl, hl⟩; have HL1 := Lib.hid hl; clear hl HBG)
  have HLa := Lib.hid HL1.out.recs0
  clear HL1
  obtain ⟨LST, hLST⟩ : ∃ LST, LST = [pastO gp g gl n (.slice none 0 0) 0 false, recsO (.slice none 0 0) [], logO gl g (mFresh 1 n), diskO g (bgD n)] := ⟨_, rfl⟩
  have HL7 : Hid (Lv w w1 LST) := Lib.hid (by rw [hLST]; exact HLa.out.swap01)
  have HPC : Hid (∀ u L, Lv w u L → (L = LST ∨ ∃ o, L = o :: LST) → u.cell? ⟨gp, 0, none⟩ = some (.pointer (some ⟨g, 0, none⟩)) ∧ u.cell? ⟨gp, 2, none⟩ = some (.int .i64 (n : Int))) := Lib.hid (fun u L hl hL => by
    rcases hL with rfl | ⟨o, rfl⟩
    · rw [hLST] at hl; have := hl.pastF (i := 0) rfl; exact ⟨this.2.1, this.2.2.2.1⟩
    · rw [hLST] at hl; have := hl.pastF (i := 1) rfl; exact ⟨this.2.1, this.2.2.2.1⟩)
  have HTO : Hid (∀ u, Lv w u LST → Calls Try.prog 25 #[.slice ta tn tc, .int .i64 (DS : Int)] u fun x w' => ∃ v ts, x = .returned v ∧ Lv w w' (tornO v ts :: LST)) := Lib.hid (fun u hl => (torn_any (Old w) ta tn tc tl DS u (HTN.out u hl.args) H64.out HDS.out.1 HDS.out.2).mono (fun e w' ⟨v, ts, he, _, hlv⟩ => ⟨v, ts, he, hl.onto hlv⟩))
  have HLST := Lib.hid hLST
  clear hLST HLa
  refine Roll.region_x 11 29 DofS4 LofS4 [(1, .slice aa an ac), (2, .int .i64 fu), (3, .slice ta tn tc), (9, .pointer (some ⟨gp, 0, none⟩))] 10 [true, true, true, true, true, true, true, true, true, true, false] (fun p => Lv w p LST) (fun vv p => ∃ ts, Lv w p (tornO vv ts :: LST)) (fun p => p.cell? ⟨gp, 0, none⟩ = some (.pointer (some ⟨g, 0, none⟩)) ∧ p.cell? ⟨gp, 2, none⟩ = some (.int .i64 (n : Int))) (fun _ _ => True) [fun vv p => (vv 0) = .pointer (some ⟨gp, 0, none⟩), fun vv p => (vv 1) = .slice aa an ac, fun vv p => (vv 2) = .int .i64 fu, fun vv p => (vv 3) = .int .i64 (K : Int), fun vv p => (vv 4) = .slice ta tn tc, fun vv p => (vv 5) = .pointer (some ⟨gp, 0, none⟩), fun vv p => (vv 6) = .pointer (some ⟨gp, 0, none⟩), fun vv p => (vv 7) = .pointer (some ⟨gp, 2, none⟩), fun vv p => (vv 8) = .int .i64 (n : Int), fun vv p => (vv 9) = .int .i64 ((DS : Nat) : Int), fun vv p => ∃ x, (vv 10) = x] (by kernel_rfl) (by kernel_rfl) rfl ⟨rfl, rfl, rfl, rfl, trivial⟩ (HL7.out.below (Below.refl _ _).drew) (by decide) (by kernel_rfl) (fun p hp => HPC.out p LST hp (.inl rfl)) (fun u p hp => by obtain ⟨ts, hl⟩ := hp; exact HPC.out p _ hl.tail (.inl rfl)) (fun _ => trivial) ?_ ?_ ?_
  · exact ⟨fun _ _ _ _ h => h, fun _ _ _ _ h => h, fun _ _ _ _ h => h, fun _ _ _ _ h => h, fun _ _ _ _ h => h, fun _ _ _ _ h => h, fun _ _ _ _ h => h, fun _ _ _ _ h => h, fun _ _ _ _ h => h, fun _ _ _ _ h => h, fun _ _ _ _ h => h, trivial⟩
  · intro b0 hN hlv
    refine ⟨?_, ?_, ?_, ?_, ?_, ?_, ?_, ?_, ?_, ?_, ?_, trivial⟩
    · intro vs p hI0 hp
      have hI := Roll.inw_pure (by decide) rfl hI0
      clear hI0
      have e9 : (Roll.putD DofS4 vs [] b0).eval (.tmp 9) = .pointer (some ⟨gp, 0, none⟩) := (Roll.eval_old rfl).trans (hlv.at 3 (9, .pointer (some ⟨gp, 0, none⟩)) rfl)
      clear hp hlv hN
      unfold Roll.Goes
      simp only [LofS4, List.getD_cons_zero, List.getD_cons_succ]
      generalize Roll.putD DofS4 vs [] b0 = a1 at *
      refine Roll.goes_val (w' := p) (.pointer (some ⟨gp, 0, none⟩)) rfl ?_ ⟨(Roll.outw_pure (by decide) rfl), rfl⟩
      (have ec : ∀ x, a1.eval (.const x) = x := fun _ => rfl); (have ef : ∀ x, a1.eval (.func x) = .func (.func x) #[] #[] := fun _ => rfl); generalize a1.eval = ρ at *
      skip
      go_simp <;> (intros; first | (exfalso; omega) | rfl)
    · intro vs p hI0 hp
      have hI := Roll.inw_pure (by decide) rfl hI0
      clear hI0
      have e1 : (Roll.putD DofS4 vs [] b0).eval (.tmp 1) = .slice aa an ac := (Roll.eval_old rfl).trans (hlv.at 0 (1, .slice aa an ac) rfl)
      clear hp hlv hN
      unfold Roll.Goes
      simp only [LofS4, List.getD_cons_zero, List.getD_cons_succ]
      generalize Roll.putD DofS4 vs [] b0 = a1 at *
      refine Roll.goes_val (w' := p) (.slice aa an ac) rfl ?_ ⟨(Roll.outw_pure (by decide) rfl), rfl⟩
      (have ec : ∀ x, a1.eval (.const x) = x := fun _ => rfl); (have ef : ∀ x, a1.eval (.func x) = .func (.func x) #[] #[] := fun _ => rfl); generalize a1.eval = ρ at *
      skip
      go_simp <;> (intros; first | (exfalso; omega) | rfl)
    · intro vs p hI0 hp
      have hI := Roll.inw_pure (by decide) rfl hI0
      clear hI0
      have e2 : (Roll.putD DofS4 vs [] b0).eval (.tmp 2) = .int .i64 fu := (Roll.eval_old rfl).trans (hlv.at 1 (2, .int .i64 fu) rfl)
      clear hp hlv hN
      unfold Roll.Goes
      simp only [LofS4, List.getD_cons_zero, List.getD_cons_succ]
      generalize Roll.putD DofS4 vs [] b0 = a1 at *
      refine Roll.goes_val (w' := p) (.int .i64 fu) rfl ?_ ⟨(Roll.outw_pure (by decide) rfl), rfl⟩
      (have ec : ∀ x, a1.eval (.const x) = x := fun _ => rfl); (have ef : ∀ x, a1.eval (.func x) = .func (.func x) #[] #[] := fun _ => rfl); generalize a1.eval = ρ at *
      skip
      go_simp <;> (intros; first | (exfalso; omega) | rfl)
    · intro vs p hI0 hp
      have hI := Roll.inw_pure (by decide) rfl hI0
      clear hI0
      have h2 : (vs 2) = .int .i64 fu := hp 2 (by simp [LofS4])
      have e16 : (Roll.putD DofS4 vs [2] b0).eval (.tmp 16) = .int .i64 fu := (Roll.eval_new 2 rfl (by decide) (by decide) (by omega)).trans h2
      clear hp hlv hN
      unfold Roll.Goes
      simp only [LofS4, List.getD_cons_zero, List.getD_cons_succ]
      generalize Roll.putD DofS4 vs [2] b0 = a1 at *
      refine Roll.goes_call 9 #[.int .i64 fu, .int .i64 60] p rfl (by have ec : ∀ x, a1.eval (.const x) = x := fun _ => rfl; have ef : ∀ x, a1.eval (.func x) = .func (.func x) #[] #[] := fun _ => rfl; generalize a1.eval = ρ at *; go_simp) ?_
      refine (HAR.out p).mono ?_
      rintro y p2 ⟨rfl, rfl⟩
      exact ⟨_, rfl, Roll.outw_pure (by decide) rfl, rfl⟩
    · intro vs p hI0 hp
      have hI := Roll.inw_pure (by decide) rfl hI0
      clear hI0
      have e3 : (Roll.putD DofS4 vs [] b0).eval (.tmp 3) = .slice ta tn tc := (Roll.eval_old rfl).trans (hlv.at 2 (3, .slice ta tn tc) rfl)
      clear hp hlv hN
      unfold Roll.Goes
      simp only [LofS4, List.getD_cons_zero, List.getD_cons_succ]
      generalize Roll.putD DofS4 vs [] b0 = a1 at *
      refine Roll.goes_val (w' := p) (.slice ta tn tc) rfl ?_ ⟨(Roll.outw_pure (by decide) rfl), rfl⟩
      (have ec : ∀ x, a1.eval (.const x) = x := fun _ => rfl); (have ef : ∀ x, a1.eval (.func x) = .func (.func x) #[] #[] := fun _ => rfl); generalize a1.eval = ρ at *
      skip
      go_simp <;> (intros; first | (exfalso; omega) | rfl)
    · intro vs p hI0 hp
      have hI := Roll.inw_pure (by decide) rfl hI0
      clear hI0
      have e9 : (Roll.putD DofS4 vs [] b0).eval (.tmp 9) = .pointer (some ⟨gp, 0, none⟩) := (Roll.eval_old rfl).trans (hlv.at 3 (9, .pointer (some ⟨gp, 0, none⟩)) rfl)
      clear hp hlv hN
      unfold Roll.Goes
      simp only [LofS4, List.getD_cons_zero, List.getD_cons_succ]
      generalize Roll.putD DofS4 vs [] b0 = a1 at *
      refine Roll.goes_val (w' := p) (.pointer (some ⟨gp, 0, none⟩)) rfl ?_ ⟨(Roll.outw_pure (by decide) rfl), rfl⟩
      (have ec : ∀ x, a1.eval (.const x) = x := fun _ => rfl); (have ef : ∀ x, a1.eval (.func x) = .func (.func x) #[] #[] := fun _ => rfl); generalize a1.eval = ρ at *
      skip
      go_simp <;> (intros; first | (exfalso; omega) | rfl)
    · intro vs p hI0 hp
      have hI := Roll.inw_pure (by decide) rfl hI0
      clear hI0
      have h5 : (vs 5) = .pointer (some ⟨gp, 0, none⟩) := hp 5 (by simp [LofS4])
      have e19 : (Roll.putD DofS4 vs [5] b0).eval (.tmp 19) = .pointer (some ⟨gp, 0, none⟩) := (Roll.eval_new 5 rfl (by decide) (by decide) (by omega)).trans h5
      clear hp hlv hN
      unfold Roll.Goes
      simp only [LofS4, List.getD_cons_zero, List.getD_cons_succ]
      generalize Roll.putD DofS4 vs [5] b0 = a1 at *
      refine Roll.goes_val (w' := p) (.pointer (some ⟨gp, 0, none⟩)) rfl ?_ ⟨(Roll.outw_pure (by decide) rfl), rfl⟩
      (have ec : ∀ x, a1.eval (.const x) = x := fun _ => rfl); (have ef : ∀ x, a1.eval (.func x) = .func (.func x) #[] #[] := fun _ => rfl); generalize a1.eval = ρ at *
      clear h5
      go_simp <;> (intros; first | (exfalso; omega) | rfl)
    · intro vs p hI0 hp
      have hI := Roll.inw_pure (by decide) rfl hI0
      clear hI0
      have h6 : (vs 6) = .pointer (some ⟨gp, 0, none⟩) := hp 6 (by simp [LofS4])
      have e20 : (Roll.putD DofS4 vs [6] b0).eval (.tmp 20) = .pointer (some ⟨gp, 0, none⟩) := (Roll.eval_new 6 rfl (by decide) (by decide) (by omega)).trans h6
      clear hp hlv hN
      unfold Roll.Goes
      simp only [LofS4, List.getD_cons_zero, List.getD_cons_succ]
      generalize Roll.putD DofS4 vs [6] b0 = a1 at *
      refine Roll.goes_val (w' := p) (.pointer (some ⟨gp, 2, none⟩)) rfl ?_ ⟨(Roll.outw_pure (by decide) rfl), rfl⟩
      (have ec : ∀ x, a1.eval (.const x) = x := fun _ => rfl); (have ef : ∀ x, a1.eval (.func x) = .func (.func x) #[] #[] := fun _ => rfl); generalize a1.eval = ρ at *
      clear h6
      go_simp <;> (intros; first | (exfalso; omega) | rfl)
    · intro vs p hI0 hp
      have hI := Roll.inw_pure (by decide) rfl hI0
      clear hI0
      have h7 : (vs 7) = .pointer (some ⟨gp, 2, none⟩) := hp 7 (by simp [LofS4])
      have e21 : (Roll.putD DofS4 vs [7] b0).eval (.tmp 21) = .pointer (some ⟨gp, 2, none⟩) := (Roll.eval_new 7 rfl (by decide) (by decide) (by omega)).trans h7
      clear hp hlv hN
      unfold Roll.Goes
      simp only [LofS4, List.getD_cons_zero, List.getD_cons_succ]
      generalize Roll.putD DofS4 vs [7] b0 = a1 at *
      have cf := hI.2
      refine Roll.goes_val (w' := p) (.int .i64 (n : Int)) rfl ?_ ⟨(Roll.outw_pure (by decide) rfl), rfl⟩
      (have ec : ∀ x, a1.eval (.const x) = x := fun _ => rfl); (have ef : ∀ x, a1.eval (.func x) = .func (.func x) #[] #[] := fun _ => rfl); generalize a1.eval = ρ at *
      go_simp <;> (intros; first | (exfalso; omega) | rfl)
    · intro vs p hI0 hp
      have hI := Roll.inw_pure (by decide) rfl hI0
      clear hI0
      have h8 : (vs 8) = .int .i64 (n : Int) := hp 8 (by simp [LofS4])
      have e22 : (Roll.putD DofS4 vs [8] b0).eval (.tmp 22) = .int .i64 (n : Int) := (Roll.eval_new 8 rfl (by decide) (by decide) (by omega)).trans h8
      clear hp hlv hN
      unfold Roll.Goes
      simp only [LofS4, List.getD_cons_zero, List.getD_cons_succ]
      generalize Roll.putD DofS4 vs [8] b0 = a1 at *
      refine Roll.goes_val (w' := p) (.int .i64 ((DS : Nat) : Int)) rfl ?_ ⟨(Roll.outw_pure (by decide) rfl), rfl⟩
      (have ec : ∀ x, a1.eval (.const x) = x := fun _ => rfl); (have ef : ∀ x, a1.eval (.func x) = .func (.func x) #[] #[] := fun _ => rfl); generalize a1.eval = ρ at *
      clear h8
      go_simp <;> (intros; first | (exfalso; omega) | rfl)
    · intro vs p hI0 hp
      have hI := Roll.inw_k0 rfl hI0
      clear hI0
      have h4 : (vs 4) = .slice ta tn tc := hp 4 (by simp [LofS4])
      have h9 : (vs 9) = .int .i64 ((DS : Nat) : Int) := hp 9 (by simp [LofS4])
      have e18 : (Roll.putD DofS4 vs [4, 9] b0).eval (.tmp 18) = .slice ta tn tc := (Roll.eval_new 4 rfl (by decide) (by decide) (by omega)).trans h4
      have e23 : (Roll.putD DofS4 vs [4, 9] b0).eval (.tmp 23) = .int .i64 ((DS : Nat) : Int) := (Roll.eval_new 9 rfl (by decide) (by decide) (by omega)).trans h9
      clear hp hlv hN
      unfold Roll.Goes
      simp only [LofS4, List.getD_cons_zero, List.getD_cons_succ]
      generalize Roll.putD DofS4 vs [4, 9] b0 = a1 at *
      refine Roll.goes_call 25 #[.slice ta tn tc, .int .i64 ((DS : Nat) : Int)] p rfl (by have ec : ∀ x, a1.eval (.const x) = x := fun _ => rfl; have ef : ∀ x, a1.eval (.func x) = .func (.func x) #[] #[] := fun _ => rfl; generalize a1.eval = ρ at *; go_simp) ?_
      refine (HTO.out p hI).mono ?_
      rintro y p2 ⟨v, ts, rfl, hl⟩
      exact ⟨_, rfl, Roll.outw_k0 rfl ⟨ts, hl⟩ trivial, _, rfl⟩
  · intro vs p hI hR
    have h0 : (vs 0) = .pointer (some ⟨gp, 0, none⟩) := hR 0 (by omega)
    have h1 : (vs 1) = .slice aa an ac := hR 1 (by omega)
    have h2 : (vs 2) = .int .i64 fu := hR 2 (by omega)
    have h3 : (vs 3) = .int .i64 (K : Int) := hR 3 (by omega)
    have h4 : (vs 4) = .slice ta tn tc := hR 4 (by omega)
    have h5 : (vs 5) = .pointer (some ⟨gp, 0, none⟩) := hR 5 (by omega)
    have h6 : (vs 6) = .pointer (some ⟨gp, 0, none⟩) := hR 6 (by omega)
    have h7 : (vs 7) = .pointer (some ⟨gp, 2, none⟩) := hR 7 (by omega)
    have h8 : (vs 8) = .int .i64 (n : Int) := hR 8 (by omega)
    have h9 : (vs 9) = .int .i64 ((DS : Nat) : Int) := hR 9 (by omega)
    have h10 : ∃ x, (vs 10) = x := hR 10 (by omega)
    clear hR
    simp only [List.range_succ, List.range_zero, List.nil_append, List.cons_append, Roll.putD, Act.put, List.getD_cons_zero, List.getD_cons_succ, List.setIfInBounds_toArray, List.set_cons_zero, List.set_cons_succ, List.drop_succ_cons, List.drop_zero, DofS4]
    simp only [h0, h1, h2, h3, h4, h5, h6, h7, h8, h9]
    clear h0 h1 h2 h3 h4 h5 h6 h7 h8 h9
    clear h10
    generalize vs 10 = v10 at *
    obtain ⟨ts, hl⟩ := hI
    have HLT : Hid (Lv w p (PL gp g gl n (.slice none 0 0) (mFresh 1 n) (bgD n) false [tornO v10 ts])) := Lib.hid (by rw [HLST.out] at hl; exact hl.swap5)
    clear hl HL7 HTO HPC
    go_wp2_with (first
      | (have x1 := HLT.out; go_at_call 24; refine (fail_lv x1 HP.out HFI.out (K : Int) (by omega) (by omega) aa an ac ms HA.out).mono ?_; rintro e w5 ⟨rfl, hb⟩; have HB := Lib.hid hb; clear hb x1 HLT)
      | (have x1 := HB.out; go_at_call 19; refine (lives4_any _).mono ?_; rintro e w13 ⟨rfl, hb⟩; have HZ := Lib.hid (x1.trans (hb.mono x1.size)); clear hb x1 HB))
    go_ret
    exact ⟨rfl, HZ.out⟩
end Go.Proofs.Ythffegfcgmhppaa

/-
  The law DiskClones.
-/
import Derived.Test.YtbnodhcgdgcebaaU5
namespace Go.Proofs.Ytbnodhcgdgcebaa
open Go.RowKit
set_option linter.unusedSimpArgs false
set_option linter.unusedVariables false
def Dcl13 : List (Option Tmp) := [some 45, some 46, some 47, some 48, some 49, some 50, some 51, some 52, some 53, some 54, some 55, some 56, some 57, some 58, some 59, some 60]
def Lcl13 : List (List Nat) := [[], [], [], [1, 2], [3], [4], [], [6], [5, 7], [], [], [9, 10], [11], [12], [13], [0, 8, 14]]
set_option maxRecDepth 100000 in
set_option maxHeartbeats 8000000 in
theorem diskclones_any (x : Int) (a1 : Option Addr) (n1 c1 : Nat) (ms1 : List OM) (a : Option Addr) (n c : Nat) (ms : List OM) (w0 : World) (h1 : -9223372036854775808 ≤ x) (h2 : x ≤ 9223372036854775807) (hO1 : Ops (fun b => b < w0.heap.size) w0 a1 n1 c1 ms1) (hO : Ops (fun b => b < w0.heap.size) w0 a n c ms) :
    Calls Try.prog 10 #[.int .i64 x, .slice a1 n1 c1, .slice a n c] w0 fun e w' => e = .returned (.bool true) ∧ Below w0.heap.size w0 w' := by
  have HO1 := Lib.hid hO1
  have HO := Lib.hid hO
  have HL0 := Lib.hid (Lv.refl w0)
  have hsb := secs_bd x
  obtain ⟨S, hS⟩ : ∃ S, S = secs x := ⟨_, rfl⟩
  rw [← hS] at hsb
  have hsb1 := hsb.1
  have hsb2 := hsb.2
  have hS1 : (1 : Int) ≤ (S : Int) := by omega
  have HS := Lib.hid hS
  have hnm : n ≤ 9223372036854775807 := by have := hO.2.1.2.1; have := hO.2.1.2.2.1; unfold maxLen at this; omega
  have HG1 : Hid True := Lib.hid trivial
  clear hO1 hO hS hsb
  go_enter Try.func10, Try.ntmps10
  go_upto_region 10 with (first
    | (have hL := HL0.out; go_at_call 35; refine (written_lv hL x h1 h2 HO1.out).mono ?_; rintro e w1 ⟨g, d, rfl, hl, hon, hfz, hSL, hok⟩; rw [← HS.out] at hSL; have HL1 := Lib.hid hl; have HOD := Lib.hid hon; have HFD := Lib.hid hfz; have HSD := Lib.hid hSL; have HOKD := Lib.hid hok; clear hl hon hfz hSL hok HL0 hL)
    | (have x1 := HG1; have hL := HL1.out; go_at_call 20; refine (len_lv hL (i := 0) (d := d) rfl).mono ?_; rintro e w2 ⟨rfl, rfl⟩; rw [HSD.out]; clear hL x1)
    | (have hL := HL1.out; go_at_call 37; refine (clone_lv hL (i := 0) (d := d) rfl (HOKD.out.mono (by omega))).mono ?_; rintro e w1 ⟨ga, rfl, hl⟩; have HL2 := Lib.hid hl; clear hl HL1 hL)
    | (have hL := HL2.out; go_at_call 38; refine (equal_lv hL (i1 := 0) (i2 := 1) (d1 := d) (d2 := d) rfl rfl rfl rfl HOD.out rfl).mono ?_; rintro e w1 ⟨rfl, hl⟩; have HL3 := Lib.hid hl; clear hl HL2 hL)
    | (have hL := HL3.out; go_at_call 37; refine (clone_lv hL (i := 1) (d := d) rfl (HOKD.out.mono (by omega))).mono ?_; rintro e w1 ⟨gc, rfl, hl⟩; have HL4 := Lib.hid hl; clear hl HL3 hL))
  go_wp2_with fail
  go_loopw [10] (fun t wr => ∃ i : Nat, i ≤ n ∧ i ≤ 20 ∧ t = .int .i64 (i : Int) ∧ ∃ d2, Lv w0 wr [diskO gc d, diskO ga d2, diskO g d] ∧ d2.on = true ∧ d2.fuse = 0 ∧ d2.S.length = S ∧ d2.Ok (40 + i)) (fun t _ => 20 - (intOf t).toNat)
  case atStart => exact ⟨0, Nat.zero_le _, by omega, rfl, d, HL4.out, HOD.out, HFD.out, HSD.out, HOKD.out⟩
  case round =>
    obtain ⟨i, hi, hi20, rfl, d2, hL, hon, hf0, hSL, hOK⟩ := hrel
    have HL := Lib.hid hL
    have HON := Lib.hid hon
    have HF0 := Lib.hid hf0
    have HSL := Lib.hid hSL
    have HOKi := Lib.hid hOK
    have HOK : Hid (d2.Ok 100000) := Lib.hid (hOK.mono (by omega))
    clear hL hon hf0 hSL hOK
    by_cases hlt : i < n
    · by_cases hlt20 : i < 20
      · have hn2 : (i : Int) < (n : Int) := by omega
        have hn3 : (i : Int) < 20 := by omega
        have hw1 : IntKind.i64.wrap ((i : Int) + 1) = (i : Int) + 1 := i64_id _ (by omega) (by omega)
        obtain ⟨b, off, hDb, hbw, rfl, hrb⟩ := HO.out.at (by omega)
        have hil : i < ms.length := by have := HO.out.1; omega
        have hr5 := hrb i hil
        obtain ⟨m, hm⟩ : ∃ m, m = ms[i] := ⟨_, rfl⟩
        have hmok : OOk (fun b => b < w0.heap.size) w0 m := by rw [hm]; exact HO.out.2.2 _ (List.getElem_mem hil)
        rw [← hm] at hr5
        obtain ⟨ob, hob⟩ : ∃ ob, off + i * 5 = ob := ⟨_, rfl⟩
        rw [hob] at hr5
        have hbq : b < wr.heap.size := Nat.lt_of_lt_of_le hbw HL.out.size
        have cK0 : wr.cell? ⟨b, ob + 0, none⟩ = some (.int .i64 m.kind) := (HL.out.args.cell (p := ⟨b, ob + 0, none⟩) hbw).trans (hr5 0 _ rfl)
        have c1 : wr.cell? ⟨b, ob + 1, none⟩ = some (.int .i64 m.k) := (HL.out.args.cell (p := ⟨b, ob + 1, none⟩) hbw).trans (hr5 1 _ rfl)
        have c2 : wr.cell? ⟨b, ob + 2, none⟩ = some (.int .i64 m.n) := (HL.out.args.cell (p := ⟨b, ob + 2, none⟩) hbw).trans (hr5 2 _ rfl)
        have c3 : wr.cell? ⟨b, ob + 3, none⟩ = some (.slice m.ba m.bn m.bc) := (HL.out.args.cell (p := ⟨b, ob + 3, none⟩) hbw).trans (hr5 3 _ rfl)
        have cK : wr.cell? ⟨b, ob, none⟩ = some (.int .i64 m.kind) := cK0
        have HM := Lib.hid hmok
        have HOB := Lib.hid hob
        have HC1 := Lib.hid c1
        have HC2 := Lib.hid c2
        have HC3 := Lib.hid c3
        have Hbw := Lib.hid hbw
        have Hbq := Lib.hid hbq
        clear hDb hrb hr5 hm hmok cK0 c1 c2 c3 hil hbw hbq
        go_upto_region 13 with fail
        rename World => q
        have C1 : Hid (q.cell? ⟨b, ob + 1, none⟩ = some (.int .i64 m.k)) := HC1
        have C2 : Hid (q.cell? ⟨b, ob + 2, none⟩ = some (.int .i64 m.n)) := HC2
        obtain ⟨B, ⟨gd, gm, row, NN, hdq, hBB⟩, hlt, _, hset⟩ := HL.out.get (i := 1) (o := diskO ga d2) rfl
        have hdq := hdq.bound HOK.out
        have HD := Lib.hid hdq
        have HBB := Lib.hid hBB
        have HLT := Lib.hid hlt
        have HSET := Lib.hid hset
        have HBQ : Hid (b < q.heap.size ∧ ¬ B b) := Lib.hid ⟨Hbq.out, fun hb => by have := (hlt b hb).1; have := Hbw.out; omega⟩
        have hS1 : 1 ≤ S := by have := hdq.ok.1; have := HSL.out; omega
        have hS2 : S ≤ 4096 := by have := hdq.ok.2.1; have := HSL.out; omega
        obtain ⟨kk, hkk, hkb⟩ := around_nat m.k (S : Int) (by omega)
        have HKK := Lib.hid hkk
        have HKS : Hid (kk < d2.S.length) := Lib.hid (by have := HSL.out; omega)
        have HHB : Hid (hasB d2 (kk : Int) = true) := Lib.hid (by unfold hasB; rw [decide_eq_true]; have := HSL.out; omega)
        have HSB : Hid ((0 : Int) < (S : Int) ∧ (S : Int) ≤ 9223372036854775807) := Lib.hid ⟨by omega, by omega⟩
        have HMK : Hid (-9223372036854775808 ≤ m.k ∧ m.k ≤ 9223372036854775807) := Lib.hid HM.out.2.1
        have HMN : Hid (-9223372036854775808 ≤ m.n ∧ m.n ≤ 9223372036854775807) := Lib.hid HM.out.2.2.1
        have HIN : Hid ((i : Int) < (n : Int)) := Lib.hid (by omega)
        have HNC : Hid (n ≤ c ∧ c ≤ 9223372036854775807) := Lib.hid ⟨HO.out.2.1.2.1, HO.out.2.1.2.2.1⟩
        clear hdq hBB hlt hset hkk hkb
        refine Roll.region_w 16 75 Dcl13 Lcl13 [(2, .slice (some ⟨b, off, none⟩) n c), (8, .pointer (some ⟨ga, 0, none⟩)), (10, .int .i64 (i : Int))] 15 [true, true, true, true, true, true, true, false, true, true, true, true, true, true, false, false] (fun p => Below q.heap.size q p) (fun vv p => (∃ l2 : List UInt8, l2.length = 64 ∧ Lv w0 p [diskO gc d, diskO ga (d2.write kk l2), diskO g d]) ∧ Kept B q p) (fun p => Kept B q p) (fun p p2 => Kept B p p2) [fun vv p => (vv 0) = .pointer (some ⟨ga, 0, none⟩), fun vv p => (vv 1) = .slice (some ⟨b, off, none⟩) n c, fun vv p => (vv 2) = .int .i64 (i : Int), fun vv p => (vv 3) = .pointer (some ⟨b, ob, none⟩), fun vv p => (vv 4) = .pointer (some ⟨b, ob + 1, none⟩), fun vv p => (vv 5) = .int .i64 m.k, fun vv p => (vv 6) = .pointer (some ⟨ga, 0, none⟩), fun vv p => (vv 7) = .int .i64 (S : Int), fun vv p => (vv 8) = .int .i64 (kk : Int), fun vv p => (vv 9) = .slice (some ⟨b, off, none⟩) n c, fun vv p => (vv 10) = .int .i64 (i : Int), fun vv p => (vv 11) = .pointer (some ⟨b, ob, none⟩), fun vv p => (vv 12) = .pointer (some ⟨b, ob + 2, none⟩), fun vv p => (vv 13) = .int .i64 m.n, fun vv p => ∃ a2 c2 l2, (vv 14) = .slice a2 64 c2 ∧ l2.length = 64 ∧ Bs (fun x => q.heap.size ≤ x) p a2 64 c2 l2, fun vv p => (vv 15) = .int .i64 0] (by kernel_rfl) (by kernel_rfl) rfl ⟨rfl, rfl, rfl, trivial⟩ ((Below.refl _ _).drew) (by decide) (by kernel_rfl) (fun _ h => Kept.of_below B h) (fun _ _ h => h.2) (fun _ => Kept.refl _ _) ?_ ?_ ?_
        · exact ⟨fun _ _ _ _ h => h, fun _ _ _ _ h => h, fun _ _ _ _ h => h, fun _ _ _ _ h => h, fun _ _ _ _ h => h, fun _ _ _ _ h => h, fun _ _ _ _ h => h, fun _ _ _ _ h => h, fun _ _ _ _ h => h, fun _ _ _ _ h => h, fun _ _ _ _ h => h, fun _ _ _ _ h => h, fun _ _ _ _ h => h, fun _ _ _ _ h => h, fun _ _ _ hs h => by obtain ⟨a2, c2, l2, e1, e2, e3⟩ := h; exact ⟨a2, c2, l2, e1, e2, e3.kept hs (fun x _ hx hb => by have := (HLT.out x hb).2; omega)⟩, fun _ _ _ _ h => h, trivial⟩
        · intro b0 hN hlv
          refine ⟨?_, ?_, ?_, ?_, ?_, ?_, ?_, ?_, ?_, ?_, ?_, ?_, ?_, ?_, ?_, ?_, trivial⟩
          · intro vs p hI0 hp
            have hI := Roll.inw_pure (by decide) rfl hI0
            clear hI0
            have e8 : (Roll.putD Dcl13 vs [] b0).eval (.tmp 8) = .pointer (some ⟨ga, 0, none⟩) := (Roll.eval_old rfl).trans (hlv.at 1 (8, .pointer (some ⟨ga, 0, none⟩)) rfl)
            clear hp hlv hN
            unfold Roll.Goes
            simp only [Lcl13, List.getD_cons_zero, List.getD_cons_succ]
            generalize Roll.putD Dcl13 vs [] b0 = a1 at *
            refine Roll.goes_val (w' := p) (.pointer (some ⟨ga, 0, none⟩)) rfl ?_ ⟨(Roll.outw_pure (by decide) rfl), rfl⟩
            (have ec : ∀ x, a1.eval (.const x) = x := fun _ => rfl); (have ef : ∀ x, a1.eval (.func x) = .func (.func x) #[] #[] := fun _ => rfl); generalize a1.eval = ρ at *
            skip
            go_simp <;> (intros; first | (exfalso; omega) | rfl)
          · intro vs p hI0 hp
            have hI := Roll.inw_pure (by decide) rfl hI0
            clear hI0
            have e2 : (Roll.putD Dcl13 vs [] b0).eval (.tmp 2) = .slice (some ⟨b, off, none⟩) n c := (Roll.eval_old rfl).trans (hlv.at 0 (2, .slice (some ⟨b, off, none⟩) n c) rfl)
            clear hp hlv hN
            unfold Roll.Goes
            simp only [Lcl13, List.getD_cons_zero, List.getD_cons_succ]
            generalize Roll.putD Dcl13 vs [] b0 = a1 at *
            refine Roll.goes_val (w' := p) (.slice (some ⟨b, off, none⟩) n c) rfl ?_ ⟨(Roll.outw_pure (by decide) rfl), rfl⟩
            (have ec : ∀ x, a1.eval (.const x) = x := fun _ => rfl); (have ef : ∀ x, a1.eval (.func x) = .func (.func x) #[] #[] := fun _ => rfl); generalize a1.eval = ρ at *
            skip
            go_simp <;> (intros; first | (exfalso; omega) | rfl)
          · intro vs p hI0 hp
            have hI := Roll.inw_pure (by decide) rfl hI0
            clear hI0
            have e10 : (Roll.putD Dcl13 vs [] b0).eval (.tmp 10) = .int .i64 (i : Int) := (Roll.eval_old rfl).trans (hlv.at 2 (10, .int .i64 (i : Int)) rfl)
            clear hp hlv hN
            unfold Roll.Goes
            simp only [Lcl13, List.getD_cons_zero, List.getD_cons_succ]
            generalize Roll.putD Dcl13 vs [] b0 = a1 at *
            refine Roll.goes_val (w' := p) (.int .i64 (i : Int)) rfl ?_ ⟨(Roll.outw_pure (by decide) rfl), rfl⟩
            (have ec : ∀ x, a1.eval (.const x) = x := fun _ => rfl); (have ef : ∀ x, a1.eval (.func x) = .func (.func x) #[] #[] := fun _ => rfl); generalize a1.eval = ρ at *
            skip
            go_simp <;> (intros; first | (exfalso; omega) | rfl)
          · intro vs p hI0 hp
            have hI := Roll.inw_pure (by decide) rfl hI0
            clear hI0
            have h1 : (vs 1) = .slice (some ⟨b, off, none⟩) n c := hp 1 (by simp [Lcl13])
            have h2 : (vs 2) = .int .i64 (i : Int) := hp 2 (by simp [Lcl13])
            have e46 : (Roll.putD Dcl13 vs [1, 2] b0).eval (.tmp 46) = .slice (some ⟨b, off, none⟩) n c := (Roll.eval_new 1 rfl (by decide) (by decide) (by omega)).trans h1
            have e47 : (Roll.putD Dcl13 vs [1, 2] b0).eval (.tmp 47) = .int .i64 (i : Int) := (Roll.eval_new 2 rfl (by decide) (by decide) (by omega)).trans h2
            clear hp hlv hN
            unfold Roll.Goes
            simp only [Lcl13, List.getD_cons_zero, List.getD_cons_succ]
            generalize Roll.putD Dcl13 vs [1, 2] b0 = a1 at *
            have hin := HIN.out
            have hnc := HNC.out
            have hob : off + i * 5 = ob := HOB.out
            
            refine Roll.goes_val (w' := p) (.pointer (some ⟨b, ob, none⟩)) rfl ?_ ⟨(Roll.outw_pure (by decide) rfl), rfl⟩
            (have ec : ∀ x, a1.eval (.const x) = x := fun _ => rfl); (have ef : ∀ x, a1.eval (.func x) = .func (.func x) #[] #[] := fun _ => rfl); generalize a1.eval = ρ at *
            clear h1 h2
            go_simp <;> (intros; first | (exfalso; omega) | rfl)
          · intro vs p hI0 hp
            have hI := Roll.inw_pure (by decide) rfl hI0
            clear hI0
            have h3 : (vs 3) = .pointer (some ⟨b, ob, none⟩) := hp 3 (by simp [Lcl13])
            have e48 : (Roll.putD Dcl13 vs [3] b0).eval (.tmp 48) = .pointer (some ⟨b, ob, none⟩) := (Roll.eval_new 3 rfl (by decide) (by decide) (by omega)).trans h3
            clear hp hlv hN
            unfold Roll.Goes
            simp only [Lcl13, List.getD_cons_zero, List.getD_cons_succ]
            generalize Roll.putD Dcl13 vs [3] b0 = a1 at *
            refine Roll.goes_val (w' := p) (.pointer (some ⟨b, ob + 1, none⟩)) rfl ?_ ⟨(Roll.outw_pure (by decide) rfl), rfl⟩
            (have ec : ∀ x, a1.eval (.const x) = x := fun _ => rfl); (have ef : ∀ x, a1.eval (.func x) = .func (.func x) #[] #[] := fun _ => rfl); generalize a1.eval = ρ at *
            clear h3
            go_simp <;> (intros; first | (exfalso; omega) | rfl)
          · intro vs p hI0 hp
            have hI := Roll.inw_pure (by decide) rfl hI0
            clear hI0
            have h4 : (vs 4) = .pointer (some ⟨b, ob + 1, none⟩) := hp 4 (by simp [Lcl13])
            have e49 : (Roll.putD Dcl13 vs [4] b0).eval (.tmp 49) = .pointer (some ⟨b, ob + 1, none⟩) := (Roll.eval_new 4 rfl (by decide) (by decide) (by omega)).trans h4
            clear hp hlv hN
            unfold Roll.Goes
            simp only [Lcl13, List.getD_cons_zero, List.getD_cons_succ]
            generalize Roll.putD Dcl13 vs [4] b0 = a1 at *
            have cf : p.cell? ⟨b, ob + 1, none⟩ = some (.int .i64 m.k) := (hI.cell (p := ⟨b, ob + 1, none⟩) HBQ.out.1 HBQ.out.2).trans C1.out
            refine Roll.goes_val (w' := p) (.int .i64 m.k) rfl ?_ ⟨(Roll.outw_pure (by decide) rfl), rfl⟩
            (have ec : ∀ x, a1.eval (.const x) = x := fun _ => rfl); (have ef : ∀ x, a1.eval (.func x) = .func (.func x) #[] #[] := fun _ => rfl); generalize a1.eval = ρ at *
            clear h4
            go_simp <;> (intros; first | (exfalso; omega) | rfl)
          · intro vs p hI0 hp
            have hI := Roll.inw_pure (by decide) rfl hI0
            clear hI0
            have e8 : (Roll.putD Dcl13 vs [] b0).eval (.tmp 8) = .pointer (some ⟨ga, 0, none⟩) := (Roll.eval_old rfl).trans (hlv.at 1 (8, .pointer (some ⟨ga, 0, none⟩)) rfl)
            clear hp hlv hN
            unfold Roll.Goes
            simp only [Lcl13, List.getD_cons_zero, List.getD_cons_succ]
            generalize Roll.putD Dcl13 vs [] b0 = a1 at *
            refine Roll.goes_val (w' := p) (.pointer (some ⟨ga, 0, none⟩)) rfl ?_ ⟨(Roll.outw_pure (by decide) rfl), rfl⟩
            (have ec : ∀ x, a1.eval (.const x) = x := fun _ => rfl); (have ef : ∀ x, a1.eval (.func x) = .func (.func x) #[] #[] := fun _ => rfl); generalize a1.eval = ρ at *
            skip
            go_simp <;> (intros; first | (exfalso; omega) | rfl)
          · intro vs p hI0 hp
            have hI := Roll.inw_pre (by decide) rfl hI0
            clear hI0
            have h6 : (vs 6) = .pointer (some ⟨ga, 0, none⟩) := hp 6 (by simp [Lcl13])
            have e51 : (Roll.putD Dcl13 vs [6] b0).eval (.tmp 51) = .pointer (some ⟨ga, 0, none⟩) := (Roll.eval_new 6 rfl (by decide) (by decide) (by omega)).trans h6
            clear hp hlv hN
            unfold Roll.Goes
            simp only [Lcl13, List.getD_cons_zero, List.getD_cons_succ]
            generalize Roll.putD Dcl13 vs [6] b0 = a1 at *
            refine Roll.goes_call 20 #[.pointer (some ⟨ga, 0, none⟩)] p rfl (by have ec : ∀ x, a1.eval (.const x) = x := fun _ => rfl; have ef : ∀ x, a1.eval (.func x) = .func (.func x) #[] #[] := fun _ => rfl; generalize a1.eval = ρ at *; go_simp) ?_
            have hdp := HD.out.kept (Kept.of_below (fun _ => False) hI) (fun _ _ h => h)
            refine (len_dk hdp).mono ?_
            rintro y p2 ⟨rfl, rfl⟩
            exact ⟨_, rfl, Roll.outw_pre (by decide) rfl hI (Kept.refl _ _), by show Value.int .i64 _ = _; rw [HSL.out]⟩
          · intro vs p hI0 hp
            have hI := Roll.inw_pure (by decide) rfl hI0
            clear hI0
            have h5 : (vs 5) = .int .i64 m.k := hp 5 (by simp [Lcl13])
            have h7 : (vs 7) = .int .i64 (S : Int) := hp 7 (by simp [Lcl13])
            have e50 : (Roll.putD Dcl13 vs [5, 7] b0).eval (.tmp 50) = .int .i64 m.k := (Roll.eval_new 5 rfl (by decide) (by decide) (by omega)).trans h5
            have e52 : (Roll.putD Dcl13 vs [5, 7] b0).eval (.tmp 52) = .int .i64 (S : Int) := (Roll.eval_new 7 rfl (by decide) (by decide) (by omega)).trans h7
            clear hp hlv hN
            unfold Roll.Goes
            simp only [Lcl13, List.getD_cons_zero, List.getD_cons_succ]
            generalize Roll.putD Dcl13 vs [5, 7] b0 = a1 at *
            refine Roll.goes_call 14 #[.int .i64 m.k, .int .i64 (S : Int)] p rfl (by have ec : ∀ x, a1.eval (.const x) = x := fun _ => rfl; have ef : ∀ x, a1.eval (.func x) = .func (.func x) #[] #[] := fun _ => rfl; generalize a1.eval = ρ at *; go_simp) ?_
            refine (around_any m.k (S : Int) p HMK.out.1 HMK.out.2 HSB.out.1 HSB.out.2).mono ?_
            rintro y p2 ⟨rfl, rfl⟩
            exact ⟨_, rfl, (Roll.outw_pure (by decide) rfl), by show Value.int .i64 _ = _; rw [HKK.out]⟩
          · intro vs p hI0 hp
            have hI := Roll.inw_pure (by decide) rfl hI0
            clear hI0
            have e2 : (Roll.putD Dcl13 vs [] b0).eval (.tmp 2) = .slice (some ⟨b, off, none⟩) n c := (Roll.eval_old rfl).trans (hlv.at 0 (2, .slice (some ⟨b, off, none⟩) n c) rfl)
            clear hp hlv hN
            unfold Roll.Goes
            simp only [Lcl13, List.getD_cons_zero, List.getD_cons_succ]
            generalize Roll.putD Dcl13 vs [] b0 = a1 at *
            refine Roll.goes_val (w' := p) (.slice (some ⟨b, off, none⟩) n c) rfl ?_ ⟨(Roll.outw_pure (by decide) rfl), rfl⟩
            (have ec : ∀ x, a1.eval (.const x) = x := fun _ => rfl); (have ef : ∀ x, a1.eval (.func x) = .func (.func x) #[] #[] := fun _ => rfl); generalize a1.eval = ρ at *
            skip
            go_simp <;> (intros; first | (exfalso; omega) | rfl)
          · intro vs p hI0 hp
            have hI := Roll.inw_pure (by decide) rfl hI0
            clear hI0
            have e10 : (Roll.putD Dcl13 vs [] b0).eval (.tmp 10) = .int .i64 (i : Int) := (Roll.eval_old rfl).trans (hlv.at 2 (10, .int .i64 (i : Int)) rfl)
            clear hp hlv hN
            unfold Roll.Goes
            simp only [Lcl13, List.getD_cons_zero, List.getD_cons_succ]
            generalize Roll.putD Dcl13 vs [] b0 = a1 at *
            refine Roll.goes_val (w' := p) (.int .i64 (i : Int)) rfl ?_ ⟨(Roll.outw_pure (by decide) rfl), rfl⟩
            (have ec : ∀ x, a1.eval (.const x) = x := fun _ => rfl); (have ef : ∀ x, a1.eval (.func x) = .func (.func x) #[] #[] := fun _ => rfl); generalize a1.eval = ρ at *
            skip
            go_simp <;> (intros; first | (exfalso; omega) | rfl)
          · intro vs p hI0 hp
            have hI := Roll.inw_pure (by decide) rfl hI0
            clear hI0
            have h9 : (vs 9) = .slice (some ⟨b, off, none⟩) n c := hp 9 (by simp [Lcl13])
            have h10 : (vs 10) = .int .i64 (i : Int) := hp 10 (by simp [Lcl13])
            have e54 : (Roll.putD Dcl13 vs [9, 10] b0).eval (.tmp 54) = .slice (some ⟨b, off, none⟩) n c := (Roll.eval_new 9 rfl (by decide) (by decide) (by omega)).trans h9
            have e55 : (Roll.putD Dcl13 vs [9, 10] b0).eval (.tmp 55) = .int .i64 (i : Int) := (Roll.eval_new 10 rfl (by decide) (by decide) (by omega)).trans h10
            clear hp hlv hN
            unfold Roll.Goes
            simp only [Lcl13, List.getD_cons_zero, List.getD_cons_succ]
            generalize Roll.putD Dcl13 vs [9, 10] b0 = a1 at *
            have hin := HIN.out
            have hnc := HNC.out
            have hob : off + i * 5 = ob := HOB.out
            
            refine Roll.goes_val (w' := p) (.pointer (some ⟨b, ob, none⟩)) rfl ?_ ⟨(Roll.outw_pure (by decide) rfl), rfl⟩
            (have ec : ∀ x, a1.eval (.const x) = x := fun _ => rfl); (have ef : ∀ x, a1.eval (.func x) = .func (.func x) #[] #[] := fun _ => rfl); generalize a1.eval = ρ at *
            clear h9 h10
            go_simp <;> (intros; first | (exfalso; omega) | rfl)
          · intro vs p hI0 hp
            have hI := Roll.inw_pure (by decide) rfl hI0
            clear hI0
            have h11 : (vs 11) = .pointer (some ⟨b, ob, none⟩) := hp 11 (by simp [Lcl13])
            have e56 : (Roll.putD Dcl13 vs [11] b0).eval (.tmp 56) = .pointer (some ⟨b, ob, none⟩) := (Roll.eval_new 11 rfl (by decide) (by decide) (by omega)).trans h11
            clear hp hlv hN
            unfold Roll.Goes
            simp only [Lcl13, List.getD_cons_zero, List.getD_cons_succ]
            generalize Roll.putD Dcl13 vs [11] b0 = a1 at *
            refine Roll.goes_val (w' := p) (.pointer (some ⟨b, ob + 2, none⟩)) rfl ?_ ⟨(Roll.outw_pure (by decide) rfl), rfl⟩
            (have ec : ∀ x, a1.eval (.const x) = x := fun _ => rfl); (have ef : ∀ x, a1.eval (.func x) = .func (.func x) #[] #[] := fun _ => rfl); generalize a1.eval = ρ at *
            clear h11
            go_simp <;> (intros; first | (exfalso; omega) | rfl)
          · intro vs p hI0 hp
            have hI := Roll.inw_pure (by decide) rfl hI0
            clear hI0
            have h12 : (vs 12) = .pointer (some ⟨b, ob + 2, none⟩) := hp 12 (by simp [Lcl13])
            have e57 : (Roll.putD Dcl13 vs [12] b0).eval (.tmp 57) = .pointer (some ⟨b, ob + 2, none⟩) := (Roll.eval_new 12 rfl (by decide) (by decide) (by omega)).trans h12
            clear hp hlv hN
            unfold Roll.Goes
            simp only [Lcl13, List.getD_cons_zero, List.getD_cons_succ]
            generalize Roll.putD Dcl13 vs [12] b0 = a1 at *
            have cf : p.cell? ⟨b, ob + 2, none⟩ = some (.int .i64 m.n) := (hI.cell (p := ⟨b, ob + 2, none⟩) HBQ.out.1 HBQ.out.2).trans C2.out
            refine Roll.goes_val (w' := p) (.int .i64 m.n) rfl ?_ ⟨(Roll.outw_pure (by decide) rfl), rfl⟩
            (have ec : ∀ x, a1.eval (.const x) = x := fun _ => rfl); (have ef : ∀ x, a1.eval (.func x) = .func (.func x) #[] #[] := fun _ => rfl); generalize a1.eval = ρ at *
            clear h12
            go_simp <;> (intros; first | (exfalso; omega) | rfl)
          · intro vs p hI0 hp
            have hI := Roll.inw_pre (by decide) rfl hI0
            clear hI0
            have h13 : (vs 13) = .int .i64 m.n := hp 13 (by simp [Lcl13])
            have e58 : (Roll.putD Dcl13 vs [13] b0).eval (.tmp 58) = .int .i64 m.n := (Roll.eval_new 13 rfl (by decide) (by decide) (by omega)).trans h13
            clear hp hlv hN
            unfold Roll.Goes
            simp only [Lcl13, List.getD_cons_zero, List.getD_cons_succ]
            generalize Roll.putD Dcl13 vs [13] b0 = a1 at *
            refine Roll.goes_call 32 #[.slice none 0 0, .int .i64 m.n] p rfl (by have ec : ∀ x, a1.eval (.const x) = x := fun _ => rfl; have ef : ∀ x, a1.eval (.func x) = .func (.func x) #[] #[] := fun _ => rfl; generalize a1.eval = ρ at *; go_simp) ?_
            refine (fill_any (Z := fun _ => False) (l := []) m.n HMN.out.1 HMN.out.2 p ⟨rfl, Sl.empty _ _ _ _ _ (Nat.zero_le _) (fun _ => rfl)⟩).mono ?_
            rintro y p2 ⟨v3, l3, rfl, hl3, hm3⟩
            obtain ⟨a3, c3, rfl, hb3⟩ := hm3.bs
            obtain ⟨_, _, _, hbl⟩ := hm3
            rw [hl3] at hb3 ⊢
            exact ⟨_, rfl, Roll.outw_pre (by decide) rfl (hI.trans (hbl.mono hI.size)) (Kept.of_below _ hbl), a3, c3, l3, rfl, hl3, hb3.dom (fun x hx => Nat.le_trans hI.size hx)⟩
          · intro vs p hI0 hp
            have hI := Roll.inw_k0 rfl hI0
            clear hI0
            have h0 : (vs 0) = .pointer (some ⟨ga, 0, none⟩) := hp 0 (by simp [Lcl13])
            have h8 : (vs 8) = .int .i64 (kk : Int) := hp 8 (by simp [Lcl13])
            have h14 : ∃ a2 c2 l2, (vs 14) = .slice a2 64 c2 ∧ l2.length = 64 ∧ Bs (fun x => q.heap.size ≤ x) p a2 64 c2 l2 := hp 14 (by simp [Lcl13])
            have e45 : (Roll.putD Dcl13 vs [0, 8, 14] b0).eval (.tmp 45) = .pointer (some ⟨ga, 0, none⟩) := (Roll.eval_new 0 rfl (by decide) (by decide) (by omega)).trans h0
            have e53 : (Roll.putD Dcl13 vs [0, 8, 14] b0).eval (.tmp 53) = .int .i64 (kk : Int) := (Roll.eval_new 8 rfl (by decide) (by decide) (by omega)).trans h8
            have e59 : (Roll.putD Dcl13 vs [0, 8, 14] b0).eval (.tmp 59) = vs 14 := (Roll.eval_new 14 rfl (by decide) (by decide) (by omega))
            clear hp hlv hN
            unfold Roll.Goes
            simp only [Lcl13, List.getD_cons_zero, List.getD_cons_succ]
            generalize Roll.putD Dcl13 vs [0, 8, 14] b0 = a1 at *
            obtain ⟨a3, c3, l3, hv3, hl3, hb3⟩ := h14
            rw [hv3] at e59
            refine Roll.goes_call 31 #[.pointer (some ⟨ga, 0, none⟩), .int .i64 (kk : Int), .slice a3 64 c3] p rfl (by have ec : ∀ x, a1.eval (.const x) = x := fun _ => rfl; have ef : ∀ x, a1.eval (.func x) = .func (.func x) #[] #[] := fun _ => rfl; generalize a1.eval = ρ at *; go_simp) ?_
            have hdp := HD.out.kept (Kept.of_below (fun _ => False) hI) (fun _ _ h => h)
            refine (write_ok hdp hb3 kk HKS.out HON.out (Nat.le_refl _)).mono ?_
            rintro y p2 ⟨rfl, row', hd2, hk2, hf2⟩
            have KB : Kept B p p2 := hk2.mono (fun j _ hj => HBB.out j hj)
            have KQ : Kept B q p2 := (Kept.of_below B hI).trans KB (fun _ _ h => h)
            exact ⟨_, rfl, Roll.outw_k0 rfl ⟨⟨l3, hl3, HSET.out p2 _ (Blk ga gd gm row') ⟨gd, gm, row', _, hd2, fun _ h => h⟩ KQ (fun j hj => (hf2 j hj).imp (HBB.out j) (fun e => Nat.le_trans hI.size e)) (fun j hj => hd2.lt j hj)⟩, KQ⟩ KB, rfl⟩
        · intro vs p hI hR
          have h0 : (vs 0) = .pointer (some ⟨ga, 0, none⟩) := hR 0 (by omega)
          have h1 : (vs 1) = .slice (some ⟨b, off, none⟩) n c := hR 1 (by omega)
          have h2 : (vs 2) = .int .i64 (i : Int) := hR 2 (by omega)
          have h3 : (vs 3) = .pointer (some ⟨b, ob, none⟩) := hR 3 (by omega)
          have h4 : (vs 4) = .pointer (some ⟨b, ob + 1, none⟩) := hR 4 (by omega)
          have h5 : (vs 5) = .int .i64 m.k := hR 5 (by omega)
          have h6 : (vs 6) = .pointer (some ⟨ga, 0, none⟩) := hR 6 (by omega)
          have h7 : (vs 7) = .int .i64 (S : Int) := hR 7 (by omega)
          have h8 : (vs 8) = .int .i64 (kk : Int) := hR 8 (by omega)
          have h9 : (vs 9) = .slice (some ⟨b, off, none⟩) n c := hR 9 (by omega)
          have h10 : (vs 10) = .int .i64 (i : Int) := hR 10 (by omega)
          have h11 : (vs 11) = .pointer (some ⟨b, ob, none⟩) := hR 11 (by omega)
          have h12 : (vs 12) = .pointer (some ⟨b, ob + 2, none⟩) := hR 12 (by omega)
          have h13 : (vs 13) = .int .i64 m.n := hR 13 (by omega)
          have h14 : ∃ a2 c2 l2, (vs 14) = .slice a2 64 c2 ∧ l2.length = 64 ∧ Bs (fun x => q.heap.size ≤ x) p a2 64 c2 l2 := hR 14 (by omega)
          have h15 : (vs 15) = .int .i64 0 := hR 15 (by omega)
          clear hR
          simp only [List.range_succ, List.range_zero, List.nil_append, List.cons_append, Roll.putD, Act.put, List.getD_cons_zero, List.getD_cons_succ, List.setIfInBounds_toArray, List.set_cons_zero, List.set_cons_succ, List.drop_succ_cons, List.drop_zero, Dcl13]
          simp only [h0, h1, h2, h3, h4, h5, h6, h7, h8, h9, h10, h11, h12, h13, h15]
          clear h0 h1 h2 h3 h4 h5 h6 h7 h8 h9 h10 h11 h12 h13 h15
          obtain ⟨⟨l2, hl2, hl3⟩, hKB⟩ := hI
          have HL3 := Lib.hid hl3
          have Hl2 := Lib.hid hl2
          clear hl2 hl3 hKB h14
          go_wp2_with fail
          go_roundw
          case rel => exact ⟨i + 1, by omega, by omega, by go_num, d2.write kk l2, HL3.out, (write_on HF0.out).trans HON.out, (write_fuse HF0.out).trans HF0.out, (write_len d2 kk l2).trans HSL.out, (DM.write_ok HOKi.out Hl2.out).mono (by omega)⟩
          case measure => simp [intOf]; omega
      · obtain rfl : i = 20 := by omega
        have HRL : Hid (d2.setFuse 0 = d2.setFuse 0) := Lib.hid rfl
        go_wp2_with (first
          | (have x1 := HG1; have hL := HL.out; go_at_call 29; refine (fuse_lv hL (i := 1) (d := d2) rfl 0 (by omega) (by omega)).mono ?_; rintro e w1 ⟨rfl, hl⟩; have HLa := Lib.hid hl; clear hl HL hL HG1 x1)
          | (have hL := HLa.out; go_at_call 38; refine (equal_lv hL (i1 := 0) (i2 := 2) (d1 := d) (d2 := d) rfl rfl rfl rfl HOD.out rfl).mono ?_; rintro e w1 ⟨rfl, hl⟩; have HLb := Lib.hid hl; clear hl HLa hL)
          | (have hL := HLb.out; go_at_call 27; refine (restart_nil_lv hL (i := 1) (d := d2.setFuse 0) rfl).mono ?_; rintro e w1 ⟨rfl, hl⟩; have HLc := Lib.hid hl; clear hl HLb hL)
          | (have hL := HLc.out; go_at_call 38; refine (equal_lv hL (i1 := 0) (i2 := 2) (d1 := d) (d2 := d) rfl rfl rfl rfl HOD.out rfl).mono ?_; rintro e w1 ⟨rfl, hl⟩; have HLd := Lib.hid hl; clear hl HLc hL)
          | (have hL := HLd.out; go_at_call 17; refine (lives_any _).mono ?_; rintro e w1 ⟨rfl, hb⟩; have HB := Lib.hid (hL.args.trans (hb.mono hL.size)); clear hb hL))
        go_ret
        exact ⟨rfl, HB.out⟩
    · have hin : (n : Int) ≤ (i : Int) := by omega
      have HRL : Hid (d2.setFuse 0 = d2.setFuse 0) := Lib.hid rfl
      go_wp2_with (first
        | (have x1 := HG1; have hL := HL.out; go_at_call 29; refine (fuse_lv hL (i := 1) (d := d2) rfl 0 (by omega) (by omega)).mono ?_; rintro e w1 ⟨rfl, hl⟩; have HLa := Lib.hid hl; clear hl HL hL HG1 x1)
        | (have hL := HLa.out; go_at_call 38; refine (equal_lv hL (i1 := 0) (i2 := 2) (d1 := d) (d2 := d) rfl rfl rfl rfl HOD.out rfl).mono ?_; rintro e w1 ⟨rfl, hl⟩; have HLb := Lib.hid hl; clear hl HLa hL)
        | (have hL := HLb.out; go_at_call 27; refine (restart_nil_lv hL (i := 1) (d := d2.setFuse 0) rfl).mono ?_; rintro e w1 ⟨rfl, hl⟩; have HLc := Lib.hid hl; clear hl HLb hL)
        | (have hL := HLc.out; go_at_call 38; refine (equal_lv hL (i1 := 0) (i2 := 2) (d1 := d) (d2 := d) rfl rfl rfl rfl HOD.out rfl).mono ?_; rintro e w1 ⟨rfl, hl⟩; have HLd := Lib.hid hl; clear hl HLc hL)
        | (have hL := HLd.out; go_at_call 17; refine (lives_any _).mono ?_; rintro e w1 ⟨rfl, hb⟩; have HB := Lib.hid (hL.args.trans (hb.mono hL.size)); clear hb hL))
      go_ret
      exact ⟨rfl, HB.out⟩
end Go.Proofs.Ytbnodhcgdgcebaa

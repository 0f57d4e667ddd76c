/-
  The track's flush.
-/
import Derived.Test.YtbnodhcgdgcebaaUI
namespace Go.Proofs.Ytbnodhcgdgcebaa
open Go.RowKit
set_option linter.unusedSimpArgs false
set_option linter.unusedVariables false
def Dtf4 : List (Option Tmp) := [some 15, some 16, some 17, some 18, some 19, some 20, some 21, some 22, some 23, some 24, some 25, some 26, some 27, some 28, some 29, some 30, some 31, some 32, some 33, some 34, some 35, some 36, some 37, none]
def Ltf4 : List (List Nat) := [[], [0], [1], [2], [], [], [5], [6], [7], [], [8, 9], [10], [], [12], [13], [14], [], [15, 16], [17], [18], [19], [11, 20], [3, 4], [22, 21]]
/-- the first i sectors have been flushed -/
def mixF (S : List (List (List UInt8))) (i : Nat) : List (List (List UInt8)) := (S.take i).map (fun s => [lastB s]) ++ S.drop i
theorem mixF_len (S : List (List (List UInt8))) (i : Nat) (h : i ≤ S.length) : (mixF S i).length = S.length := by
  simp [mixF]; omega
theorem mixF_get (S : List (List (List UInt8))) (i : Nat) (h : i < S.length) : (mixF S i)[i]? = some S[i] := by
  unfold mixF
  rw [List.getElem?_append_right (by simp; omega), List.getElem?_drop]
  simp only [List.length_map, List.length_take]
  rw [show i + (i - min i S.length) = i by omega]
  exact List.getElem?_eq_getElem h
theorem mixF_set (S : List (List (List UInt8))) (i : Nat) (h : i < S.length) : (mixF S i).set i [lastB S[i]] = mixF S (i + 1) := by
  unfold mixF
  have hl : ((S.take i).map fun s => [lastB s]).length = i := by simp; omega
  rw [List.set_append_right _ _ (by omega), hl, Nat.sub_self, List.drop_eq_getElem_cons h, List.set_cons_zero, List.take_succ_eq_append_getElem h, List.map_append, List.append_assoc]
  rfl
theorem mixF_ne (S : List (List (List UInt8))) (i : Nat) (h : ∀ s ∈ S, 0 < s.length) : ∀ s ∈ mixF S i, 0 < s.length := by
  intro s hs
  unfold mixF at hs
  rcases List.mem_append.1 hs with hs | hs
  · obtain ⟨s', _, rfl⟩ := List.mem_map.1 hs
    simp
  · exact h s (List.mem_of_mem_drop hs)
set_option maxRecDepth 100000 in
set_option maxHeartbeats 4000000 in
theorem tflush_lv {w0 w : World} {L0 : List Obj} {gt g : Nat} {S : List (List (List UInt8))} {d : DM} (h : Lv w0 w (trackO 55 [] gt S :: diskO g d :: L0)) (hne : ∀ s ∈ S, 0 < s.length) (hS0 : 0 < S.length) (hS1 : S.length ≤ 4096) (hon : d.on = true) :
    Calls Try.prog 26 #[.pointer (some ⟨gt, 0, none⟩), .pointer (some ⟨g, 0, none⟩)] w fun e w' => e = .returned (.bool true) ∧ Lv w0 w' (trackO 55 [] gt (S.map fun s => [lastB s]) :: diskO g d.flush :: L0) := by
  have HL0 := Lib.hid h
  have HON := Lib.hid hon
  have HNES := Lib.hid hne
  obtain ⟨SN, hSN⟩ : ∃ SN, S.length = SN := ⟨_, rfl⟩
  have HSN0 := Lib.hid hSN
  have hsn1 : 0 < SN := by omega
  have hsn2 : SN ≤ 4096 := by omega
  clear h hon hne hSN hS0 hS1
  go_enter Try.func26, Try.ntmps26
  go_upto_region 2 with fail
  -- CUT 1
  go_loopw [5] (fun t wr => ∃ i : Nat, i ≤ SN ∧ t = .int .i64 (i : Int) ∧ Lv w0 wr (trackO 55 [] gt (mixF S i) :: diskO g d :: L0)) (fun t _ => SN - (intOf t).toNat)
  case atStart => exact ⟨0, Nat.zero_le _, rfl, by simpa [mixF] using HL0.out⟩
  case round =>
    obtain ⟨i, hi, rfl, hL⟩ := hrel
    have HL := Lib.hid hL
    clear hL HL0
    rename World => q
    have HSN : Hid ((mixF S i).length = SN) := Lib.hid ((mixF_len S i (by rw [HSN0.out]; exact hi)).trans HSN0.out)
    by_cases hlt : i < SN
    · have hlt2 : (i : Int) < (SN : Int) := by omega
      have hw3 : IntKind.i64.wrap ((i : Int) + 1) = (i : Int) + 1 := i64_id _ (by omega) (by omega)
      have HKN : Hid (i < SN) := Lib.hid hlt
      have HKS : Hid (i < (mixF S i).length) := Lib.hid (by rw [HSN.out]; exact hlt)
      have HKO : Hid (i < S.length) := Lib.hid (by rw [HSN0.out]; exact hlt)
      obtain ⟨B, ⟨gso, vo, row, Bf, hT, hTB⟩, hblt, _, hset⟩ := HL.out.get (i := 0) rfl
      have hsp := mixF_ne S i HNES.out _ (List.getElem_mem HKS.out)
      obtain ⟨gs, so, co, ro, rc, rfl, rfl, f1, f2, f3, f4, f5, f6, f7, f8, f9⟩ := hT.look HKS.out hsp
      obtain ⟨sk, hsk⟩ : ∃ sk, sk = (mixF S i)[i]'HKS.out := ⟨_, rfl⟩
      clear f9
      rw [← hsk] at f2 f7 f8 hsp
      have HMX : Hid ((mixF S i).set i [lastB sk] = mixF S (i + 1)) := Lib.hid (by
        have e := mixF_get S i HKO.out
        rw [List.getElem?_eq_getElem HKS.out] at e
        rw [hsk, Option.some.inj e]
        exact mixF_set S i HKO.out)
      obtain ⟨rk, hrk⟩ : ∃ rk, row i = rk := ⟨_, rfl⟩
      obtain ⟨sl, hsl⟩ : ∃ sl, sk.length = sl := ⟨_, rfl⟩
      obtain ⟨ys, hys, hyj⟩ := f8
      rw [hrk, hsl] at f7
      rw [HSN.out] at f6 f1
      rw [hsl] at f2 hsp
      rw [hrk] at f5 hys
      rw [hsl] at hys
      obtain ⟨s1, hs1⟩ : ∃ s1, sl = s1 + 1 := ⟨sl - 1, by omega⟩
      have HWS : Hid (IntKind.i64.wrap ((sl : Int) - 1) = (s1 : Int)) := Lib.hid (by rw [i64_id _ (by omega) (by omega)]; omega)
      have HC1 : Hid (s1 ≤ sl ∧ ¬ rc = s1 ∧ sl ≤ rc ∧ sl = s1 + 1) := Lib.hid ⟨by omega, by omega, f2.1, hs1⟩
      have HT := Lib.hid hT
      have HTB := Lib.hid hTB
      have HSET := Lib.hid hset
      have HRR := Lib.hid hrk
      have HSL8 := Lib.hid hsl
      have HYS := Lib.hid hys
      have HYJ := Lib.hid hyj
      have HCO := Lib.hid f1
      have HGT := Lib.hid f3
      have HGSQ := Lib.hid f4
      have HRKQ := Lib.hid f5
      have CV := Lib.hid f6
      have CK := Lib.hid f7
      have cV0 := f6
      have HNE : Hid (¬ gt = rk ∧ ¬ gs = rk) := Lib.hid ⟨fun e => (hT.ap2 i HKS.out).1 (hrk.trans e.symm), fun e => (hT.ap2 i HKS.out).2 (by rw [e, hrk])⟩
      have FK : Hid (q.frozen? ⟨gs, so + i, none⟩ = false) := Lib.hid (by obtain ⟨xs, hx, _⟩ := hT.outer; exact hx.frozen _)
      clear hT hTB hblt hset hsp f1 f2 f3 f4 f5 f6 f7 hsk hrk hsl hys hyj hs1
      go_upto_region 4 with fail
      -- CUT 2
      clear cV0
      refine Roll.region_v 22 41 Dtf4 Ltf4 [(0, .pointer (some ⟨gt, 0, none⟩)), (5, .int .i64 (i : Int))] 21 [true, true, true, true, true, true, true, true, true, true, true, true, true, true, true, true, true, true, true, true, true, false] (fun p => Below q.heap.size q p) (fun vv p => Below q.heap.size q p) (fun p => Below q.heap.size q p) (Kept (fun _ => False)) [fun vv p => (vv 0) = .pointer (some ⟨gt, 0, none⟩), fun vv p => (vv 1) = .pointer (some ⟨gt, 0, none⟩), fun vv p => (vv 2) = .pointer (some ⟨gt, 0, none⟩), fun vv p => (vv 3) = .slice (some ⟨gs, so, none⟩) SN co, fun vv p => (vv 4) = .int .i64 (i : Int), fun vv p => (vv 5) = .pointer (some ⟨gt, 0, none⟩), fun vv p => (vv 6) = .pointer (some ⟨gt, 0, none⟩), fun vv p => (vv 7) = .pointer (some ⟨gt, 0, none⟩), fun vv p => (vv 8) = .slice (some ⟨gs, so, none⟩) SN co, fun vv p => (vv 9) = .int .i64 (i : Int), fun vv p => (vv 10) = .pointer (some ⟨gs, so + i, none⟩), fun vv p => (vv 11) = .slice (some ⟨rk, ro, none⟩) sl rc, fun vv p => (vv 12) = .pointer (some ⟨gt, 0, none⟩), fun vv p => (vv 13) = .pointer (some ⟨gt, 0, none⟩), fun vv p => (vv 14) = .pointer (some ⟨gt, 0, none⟩), fun vv p => (vv 15) = .slice (some ⟨gs, so, none⟩) SN co, fun vv p => (vv 16) = .int .i64 (i : Int), fun vv p => (vv 17) = .pointer (some ⟨gs, so + i, none⟩), fun vv p => (vv 18) = .slice (some ⟨rk, ro, none⟩) sl rc, fun vv p => (vv 19) = .int .i64 (sl : Int), fun vv p => (vv 20) = .int .i64 (s1 : Int), fun vv p => (vv 21) = .slice (some ⟨rk, ro + s1, none⟩) (sl - s1) (rc - s1)] (by kernel_rfl) (by kernel_rfl) rfl ⟨rfl, rfl, trivial⟩ ((Below.refl _ _).drew) (by decide) (by kernel_rfl) (fun _ h => h) (fun _ _ h => h) (fun _ => Kept.refl _ _) ?_ ?_ ?_
      · exact ⟨fun _ _ _ _ h => h, fun _ _ _ _ h => h, fun _ _ _ _ h => h, fun _ _ _ _ h => h, fun _ _ _ _ h => h, fun _ _ _ _ h => h, fun _ _ _ _ h => h, fun _ _ _ _ h => h, fun _ _ _ _ h => h, fun _ _ _ _ h => h, fun _ _ _ _ h => h, fun _ _ _ _ h => h, fun _ _ _ _ h => h, fun _ _ _ _ h => h, fun _ _ _ _ h => h, fun _ _ _ _ h => h, fun _ _ _ _ h => h, fun _ _ _ _ h => h, fun _ _ _ _ h => h, fun _ _ _ _ h => h, fun _ _ _ _ h => h, fun _ _ _ _ h => h, trivial⟩
      · intro b0 hN hlv
        refine ⟨?_, ?_, ?_, ?_, ?_, ?_, ?_, ?_, ?_, ?_, ?_, ?_, ?_, ?_, ?_, ?_, ?_, ?_, ?_, ?_, ?_, ?_, trivial⟩
        · intro vs p hI0 hp
          have hI := Roll.inw_pure (by decide) rfl hI0
          clear hI0
          have e0 : (Roll.putD Dtf4 vs [] b0).eval (.tmp 0) = .pointer (some ⟨gt, 0, none⟩) := (Roll.eval_old rfl).trans (hlv.at 0 (0, .pointer (some ⟨gt, 0, none⟩)) rfl)
          clear hp hlv hN
          unfold Roll.Goes
          simp only [Ltf4, List.getD_cons_zero, List.getD_cons_succ]
          generalize Roll.putD Dtf4 vs [] b0 = a1 at *
          refine Roll.goes_val (w' := p) (.pointer (some ⟨gt, 0, none⟩)) rfl ?_ ⟨(Roll.outw_pure (by decide) rfl), rfl⟩
          (have ec : ∀ x, a1.eval (.const x) = x := fun _ => rfl); (have ef : ∀ x, a1.eval (.func x) = .func (.func x) #[] #[] := fun _ => rfl); generalize a1.eval = ρ at *
          skip
          go_simp <;> (intros; first | (exfalso; omega) | rfl)
        · intro vs p hI0 hp
          have hI := Roll.inw_pure (by decide) rfl hI0
          clear hI0
          have h0 : (vs 0) = .pointer (some ⟨gt, 0, none⟩) := hp 0 (by simp [Ltf4])
          have e15 : (Roll.putD Dtf4 vs [0] b0).eval (.tmp 15) = .pointer (some ⟨gt, 0, none⟩) := (Roll.eval_new 0 rfl (by decide) (by decide) (by omega)).trans h0
          clear hp hlv hN
          unfold Roll.Goes
          simp only [Ltf4, List.getD_cons_zero, List.getD_cons_succ]
          generalize Roll.putD Dtf4 vs [0] b0 = a1 at *
          refine Roll.goes_val (w' := p) (.pointer (some ⟨gt, 0, none⟩)) rfl ?_ ⟨(Roll.outw_pure (by decide) rfl), rfl⟩
          (have ec : ∀ x, a1.eval (.const x) = x := fun _ => rfl); (have ef : ∀ x, a1.eval (.func x) = .func (.func x) #[] #[] := fun _ => rfl); generalize a1.eval = ρ at *
          clear h0
          go_simp <;> (intros; first | (exfalso; omega) | rfl)
        · intro vs p hI0 hp
          have hI := Roll.inw_pure (by decide) rfl hI0
          clear hI0
          have h1 : (vs 1) = .pointer (some ⟨gt, 0, none⟩) := hp 1 (by simp [Ltf4])
          have e16 : (Roll.putD Dtf4 vs [1] b0).eval (.tmp 16) = .pointer (some ⟨gt, 0, none⟩) := (Roll.eval_new 1 rfl (by decide) (by decide) (by omega)).trans h1
          clear hp hlv hN
          unfold Roll.Goes
          simp only [Ltf4, List.getD_cons_zero, List.getD_cons_succ]
          generalize Roll.putD Dtf4 vs [1] b0 = a1 at *
          refine Roll.goes_val (w' := p) (.pointer (some ⟨gt, 0, none⟩)) rfl ?_ ⟨(Roll.outw_pure (by decide) rfl), rfl⟩
          (have ec : ∀ x, a1.eval (.const x) = x := fun _ => rfl); (have ef : ∀ x, a1.eval (.func x) = .func (.func x) #[] #[] := fun _ => rfl); generalize a1.eval = ρ at *
          clear h1
          go_simp <;> (intros; first | (exfalso; omega) | rfl)
        · intro vs p hI0 hp
          have hI := Roll.inw_pure (by decide) rfl hI0
          clear hI0
          have h2 : (vs 2) = .pointer (some ⟨gt, 0, none⟩) := hp 2 (by simp [Ltf4])
          have e17 : (Roll.putD Dtf4 vs [2] b0).eval (.tmp 17) = .pointer (some ⟨gt, 0, none⟩) := (Roll.eval_new 2 rfl (by decide) (by decide) (by omega)).trans h2
          clear hp hlv hN
          unfold Roll.Goes
          simp only [Ltf4, List.getD_cons_zero, List.getD_cons_succ]
          generalize Roll.putD Dtf4 vs [2] b0 = a1 at *
          have cf : p.cell? ⟨gt, 0, none⟩ = some (.slice (some ⟨gs, so, none⟩) SN co) := (hI.cell (p := ⟨gt, 0, none⟩) HGT.out).trans CV.out
          refine Roll.goes_val (w' := p) (.slice (some ⟨gs, so, none⟩) SN co) rfl ?_ ⟨(Roll.outw_pure (by decide) rfl), rfl⟩
          (have ec : ∀ x, a1.eval (.const x) = x := fun _ => rfl); (have ef : ∀ x, a1.eval (.func x) = .func (.func x) #[] #[] := fun _ => rfl); generalize a1.eval = ρ at *
          clear h2
          go_simp <;> (intros; first | (exfalso; omega) | rfl)
        · intro vs p hI0 hp
          have hI := Roll.inw_pure (by decide) rfl hI0
          clear hI0
          have e5 : (Roll.putD Dtf4 vs [] b0).eval (.tmp 5) = .int .i64 (i : Int) := (Roll.eval_old rfl).trans (hlv.at 1 (5, .int .i64 (i : Int)) rfl)
          clear hp hlv hN
          unfold Roll.Goes
          simp only [Ltf4, List.getD_cons_zero, List.getD_cons_succ]
          generalize Roll.putD Dtf4 vs [] b0 = a1 at *
          refine Roll.goes_val (w' := p) (.int .i64 (i : Int)) rfl ?_ ⟨(Roll.outw_pure (by decide) rfl), rfl⟩
          (have ec : ∀ x, a1.eval (.const x) = x := fun _ => rfl); (have ef : ∀ x, a1.eval (.func x) = .func (.func x) #[] #[] := fun _ => rfl); generalize a1.eval = ρ at *
          skip
          go_simp <;> (intros; first | (exfalso; omega) | rfl)
        · intro vs p hI0 hp
          have hI := Roll.inw_pure (by decide) rfl hI0
          clear hI0
          have e0 : (Roll.putD Dtf4 vs [] b0).eval (.tmp 0) = .pointer (some ⟨gt, 0, none⟩) := (Roll.eval_old rfl).trans (hlv.at 0 (0, .pointer (some ⟨gt, 0, none⟩)) rfl)
          clear hp hlv hN
          unfold Roll.Goes
          simp only [Ltf4, List.getD_cons_zero, List.getD_cons_succ]
          generalize Roll.putD Dtf4 vs [] b0 = a1 at *
          refine Roll.goes_val (w' := p) (.pointer (some ⟨gt, 0, none⟩)) rfl ?_ ⟨(Roll.outw_pure (by decide) rfl), rfl⟩
          (have ec : ∀ x, a1.eval (.const x) = x := fun _ => rfl); (have ef : ∀ x, a1.eval (.func x) = .func (.func x) #[] #[] := fun _ => rfl); generalize a1.eval = ρ at *
          skip
          go_simp <;> (intros; first | (exfalso; omega) | rfl)
        · intro vs p hI0 hp
          have hI := Roll.inw_pure (by decide) rfl hI0
          clear hI0
          have h5 : (vs 5) = .pointer (some ⟨gt, 0, none⟩) := hp 5 (by simp [Ltf4])
          have e20 : (Roll.putD Dtf4 vs [5] b0).eval (.tmp 20) = .pointer (some ⟨gt, 0, none⟩) := (Roll.eval_new 5 rfl (by decide) (by decide) (by omega)).trans h5
          clear hp hlv hN
          unfold Roll.Goes
          simp only [Ltf4, List.getD_cons_zero, List.getD_cons_succ]
          generalize Roll.putD Dtf4 vs [5] b0 = a1 at *
          refine Roll.goes_val (w' := p) (.pointer (some ⟨gt, 0, none⟩)) rfl ?_ ⟨(Roll.outw_pure (by decide) rfl), rfl⟩
          (have ec : ∀ x, a1.eval (.const x) = x := fun _ => rfl); (have ef : ∀ x, a1.eval (.func x) = .func (.func x) #[] #[] := fun _ => rfl); generalize a1.eval = ρ at *
          clear h5
          go_simp <;> (intros; first | (exfalso; omega) | rfl)
        · intro vs p hI0 hp
          have hI := Roll.inw_pure (by decide) rfl hI0
          clear hI0
          have h6 : (vs 6) = .pointer (some ⟨gt, 0, none⟩) := hp 6 (by simp [Ltf4])
          have e21 : (Roll.putD Dtf4 vs [6] b0).eval (.tmp 21) = .pointer (some ⟨gt, 0, none⟩) := (Roll.eval_new 6 rfl (by decide) (by decide) (by omega)).trans h6
          clear hp hlv hN
          unfold Roll.Goes
          simp only [Ltf4, List.getD_cons_zero, List.getD_cons_succ]
          generalize Roll.putD Dtf4 vs [6] b0 = a1 at *
          refine Roll.goes_val (w' := p) (.pointer (some ⟨gt, 0, none⟩)) rfl ?_ ⟨(Roll.outw_pure (by decide) rfl), rfl⟩
          (have ec : ∀ x, a1.eval (.const x) = x := fun _ => rfl); (have ef : ∀ x, a1.eval (.func x) = .func (.func x) #[] #[] := fun _ => rfl); generalize a1.eval = ρ at *
          clear h6
          go_simp <;> (intros; first | (exfalso; omega) | rfl)
        · intro vs p hI0 hp
          have hI := Roll.inw_pure (by decide) rfl hI0
          clear hI0
          have h7 : (vs 7) = .pointer (some ⟨gt, 0, none⟩) := hp 7 (by simp [Ltf4])
          have e22 : (Roll.putD Dtf4 vs [7] b0).eval (.tmp 22) = .pointer (some ⟨gt, 0, none⟩) := (Roll.eval_new 7 rfl (by decide) (by decide) (by omega)).trans h7
          clear hp hlv hN
          unfold Roll.Goes
          simp only [Ltf4, List.getD_cons_zero, List.getD_cons_succ]
          generalize Roll.putD Dtf4 vs [7] b0 = a1 at *
          have cf : p.cell? ⟨gt, 0, none⟩ = some (.slice (some ⟨gs, so, none⟩) SN co) := (hI.cell (p := ⟨gt, 0, none⟩) HGT.out).trans CV.out
          refine Roll.goes_val (w' := p) (.slice (some ⟨gs, so, none⟩) SN co) rfl ?_ ⟨(Roll.outw_pure (by decide) rfl), rfl⟩
          (have ec : ∀ x, a1.eval (.const x) = x := fun _ => rfl); (have ef : ∀ x, a1.eval (.func x) = .func (.func x) #[] #[] := fun _ => rfl); generalize a1.eval = ρ at *
          clear h7
          go_simp <;> (intros; first | (exfalso; omega) | rfl)
        · intro vs p hI0 hp
          have hI := Roll.inw_pure (by decide) rfl hI0
          clear hI0
          have e5 : (Roll.putD Dtf4 vs [] b0).eval (.tmp 5) = .int .i64 (i : Int) := (Roll.eval_old rfl).trans (hlv.at 1 (5, .int .i64 (i : Int)) rfl)
          clear hp hlv hN
          unfold Roll.Goes
          simp only [Ltf4, List.getD_cons_zero, List.getD_cons_succ]
          generalize Roll.putD Dtf4 vs [] b0 = a1 at *
          refine Roll.goes_val (w' := p) (.int .i64 (i : Int)) rfl ?_ ⟨(Roll.outw_pure (by decide) rfl), rfl⟩
          (have ec : ∀ x, a1.eval (.const x) = x := fun _ => rfl); (have ef : ∀ x, a1.eval (.func x) = .func (.func x) #[] #[] := fun _ => rfl); generalize a1.eval = ρ at *
          skip
          go_simp <;> (intros; first | (exfalso; omega) | rfl)
        · intro vs p hI0 hp
          have hI := Roll.inw_pure (by decide) rfl hI0
          clear hI0
          have h8 : (vs 8) = .slice (some ⟨gs, so, none⟩) SN co := hp 8 (by simp [Ltf4])
          have h9 : (vs 9) = .int .i64 (i : Int) := hp 9 (by simp [Ltf4])
          have e23 : (Roll.putD Dtf4 vs [8, 9] b0).eval (.tmp 23) = .slice (some ⟨gs, so, none⟩) SN co := (Roll.eval_new 8 rfl (by decide) (by decide) (by omega)).trans h8
          have e24 : (Roll.putD Dtf4 vs [8, 9] b0).eval (.tmp 24) = .int .i64 (i : Int) := (Roll.eval_new 9 rfl (by decide) (by decide) (by omega)).trans h9
          clear hp hlv hN
          unfold Roll.Goes
          simp only [Ltf4, List.getD_cons_zero, List.getD_cons_succ]
          generalize Roll.putD Dtf4 vs [8, 9] b0 = a1 at *
          have hkn := HKN.out
          have hkn2 : (i : Int) < (SN : Int) := by omega
          have hco := HCO.out
          refine Roll.goes_val (w' := p) (.pointer (some ⟨gs, so + i, none⟩)) rfl ?_ ⟨(Roll.outw_pure (by decide) rfl), rfl⟩
          (have ec : ∀ x, a1.eval (.const x) = x := fun _ => rfl); (have ef : ∀ x, a1.eval (.func x) = .func (.func x) #[] #[] := fun _ => rfl); generalize a1.eval = ρ at *
          clear h8 h9
          go_simp <;> (intros; first | (exfalso; omega) | rfl)
        · intro vs p hI0 hp
          have hI := Roll.inw_pure (by decide) rfl hI0
          clear hI0
          have h10 : (vs 10) = .pointer (some ⟨gs, so + i, none⟩) := hp 10 (by simp [Ltf4])
          have e25 : (Roll.putD Dtf4 vs [10] b0).eval (.tmp 25) = .pointer (some ⟨gs, so + i, none⟩) := (Roll.eval_new 10 rfl (by decide) (by decide) (by omega)).trans h10
          clear hp hlv hN
          unfold Roll.Goes
          simp only [Ltf4, List.getD_cons_zero, List.getD_cons_succ]
          generalize Roll.putD Dtf4 vs [10] b0 = a1 at *
          have cf : p.cell? ⟨gs, so + i, none⟩ = some (.slice (some ⟨rk, ro, none⟩) sl rc) := (hI.cell (p := ⟨gs, so + i, none⟩) HGSQ.out).trans CK.out
          refine Roll.goes_val (w' := p) (.slice (some ⟨rk, ro, none⟩) sl rc) rfl ?_ ⟨(Roll.outw_pure (by decide) rfl), rfl⟩
          (have ec : ∀ x, a1.eval (.const x) = x := fun _ => rfl); (have ef : ∀ x, a1.eval (.func x) = .func (.func x) #[] #[] := fun _ => rfl); generalize a1.eval = ρ at *
          clear h10
          go_simp <;> (intros; first | (exfalso; omega) | rfl)
        · intro vs p hI0 hp
          have hI := Roll.inw_pure (by decide) rfl hI0
          clear hI0
          have e0 : (Roll.putD Dtf4 vs [] b0).eval (.tmp 0) = .pointer (some ⟨gt, 0, none⟩) := (Roll.eval_old rfl).trans (hlv.at 0 (0, .pointer (some ⟨gt, 0, none⟩)) rfl)
          clear hp hlv hN
          unfold Roll.Goes
          simp only [Ltf4, List.getD_cons_zero, List.getD_cons_succ]
          generalize Roll.putD Dtf4 vs [] b0 = a1 at *
          refine Roll.goes_val (w' := p) (.pointer (some ⟨gt, 0, none⟩)) rfl ?_ ⟨(Roll.outw_pure (by decide) rfl), rfl⟩
          (have ec : ∀ x, a1.eval (.const x) = x := fun _ => rfl); (have ef : ∀ x, a1.eval (.func x) = .func (.func x) #[] #[] := fun _ => rfl); generalize a1.eval = ρ at *
          skip
          go_simp <;> (intros; first | (exfalso; omega) | rfl)
        · intro vs p hI0 hp
          have hI := Roll.inw_pure (by decide) rfl hI0
          clear hI0
          have h12 : (vs 12) = .pointer (some ⟨gt, 0, none⟩) := hp 12 (by simp [Ltf4])
          have e27 : (Roll.putD Dtf4 vs [12] b0).eval (.tmp 27) = .pointer (some ⟨gt, 0, none⟩) := (Roll.eval_new 12 rfl (by decide) (by decide) (by omega)).trans h12
          clear hp hlv hN
          unfold Roll.Goes
          simp only [Ltf4, List.getD_cons_zero, List.getD_cons_succ]
          generalize Roll.putD Dtf4 vs [12] b0 = a1 at *
          refine Roll.goes_val (w' := p) (.pointer (some ⟨gt, 0, none⟩)) rfl ?_ ⟨(Roll.outw_pure (by decide) rfl), rfl⟩
          (have ec : ∀ x, a1.eval (.const x) = x := fun _ => rfl); (have ef : ∀ x, a1.eval (.func x) = .func (.func x) #[] #[] := fun _ => rfl); generalize a1.eval = ρ at *
          clear h12
          go_simp <;> (intros; first | (exfalso; omega) | rfl)
        · intro vs p hI0 hp
          have hI := Roll.inw_pure (by decide) rfl hI0
          clear hI0
          have h13 : (vs 13) = .pointer (some ⟨gt, 0, none⟩) := hp 13 (by simp [Ltf4])
          have e28 : (Roll.putD Dtf4 vs [13] b0).eval (.tmp 28) = .pointer (some ⟨gt, 0, none⟩) := (Roll.eval_new 13 rfl (by decide) (by decide) (by omega)).trans h13
          clear hp hlv hN
          unfold Roll.Goes
          simp only [Ltf4, List.getD_cons_zero, List.getD_cons_succ]
          generalize Roll.putD Dtf4 vs [13] b0 = a1 at *
          refine Roll.goes_val (w' := p) (.pointer (some ⟨gt, 0, none⟩)) rfl ?_ ⟨(Roll.outw_pure (by decide) rfl), rfl⟩
          (have ec : ∀ x, a1.eval (.const x) = x := fun _ => rfl); (have ef : ∀ x, a1.eval (.func x) = .func (.func x) #[] #[] := fun _ => rfl); generalize a1.eval = ρ at *
          clear h13
          go_simp <;> (intros; first | (exfalso; omega) | rfl)
        · intro vs p hI0 hp
          have hI := Roll.inw_pure (by decide) rfl hI0
          clear hI0
          have h14 : (vs 14) = .pointer (some ⟨gt, 0, none⟩) := hp 14 (by simp [Ltf4])
          have e29 : (Roll.putD Dtf4 vs [14] b0).eval (.tmp 29) = .pointer (some ⟨gt, 0, none⟩) := (Roll.eval_new 14 rfl (by decide) (by decide) (by omega)).trans h14
          clear hp hlv hN
          unfold Roll.Goes
          simp only [Ltf4, List.getD_cons_zero, List.getD_cons_succ]
          generalize Roll.putD Dtf4 vs [14] b0 = a1 at *
          have cf : p.cell? ⟨gt, 0, none⟩ = some (.slice (some ⟨gs, so, none⟩) SN co) := (hI.cell (p := ⟨gt, 0, none⟩) HGT.out).trans CV.out
          refine Roll.goes_val (w' := p) (.slice (some ⟨gs, so, none⟩) SN co) rfl ?_ ⟨(Roll.outw_pure (by decide) rfl), rfl⟩
          (have ec : ∀ x, a1.eval (.const x) = x := fun _ => rfl); (have ef : ∀ x, a1.eval (.func x) = .func (.func x) #[] #[] := fun _ => rfl); generalize a1.eval = ρ at *
          clear h14
          go_simp <;> (intros; first | (exfalso; omega) | rfl)
        · intro vs p hI0 hp
          have hI := Roll.inw_pure (by decide) rfl hI0
          clear hI0
          have e5 : (Roll.putD Dtf4 vs [] b0).eval (.tmp 5) = .int .i64 (i : Int) := (Roll.eval_old rfl).trans (hlv.at 1 (5, .int .i64 (i : Int)) rfl)
          clear hp hlv hN
          unfold Roll.Goes
          simp only [Ltf4, List.getD_cons_zero, List.getD_cons_succ]
          generalize Roll.putD Dtf4 vs [] b0 = a1 at *
          refine Roll.goes_val (w' := p) (.int .i64 (i : Int)) rfl ?_ ⟨(Roll.outw_pure (by decide) rfl), rfl⟩
          (have ec : ∀ x, a1.eval (.const x) = x := fun _ => rfl); (have ef : ∀ x, a1.eval (.func x) = .func (.func x) #[] #[] := fun _ => rfl); generalize a1.eval = ρ at *
          skip
          go_simp <;> (intros; first | (exfalso; omega) | rfl)
        · intro vs p hI0 hp
          have hI := Roll.inw_pure (by decide) rfl hI0
          clear hI0
          have h15 : (vs 15) = .slice (some ⟨gs, so, none⟩) SN co := hp 15 (by simp [Ltf4])
          have h16 : (vs 16) = .int .i64 (i : Int) := hp 16 (by simp [Ltf4])
          have e30 : (Roll.putD Dtf4 vs [15, 16] b0).eval (.tmp 30) = .slice (some ⟨gs, so, none⟩) SN co := (Roll.eval_new 15 rfl (by decide) (by decide) (by omega)).trans h15
          have e31 : (Roll.putD Dtf4 vs [15, 16] b0).eval (.tmp 31) = .int .i64 (i : Int) := (Roll.eval_new 16 rfl (by decide) (by decide) (by omega)).trans h16
          clear hp hlv hN
          unfold Roll.Goes
          simp only [Ltf4, List.getD_cons_zero, List.getD_cons_succ]
          generalize Roll.putD Dtf4 vs [15, 16] b0 = a1 at *
          have hkn := HKN.out
          have hkn2 : (i : Int) < (SN : Int) := by omega
          have hco := HCO.out
          refine Roll.goes_val (w' := p) (.pointer (some ⟨gs, so + i, none⟩)) rfl ?_ ⟨(Roll.outw_pure (by decide) rfl), rfl⟩
          (have ec : ∀ x, a1.eval (.const x) = x := fun _ => rfl); (have ef : ∀ x, a1.eval (.func x) = .func (.func x) #[] #[] := fun _ => rfl); generalize a1.eval = ρ at *
          clear h15 h16
          go_simp <;> (intros; first | (exfalso; omega) | rfl)
        · intro vs p hI0 hp
          have hI := Roll.inw_pure (by decide) rfl hI0
          clear hI0
          have h17 : (vs 17) = .pointer (some ⟨gs, so + i, none⟩) := hp 17 (by simp [Ltf4])
          have e32 : (Roll.putD Dtf4 vs [17] b0).eval (.tmp 32) = .pointer (some ⟨gs, so + i, none⟩) := (Roll.eval_new 17 rfl (by decide) (by decide) (by omega)).trans h17
          clear hp hlv hN
          unfold Roll.Goes
          simp only [Ltf4, List.getD_cons_zero, List.getD_cons_succ]
          generalize Roll.putD Dtf4 vs [17] b0 = a1 at *
          have cf : p.cell? ⟨gs, so + i, none⟩ = some (.slice (some ⟨rk, ro, none⟩) sl rc) := (hI.cell (p := ⟨gs, so + i, none⟩) HGSQ.out).trans CK.out
          refine Roll.goes_val (w' := p) (.slice (some ⟨rk, ro, none⟩) sl rc) rfl ?_ ⟨(Roll.outw_pure (by decide) rfl), rfl⟩
          (have ec : ∀ x, a1.eval (.const x) = x := fun _ => rfl); (have ef : ∀ x, a1.eval (.func x) = .func (.func x) #[] #[] := fun _ => rfl); generalize a1.eval = ρ at *
          clear h17
          go_simp <;> (intros; first | (exfalso; omega) | rfl)
        · intro vs p hI0 hp
          have hI := Roll.inw_pure (by decide) rfl hI0
          clear hI0
          have h18 : (vs 18) = .slice (some ⟨rk, ro, none⟩) sl rc := hp 18 (by simp [Ltf4])
          have e33 : (Roll.putD Dtf4 vs [18] b0).eval (.tmp 33) = .slice (some ⟨rk, ro, none⟩) sl rc := (Roll.eval_new 18 rfl (by decide) (by decide) (by omega)).trans h18
          clear hp hlv hN
          unfold Roll.Goes
          simp only [Ltf4, List.getD_cons_zero, List.getD_cons_succ]
          generalize Roll.putD Dtf4 vs [18] b0 = a1 at *
          refine Roll.goes_val (w' := p) (.int .i64 (sl : Int)) rfl ?_ ⟨(Roll.outw_pure (by decide) rfl), rfl⟩
          (have ec : ∀ x, a1.eval (.const x) = x := fun _ => rfl); (have ef : ∀ x, a1.eval (.func x) = .func (.func x) #[] #[] := fun _ => rfl); generalize a1.eval = ρ at *
          clear h18
          go_simp <;> (intros; first | (exfalso; omega) | rfl)
        · intro vs p hI0 hp
          have hI := Roll.inw_pure (by decide) rfl hI0
          clear hI0
          have h19 : (vs 19) = .int .i64 (sl : Int) := hp 19 (by simp [Ltf4])
          have e34 : (Roll.putD Dtf4 vs [19] b0).eval (.tmp 34) = .int .i64 (sl : Int) := (Roll.eval_new 19 rfl (by decide) (by decide) (by omega)).trans h19
          clear hp hlv hN
          unfold Roll.Goes
          simp only [Ltf4, List.getD_cons_zero, List.getD_cons_succ]
          generalize Roll.putD Dtf4 vs [19] b0 = a1 at *
          have hws := HWS.out
          refine Roll.goes_val (w' := p) (.int .i64 (s1 : Int)) rfl ?_ ⟨(Roll.outw_pure (by decide) rfl), rfl⟩
          (have ec : ∀ x, a1.eval (.const x) = x := fun _ => rfl); (have ef : ∀ x, a1.eval (.func x) = .func (.func x) #[] #[] := fun _ => rfl); generalize a1.eval = ρ at *
          clear h19
          go_simp <;> (intros; first | (exfalso; omega) | rfl)
        · intro vs p hI0 hp
          have hI := Roll.inw_k0 rfl hI0
          clear hI0
          have h11 : (vs 11) = .slice (some ⟨rk, ro, none⟩) sl rc := hp 11 (by simp [Ltf4])
          have h20 : (vs 20) = .int .i64 (s1 : Int) := hp 20 (by simp [Ltf4])
          have e26 : (Roll.putD Dtf4 vs [11, 20] b0).eval (.tmp 26) = .slice (some ⟨rk, ro, none⟩) sl rc := (Roll.eval_new 11 rfl (by decide) (by decide) (by omega)).trans h11
          have e35 : (Roll.putD Dtf4 vs [11, 20] b0).eval (.tmp 35) = .int .i64 (s1 : Int) := (Roll.eval_new 20 rfl (by decide) (by decide) (by omega)).trans h20
          clear hp hlv hN
          unfold Roll.Goes
          simp only [Ltf4, List.getD_cons_zero, List.getD_cons_succ]
          generalize Roll.putD Dtf4 vs [11, 20] b0 = a1 at *
          refine Roll.goes_val (w' := p) (.slice (some ⟨rk, ro + s1, none⟩) (sl - s1) (rc - s1)) rfl (by have ec : ∀ x, a1.eval (.const x) = x := fun _ => rfl; have ef : ∀ x, a1.eval (.func x) = .func (.func x) #[] #[] := fun _ => rfl; have k1 := HC1.out.1; have k2 := HC1.out.2.1; have k3 := HC1.out.2.2.1; have k4 := HC1.out.2.2.2; generalize a1.eval = ρ at *; go_simp <;> (intros; first | (exfalso; omega) | rfl)) ⟨Roll.outw_k0 rfl hI (Kept.refl _ _), rfl⟩
      · intro vs p hI hR
        have h0 : (vs 0) = .pointer (some ⟨gt, 0, none⟩) := hR 0 (by omega)
        have h1 : (vs 1) = .pointer (some ⟨gt, 0, none⟩) := hR 1 (by omega)
        have h2 : (vs 2) = .pointer (some ⟨gt, 0, none⟩) := hR 2 (by omega)
        have h3 : (vs 3) = .slice (some ⟨gs, so, none⟩) SN co := hR 3 (by omega)
        have h4 : (vs 4) = .int .i64 (i : Int) := hR 4 (by omega)
        have h5 : (vs 5) = .pointer (some ⟨gt, 0, none⟩) := hR 5 (by omega)
        have h6 : (vs 6) = .pointer (some ⟨gt, 0, none⟩) := hR 6 (by omega)
        have h7 : (vs 7) = .pointer (some ⟨gt, 0, none⟩) := hR 7 (by omega)
        have h8 : (vs 8) = .slice (some ⟨gs, so, none⟩) SN co := hR 8 (by omega)
        have h9 : (vs 9) = .int .i64 (i : Int) := hR 9 (by omega)
        have h10 : (vs 10) = .pointer (some ⟨gs, so + i, none⟩) := hR 10 (by omega)
        have h11 : (vs 11) = .slice (some ⟨rk, ro, none⟩) sl rc := hR 11 (by omega)
        have h12 : (vs 12) = .pointer (some ⟨gt, 0, none⟩) := hR 12 (by omega)
        have h13 : (vs 13) = .pointer (some ⟨gt, 0, none⟩) := hR 13 (by omega)
        have h14 : (vs 14) = .pointer (some ⟨gt, 0, none⟩) := hR 14 (by omega)
        have h15 : (vs 15) = .slice (some ⟨gs, so, none⟩) SN co := hR 15 (by omega)
        have h16 : (vs 16) = .int .i64 (i : Int) := hR 16 (by omega)
        have h17 : (vs 17) = .pointer (some ⟨gs, so + i, none⟩) := hR 17 (by omega)
        have h18 : (vs 18) = .slice (some ⟨rk, ro, none⟩) sl rc := hR 18 (by omega)
        have h19 : (vs 19) = .int .i64 (sl : Int) := hR 19 (by omega)
        have h20 : (vs 20) = .int .i64 (s1 : Int) := hR 20 (by omega)
        have h21 : (vs 21) = .slice (some ⟨rk, ro + s1, none⟩) (sl - s1) (rc - s1) := hR 21 (by omega)
        clear hR
        simp only [List.range_succ, List.range_zero, List.nil_append, List.cons_append, Roll.putD, Act.put, List.getD_cons_zero, List.getD_cons_succ, List.setIfInBounds_toArray, List.set_cons_zero, List.set_cons_succ, List.drop_succ_cons, List.drop_zero, Dtf4]
        simp only [h0, h1, h2, h3, h4, h5, h6, h7, h8, h9, h10, h11, h12, h13, h14, h15, h16, h17, h18, h19, h20, h21]
        clear h0 h1 h2 h3 h4 h5 h6 h7 h8 h9 h10 h11 h12 h13 h14 h15 h16 h17 h18 h19 h20 h21
        have HUQ := Lib.hid hI
        clear hI
        have cV2 : p.cell? ⟨gs, so + i, none⟩ = some (.slice (some ⟨rk, ro, none⟩) sl rc) := (HUQ.out.cell (p := ⟨gs, so + i, none⟩) HGSQ.out).trans CK.out
        have fV2 : p.frozen? ⟨gs, so + i, none⟩ = false := ((Kept.of_below (fun _ => False) HUQ.out).frozen (p := ⟨gs, so + i, none⟩) HGSQ.out (fun h => h)).trans FK.out
        have cV : p.cell? ⟨gt, 0, none⟩ = some (.slice (some ⟨gs, so, none⟩) SN co) := (HUQ.out.cell (p := ⟨gt, 0, none⟩) HGT.out).trans CV.out
        have HP : Hid (Lv w0 (p.setCell ⟨gs, so + i, none⟩ (.slice (some ⟨rk, ro + s1, none⟩) (sl - s1) (rc - s1))) (trackO 55 [] gt (mixF S (i + 1)) :: diskO g d :: L0)) := Lib.hid (by
          have hT := HT.out
          have hUQ := HUQ.out
          have hgs8 : ¬ gs = rk := HNE.out.2
          have hks : Kept (fun j => j = gs) p (p.setCell ⟨gs, so + i, none⟩ (.slice (some ⟨rk, ro + s1, none⟩) (sl - s1) (rc - s1))) := (Kept.refl (fun j => j = gs) p).setCell (fun _ => rfl) _
          have hkq : Kept (fun j => j = gs) q (p.setCell ⟨gs, so + i, none⟩ (.slice (some ⟨rk, ro + s1, none⟩) (sl - s1) (rc - s1))) := (Kept.of_below _ hUQ).trans hks (fun _ _ h => h)
          obtain ⟨k1, k2, k3, k4⟩ := HC1.out
          have hs1 : s1 < sk.length := by rw [HSL8.out]; omega
          have hlast : sk[s1] = lastB sk := by
            have e : s1 = sk.length - 1 := by rw [HSL8.out]; omega
            unfold lastB
            rw [List.getLastD_eq_getLast?, List.getLast?_eq_getElem?, ← e, List.getElem?_eq_getElem hs1]
            rfl
          have hin : InR (p.setCell ⟨gs, so + i, none⟩ (.slice (some ⟨rk, ro + s1, none⟩) (sl - s1) (rc - s1))) Bf rk (.slice (some ⟨rk, ro + s1, none⟩) (sl - s1) (rc - s1)) [lastB sk] := by
            refine ⟨ys.drop s1, ?_, fun j hj => ?_⟩
            · have := (HYS.out.kept hkq (fun j hj e => hgs8 (e.symm.trans (Option.some.inj hj).symm))).from s1 k1
              rw [show [lastB sk].length = sl - s1 by simp; omega]
              exact this
            · obtain rfl : j = 0 := by simp at hj; exact hj
              obtain ⟨a, c, e1, e2⟩ := HYJ.out s1 hs1
              refine ⟨a, c, by rw [List.getElem?_drop, Nat.add_zero]; exact e1, ?_⟩
              simp only [List.getElem_cons_zero]
              rw [← hlast]
              exact e2.kept hkq (fun x _ hx e => by rw [e] at hx; exact hT.bf.2.1 _ rfl hx)
          have hp := hT.put (k := i) HKS.out (w' := p.setCell ⟨gs, so + i, none⟩ (.slice (some ⟨rk, ro + s1, none⟩) (sl - s1) (rc - s1))) (r' := rk) (v' := .slice (some ⟨rk, ro + s1, none⟩) (sl - s1) (rc - s1)) (s' := [lastB sk]) (Bf' := Bf)
            (hkq.mono (fun j _ h => .inr (by rw [h]))) (fun xs hx => by
              rw [HSN.out] at hx ⊢
              exact (hx.kept (Kept.of_below (fun _ => False) hUQ) (fun _ _ h => h)).set i HKN.out _)
            hin (.inl HRR.out.symm) (fun x hx => hx) (fun x hx => .inl hx) (fun x hx => Nat.lt_of_lt_of_le (hT.lt x hx) hkq.size)
          have hset := HSET.out (p.setCell ⟨gs, so + i, none⟩ (.slice (some ⟨rk, ro + s1, none⟩) (sl - s1) (rc - s1))) (trackO 55 [] gt ((mixF S i).set i [lastB sk])) (fun x => TBlk gt (some gs) (fun j => if j = i then rk else row j) Bf (mixF S i).length x) ⟨_, _, _, _, hp, fun x hx => by rw [List.length_set] at hx; exact hx⟩
            (hkq.mono (fun j _ h => HTB.out j (.inr (.inl (by rw [h])))))
            (fun j hj => (TBlk.put (z := q.heap.size) HKS.out (.inl HRR.out.symm) (fun x hx => .inl hx) j hj).imp (HTB.out j) id) (fun j hj => hp.blk_lt j (by rw [List.length_set]; exact hj))
          rw [HMX.out] at hset
          exact hset)
        go_wp2_with fail
        go_roundw
        case rel => exact ⟨i + 1, by omega, by go_num, HP.out⟩
        case measure => simp [intOf]; omega
    · obtain rfl : i = SN := by omega
      have HMZ : Hid (mixF S i = S.map fun s => [lastB s]) := Lib.hid (by unfold mixF; rw [List.take_of_length_le (by have := HSN0.out; omega), List.drop_of_length_le (by have := HSN0.out; omega), List.append_nil])
      obtain ⟨_, ⟨gso, vo, row, Bf, hT, _⟩, _, _, _⟩ := HL.out.get (i := 0) rfl
      obtain ⟨xs, hx, _⟩ := hT.outer
      rw [HSN.out] at hx
      obtain ⟨gs, so, co, _, rfl, f1, f2, _, _⟩ := hx.at hsn1
      have cV0 : q.cell? ⟨gt, 0, none⟩ = some (.slice (some ⟨gs, so, none⟩) i co) := by rw [cell_of_row q gt 0 _ _ _ hT.self]; simp [HSN.out]
      clear hT hx
      go_wp2_with (first
        | (have hL := HL.out; go_at_call 30; refine (flush_lv hL (i := 1) (d := d) rfl HON.out).mono ?_; rintro e w6 ⟨rfl, hl⟩; rw [HMZ.out] at hl; have HL6 := Lib.hid hl; clear hl HL hL))
      -- CUT 3
      go_ret
      exact ⟨rfl, HL6.out⟩
end Go.Proofs.Ytbnodhcgdgcebaa

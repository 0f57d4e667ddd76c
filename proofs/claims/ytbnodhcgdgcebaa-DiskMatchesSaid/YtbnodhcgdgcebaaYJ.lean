/-
  The law's step.
-/
import Derived.Test.YtbnodhcgdgcebaaYI
import Derived.Deep.CutBlock
import Derived.OwnWalk
namespace Go.Proofs.Ytbnodhcgdgcebaa
open Go.RowKit
set_option linter.unusedSimpArgs false
set_option linter.unusedVariables false
def Dst8 : List (Option Tmp) := [some 48, some 49, some 50, some 51, some 52, some 53, some 54, some 55, some 56, some 57, some 58, some 9]
def Lst8 : List (List Nat) := [[], [], [1], [], [0, 2, 3], [], [], [6], [], [5, 7, 8], [4, 9], [10]]
def Dst26 : List (Option Tmp) := [some 121, some 122, some 123, some 124, some 125, some 126, some 127, some 128, some 129, some 130, some 131, some 132, some 133, some 134, some 135, some 136, some 137, some 138, some 139, some 140, some 141, some 142, some 143, some 6, some 7, some 8]
def Lst26 : List (List Nat) := [[], [], [], [2], [3], [4, 3], [3], [6, 3], [7, 3], [8, 3], [9, 3], [5, 10, 3], [3, 11], [12], [13], [14, 13], [13], [16, 13], [17, 13], [18, 13], [19, 13], [15, 20, 13], [13, 21], [0], [1], [22]]
def Dst3 : List (Option Tmp) := [some 20, some 21, some 22, some 23, some 24, some 25, some 26, some 27, some 16]
def Lst3 : List (List Nat) := [[], [0], [], [2], [3], [4], [5], [1, 6], [7]]
def Dst4 : List (Option Tmp) := [some 28, some 29, some 30, some 31, some 32, some 33, some 17]
def Lst4 : List (List Nat) := [[], [0], [1], [], [3], [2, 4], [5]]
set_option maxRecDepth 100000 in
set_option maxHeartbeats 8000000 in
theorem step_lv {w0 w : World} {g gr : Nat} {d : DM} {N : Nat} (h : Lv w0 w [refO gr d, diskO g d]) (m : OM) (hm : OOk (fun b => b < w0.heap.size) w0 m) (hok : d.Ok N) (hN : N ≤ 99999) :
    Calls Try.prog 15 #[.pointer (some ⟨g, 0, none⟩), .pointer (some ⟨gr, 0, none⟩), .agg m.cells.toArray] w fun e w' => ∃ g2 gr2 d2, e = .returned (.tuple #[.pointer (some ⟨g2, 0, none⟩), .pointer (some ⟨gr2, 0, none⟩), .bool true]) ∧ Lv w0 w' [refO gr2 d2, diskO g2 d2] ∧ d2.S.length = d.S.length ∧ d2.Ok (N + 1) := by
  have HL0 := Lib.hid h
  have HM := Lib.hid hm
  have HOK := Lib.hid hok
  have HOKM : Hid (d.Ok 100000) := Lib.hid (hok.mono (by omega))
  have HNN := Lib.hid hN
  have hml : m.cells.toArray = #[.int .i64 m.kind, .int .i64 m.k, .int .i64 m.n, .slice m.ba m.bn m.bc, .slice m.la m.ln m.lc] := rfl
  obtain ⟨SN, hSN⟩ : ∃ SN, d.S.length = SN := ⟨_, rfl⟩
  have HSN := Lib.hid hSN
  have hs1 : 1 ≤ SN ∧ SN ≤ 4096 := by rw [← hSN]; exact ⟨hok.1, hok.2.1⟩
  obtain ⟨bf, hbf⟩ : ∃ bf, bf = m.b.take 70 := ⟨_, rfl⟩
  have HBF := Lib.hid hbf
  have HBFL : Hid (bf.length ≤ 70) := Lib.hid (by rw [hbf, List.length_take]; omega)
  have HMK : Hid (-9223372036854775808 ≤ m.k ∧ m.k ≤ 9223372036854775807) := Lib.hid hm.2.1
  have HMN : Hid (-9223372036854775808 ≤ m.n ∧ m.n ≤ 9223372036854775807) := Lib.hid hm.2.2.1
  have HMT : Hid (Ts (fun b => b < w0.heap.size) w0 m.la m.ln m.lc m.l) := Lib.hid hm.2.2.2.2
  have HSB : Hid ((0 : Int) < (SN : Int) ∧ (SN : Int) ≤ 9223372036854775807) := Lib.hid ⟨by omega, by omega⟩
  obtain ⟨k, hkk, hkb⟩ := around_nat m.k (SN : Int) (by omega)
  have HKK := Lib.hid hkk
  have HG1 : Hid True := Lib.hid trivial
  rw [hml]
  clear h hm hok hN hSN hbf hml hkk hkb
  go_enter Try.func15, Try.ntmps15
  go_upto_region 1 with fail
  obtain ⟨q, hq⟩ : ∃ q, q = w.alloc (.cells #[.int .i64 m.kind, .int .i64 m.k, .int .i64 m.n, .slice m.ba m.bn m.bc, .slice m.la m.ln m.lc] 35) := ⟨_, rfl⟩
  obtain ⟨gb, hgb⟩ : ∃ gb, gb = w.heap.size := ⟨_, rfl⟩
  have hrow : q.heap[gb]? = some (.cells m.cells.toArray 35 (0, 0)) := by rw [hq]; exact heap_new hgb
  have hbq : Below w.heap.size w q := by rw [hq]; exact (Below.refl _ _).alloc (Nat.le_refl _) _
  have HL : Hid (Lv w0 q (LL gb m gr g d d)) := Lib.hid (HL0.out.cons hbq (o := opO gb m) (B := fun x => x = gb) ⟨hrow, rfl⟩ (fun j hj => by rw [hj]; exact ⟨Nat.le_of_eq hgb.symm, heap_lt hrow⟩))
  rw [← hq, ← hgb]
  clear hq hgb hrow hbq HL0
  obtain ⟨hgq, c0, c1, c2_, c3, c4⟩ := HL.out.opc (i := 0) (gb := gb) (m := m) rfl
  have HGQ := Lib.hid hgq
  have C1 := Lib.hid c1
  have C2 := Lib.hid c2_
  have C3 := Lib.hid c3
  have HMB : Hid (Bs (fun b => b < w0.heap.size) q m.ba m.bn m.bc m.b) := Lib.hid (HM.out.2.2.2.1.kept (Kept.of_below (fun x => w0.heap.size ≤ x) HL.out.args) (fun x hx _ h => by omega))
  obtain ⟨gs, so, co, hgr, cV, _, hc1, hc2⟩ := HL.out.refc (i := 1) (g := gr) (d := d) rfl (by rw [HSN.out]; omega)
  rw [HSN.out] at cV hc1
  have CV := Lib.hid cV
  have HGR := Lib.hid hgr
  have HCO : Hid (SN ≤ co ∧ co ≤ 9223372036854775807) := Lib.hid ⟨hc1, hc2⟩
  obtain ⟨kd, hkd⟩ : ∃ kd, m.kind = kd := ⟨_, rfl⟩
  rw [hkd] at c0
  clear hkd hgq cV hgr hc1 hc2
  go_upto_block 0 with fail
  go_cut [9] from 10 (fun b wx => b = .bool true ∧ ∃ d2, Lv w0 wx (LL gb m gr g d2 d2) ∧ d2.S.length = d.S.length ∧ d2.Ok (N + 1))
  case first =>
    by_cases hk0 : kd = 0
    · subst hk0
      go_upto_region 8 with (first
        | (have x1 := HG1; go_at_call 33; refine (few_any _ m.ba m.bn m.bc 70 m.b _ HMB.out (by omega)).mono ?_; rintro e u0 ⟨v, rfl, hm2⟩; obtain ⟨a2, c2, rfl, hb2⟩ := hm2.bs; obtain ⟨_, _, _, hbl⟩ := hm2; rw [show m.b.take 70 = bf from HBF.out.symm] at hb2 ⊢; have HBU0 := Lib.hid hb2; have HUQ0 := Lib.hid hbl; clear hb2 hbl x1 HG1))
      rename World => u
      have HUQ : Hid (Below q.heap.size q u) := HUQ0
      have HBU : Hid (Bs (fun x => q.heap.size ≤ x) u a2 bf.length c2 bf) := HBU0
      have UB : Hid (gb < u.heap.size) := Lib.hid (Nat.lt_of_lt_of_le HGQ.out HUQ.out.size)
      have UC1 : Hid (u.cell? ⟨gb, 1, none⟩ = some (.int .i64 m.k)) := Lib.hid ((HUQ.out.cell (p := ⟨gb, 1, none⟩) HGQ.out).trans C1.out)
      obtain ⟨ev, d2, B, z1, z2, z3, z4, z5, z6⟩ := writes_both HL.out HOK.out HNN.out m.k bf (by have := HBFL.out; omega)
      have HD2L := Lib.hid z1
      have HD2O := Lib.hid z2
      have HGBB := Lib.hid z3
      have HBQ := Lib.hid z4
      have HW := Lib.hid z5
      have HR := Lib.hid z6
      clear z1 z2 z3 z4 z5 z6 c0 c1 c2_ c3 c4
      refine Roll.region_x 9 144 Dst8 Lst8 [(0, .pointer (some ⟨g, 0, none⟩)), (1, .pointer (some ⟨gr, 0, none⟩)), (5, .pointer (some ⟨gb, 0, none⟩)), (10, .slice a2 bf.length c2)] 4 [true, true, true, true, false, true, true, true, true] (fun p => Below u.heap.size u p) (fun vv p => Lv w0 p (LL gb m gr g d d2) ∧ Kept B u p) (fun p => Kept B u p) (Kept B) [fun vv p => (vv 0) = .pointer (some ⟨g, 0, none⟩), fun vv p => (vv 1) = .pointer (some ⟨gb, 1, none⟩), fun vv p => (vv 2) = .int .i64 m.k, fun vv p => (vv 3) = .slice a2 bf.length c2, fun vv p => (vv 4) = .int .i64 ev, fun vv p => (vv 5) = .pointer (some ⟨gr, 0, none⟩), fun vv p => (vv 6) = .pointer (some ⟨gb, 1, none⟩), fun vv p => (vv 7) = .int .i64 m.k, fun vv p => (vv 8) = .slice a2 bf.length c2] (by kernel_rfl) (by kernel_rfl) rfl ⟨rfl, rfl, rfl, rfl, trivial⟩ ((Below.refl _ _).drew) (by decide) (by kernel_rfl) (fun _ h => Kept.of_below B h) (fun _ _ h => h.2) (fun _ => Kept.refl _ _) ?_ ?_ ?_
      · exact ⟨fun _ _ _ _ h => h, fun _ _ _ _ h => h, fun _ _ _ _ h => h, fun _ _ _ _ h => h, fun _ _ _ _ h => h, fun _ _ _ _ h => h, fun _ _ _ _ h => h, fun _ _ _ _ h => h, fun _ _ _ _ h => h, trivial⟩
      · intro b0 hN hlv
        refine ⟨?_, ?_, ?_, ?_, ?_, ?_, ?_, ?_, ?_, trivial⟩
        · intro vs p hI0 hp
          have hI := Roll.inw_pure (by decide) rfl hI0
          clear hI0
          have e0 : (Roll.putD Dst8 vs [] b0).eval (.tmp 0) = .pointer (some ⟨g, 0, none⟩) := (Roll.eval_old rfl).trans (hlv.at 0 (0, .pointer (some ⟨g, 0, none⟩)) rfl)
          clear hp hlv hN
          unfold Roll.Goes
          simp only [Lst8, List.getD_cons_zero, List.getD_cons_succ]
          generalize Roll.putD Dst8 vs [] b0 = a1 at *
          refine Roll.goes_val (w' := p) (.pointer (some ⟨g, 0, none⟩)) rfl ?_ ⟨(Roll.outw_pure (by decide) rfl), rfl⟩
          (have ec : ∀ x, a1.eval (.const x) = x := fun _ => rfl); (have ef : ∀ x, a1.eval (.func x) = .func (.func x) #[] #[] := fun _ => rfl); generalize a1.eval = ρ at *
          skip
          go_simp <;> (intros; first | (exfalso; omega) | rfl)
        · intro vs p hI0 hp
          have hI := Roll.inw_pure (by decide) rfl hI0
          clear hI0
          have e5 : (Roll.putD Dst8 vs [] b0).eval (.tmp 5) = .pointer (some ⟨gb, 0, none⟩) := (Roll.eval_old rfl).trans (hlv.at 2 (5, .pointer (some ⟨gb, 0, none⟩)) rfl)
          clear hp hlv hN
          unfold Roll.Goes
          simp only [Lst8, List.getD_cons_zero, List.getD_cons_succ]
          generalize Roll.putD Dst8 vs [] b0 = a1 at *
          refine Roll.goes_val (w' := p) (.pointer (some ⟨gb, 1, none⟩)) rfl ?_ ⟨(Roll.outw_pure (by decide) rfl), rfl⟩
          (have ec : ∀ x, a1.eval (.const x) = x := fun _ => rfl); (have ef : ∀ x, a1.eval (.func x) = .func (.func x) #[] #[] := fun _ => rfl); generalize a1.eval = ρ at *
          skip
          go_simp <;> (intros; first | (exfalso; omega) | rfl)
        · intro vs p hI0 hp
          have hI := Roll.inw_pure (by decide) rfl hI0
          clear hI0
          have h1 : (vs 1) = .pointer (some ⟨gb, 1, none⟩) := hp 1 (by simp [Lst8])
          have e49 : (Roll.putD Dst8 vs [1] b0).eval (.tmp 49) = .pointer (some ⟨gb, 1, none⟩) := (Roll.eval_new 1 rfl (by decide) (by decide) (by omega)).trans h1
          clear hp hlv hN
          unfold Roll.Goes
          simp only [Lst8, List.getD_cons_zero, List.getD_cons_succ]
          generalize Roll.putD Dst8 vs [1] b0 = a1 at *
          have cf : p.cell? ⟨gb, 1, none⟩ = some (.int .i64 m.k) := (hI.cell (p := ⟨gb, 1, none⟩) UB.out HGBB.out).trans UC1.out
          refine Roll.goes_val (w' := p) (.int .i64 m.k) rfl ?_ ⟨(Roll.outw_pure (by decide) rfl), rfl⟩
          (have ec : ∀ x, a1.eval (.const x) = x := fun _ => rfl); (have ef : ∀ x, a1.eval (.func x) = .func (.func x) #[] #[] := fun _ => rfl); generalize a1.eval = ρ at *
          clear h1
          go_simp <;> (intros; first | (exfalso; omega) | rfl)
        · intro vs p hI0 hp
          have hI := Roll.inw_pure (by decide) rfl hI0
          clear hI0
          have e10 : (Roll.putD Dst8 vs [] b0).eval (.tmp 10) = .slice a2 bf.length c2 := (Roll.eval_old rfl).trans (hlv.at 3 (10, .slice a2 bf.length c2) rfl)
          clear hp hlv hN
          unfold Roll.Goes
          simp only [Lst8, List.getD_cons_zero, List.getD_cons_succ]
          generalize Roll.putD Dst8 vs [] b0 = a1 at *
          refine Roll.goes_val (w' := p) (.slice a2 bf.length c2) rfl ?_ ⟨(Roll.outw_pure (by decide) rfl), rfl⟩
          (have ec : ∀ x, a1.eval (.const x) = x := fun _ => rfl); (have ef : ∀ x, a1.eval (.func x) = .func (.func x) #[] #[] := fun _ => rfl); generalize a1.eval = ρ at *
          skip
          go_simp <;> (intros; first | (exfalso; omega) | rfl)
        · intro vs p hI0 hp
          have hI := Roll.inw_k0 rfl hI0
          clear hI0
          have h0 : (vs 0) = .pointer (some ⟨g, 0, none⟩) := hp 0 (by simp [Lst8])
          have h2 : (vs 2) = .int .i64 m.k := hp 2 (by simp [Lst8])
          have h3 : (vs 3) = .slice a2 bf.length c2 := hp 3 (by simp [Lst8])
          have e48 : (Roll.putD Dst8 vs [0, 2, 3] b0).eval (.tmp 48) = .pointer (some ⟨g, 0, none⟩) := (Roll.eval_new 0 rfl (by decide) (by decide) (by omega)).trans h0
          have e50 : (Roll.putD Dst8 vs [0, 2, 3] b0).eval (.tmp 50) = .int .i64 m.k := (Roll.eval_new 2 rfl (by decide) (by decide) (by omega)).trans h2
          have e51 : (Roll.putD Dst8 vs [0, 2, 3] b0).eval (.tmp 51) = .slice a2 bf.length c2 := (Roll.eval_new 3 rfl (by decide) (by decide) (by omega)).trans h3
          clear hp hlv hN
          unfold Roll.Goes
          simp only [Lst8, List.getD_cons_zero, List.getD_cons_succ]
          generalize Roll.putD Dst8 vs [0, 2, 3] b0 = a1 at *
          refine Roll.goes_call 31 #[.pointer (some ⟨g, 0, none⟩), .int .i64 m.k, .slice a2 bf.length c2] p rfl (by have ec : ∀ x, a1.eval (.const x) = x := fun _ => rfl; have ef : ∀ x, a1.eval (.func x) = .func (.func x) #[] #[] := fun _ => rfl; generalize a1.eval = ρ at *; go_simp) ?_
          refine (HW.out p a2 c2 _ (HUQ.out.trans (hI.mono HUQ.out.size)) (HBU.out.kept (Kept.of_below (fun _ => False) hI) (fun _ _ _ h => h))).mono ?_
          rintro y p2 ⟨rfl, hk, hl⟩
          exact ⟨_, rfl, Roll.outw_k0 rfl ⟨hl, (Kept.of_below B hI).trans hk (fun _ _ h => h)⟩ hk, rfl⟩
        · intro vs p hI0 hp
          have hI := Roll.inw_pure (by decide) rfl hI0
          clear hI0
          have e1 : (Roll.putD Dst8 vs [] b0).eval (.tmp 1) = .pointer (some ⟨gr, 0, none⟩) := (Roll.eval_old rfl).trans (hlv.at 1 (1, .pointer (some ⟨gr, 0, none⟩)) rfl)
          clear hp hlv hN
          unfold Roll.Goes
          simp only [Lst8, List.getD_cons_zero, List.getD_cons_succ]
          generalize Roll.putD Dst8 vs [] b0 = a1 at *
          refine Roll.goes_val (w' := p) (.pointer (some ⟨gr, 0, none⟩)) rfl ?_ ⟨(Roll.outw_pure (by decide) rfl), rfl⟩
          (have ec : ∀ x, a1.eval (.const x) = x := fun _ => rfl); (have ef : ∀ x, a1.eval (.func x) = .func (.func x) #[] #[] := fun _ => rfl); generalize a1.eval = ρ at *
          skip
          go_simp <;> (intros; first | (exfalso; omega) | rfl)
        · intro vs p hI0 hp
          have hI := Roll.inw_pure (by decide) rfl hI0
          clear hI0
          have e5 : (Roll.putD Dst8 vs [] b0).eval (.tmp 5) = .pointer (some ⟨gb, 0, none⟩) := (Roll.eval_old rfl).trans (hlv.at 2 (5, .pointer (some ⟨gb, 0, none⟩)) rfl)
          clear hp hlv hN
          unfold Roll.Goes
          simp only [Lst8, List.getD_cons_zero, List.getD_cons_succ]
          generalize Roll.putD Dst8 vs [] b0 = a1 at *
          refine Roll.goes_val (w' := p) (.pointer (some ⟨gb, 1, none⟩)) rfl ?_ ⟨(Roll.outw_pure (by decide) rfl), rfl⟩
          (have ec : ∀ x, a1.eval (.const x) = x := fun _ => rfl); (have ef : ∀ x, a1.eval (.func x) = .func (.func x) #[] #[] := fun _ => rfl); generalize a1.eval = ρ at *
          skip
          go_simp <;> (intros; first | (exfalso; omega) | rfl)
        · intro vs p hI0 hp
          have hI := Roll.inw_pure (by decide) rfl hI0
          clear hI0
          have h6 : (vs 6) = .pointer (some ⟨gb, 1, none⟩) := hp 6 (by simp [Lst8])
          have e54 : (Roll.putD Dst8 vs [6] b0).eval (.tmp 54) = .pointer (some ⟨gb, 1, none⟩) := (Roll.eval_new 6 rfl (by decide) (by decide) (by omega)).trans h6
          clear hp hlv hN
          unfold Roll.Goes
          simp only [Lst8, List.getD_cons_zero, List.getD_cons_succ]
          generalize Roll.putD Dst8 vs [6] b0 = a1 at *
          have cf : p.cell? ⟨gb, 1, none⟩ = some (.int .i64 m.k) := (hI.cell (p := ⟨gb, 1, none⟩) UB.out HGBB.out).trans UC1.out
          refine Roll.goes_val (w' := p) (.int .i64 m.k) rfl ?_ ⟨(Roll.outw_pure (by decide) rfl), rfl⟩
          (have ec : ∀ x, a1.eval (.const x) = x := fun _ => rfl); (have ef : ∀ x, a1.eval (.func x) = .func (.func x) #[] #[] := fun _ => rfl); generalize a1.eval = ρ at *
          clear h6
          go_simp <;> (intros; first | (exfalso; omega) | rfl)
        · intro vs p hI0 hp
          have hI := Roll.inw_pure (by decide) rfl hI0
          clear hI0
          have e10 : (Roll.putD Dst8 vs [] b0).eval (.tmp 10) = .slice a2 bf.length c2 := (Roll.eval_old rfl).trans (hlv.at 3 (10, .slice a2 bf.length c2) rfl)
          clear hp hlv hN
          unfold Roll.Goes
          simp only [Lst8, List.getD_cons_zero, List.getD_cons_succ]
          generalize Roll.putD Dst8 vs [] b0 = a1 at *
          refine Roll.goes_val (w' := p) (.slice a2 bf.length c2) rfl ?_ ⟨(Roll.outw_pure (by decide) rfl), rfl⟩
          (have ec : ∀ x, a1.eval (.const x) = x := fun _ => rfl); (have ef : ∀ x, a1.eval (.func x) = .func (.func x) #[] #[] := fun _ => rfl); generalize a1.eval = ρ at *
          skip
          go_simp <;> (intros; first | (exfalso; omega) | rfl)
      · intro vs p hI hR
        have h0 : (vs 0) = .pointer (some ⟨g, 0, none⟩) := hR 0 (by omega)
        have h1 : (vs 1) = .pointer (some ⟨gb, 1, none⟩) := hR 1 (by omega)
        have h2 : (vs 2) = .int .i64 m.k := hR 2 (by omega)
        have h3 : (vs 3) = .slice a2 bf.length c2 := hR 3 (by omega)
        have h4 : (vs 4) = .int .i64 ev := hR 4 (by omega)
        have h5 : (vs 5) = .pointer (some ⟨gr, 0, none⟩) := hR 5 (by omega)
        have h6 : (vs 6) = .pointer (some ⟨gb, 1, none⟩) := hR 6 (by omega)
        have h7 : (vs 7) = .int .i64 m.k := hR 7 (by omega)
        have h8 : (vs 8) = .slice a2 bf.length c2 := hR 8 (by omega)
        clear hR
        simp only [List.range_succ, List.range_zero, List.nil_append, List.cons_append, Roll.putD, Act.put, List.getD_cons_zero, List.getD_cons_succ, List.setIfInBounds_toArray, List.set_cons_zero, List.set_cons_succ, List.drop_succ_cons, List.drop_zero, Dst8]
        simp only [h0, h1, h2, h3, h4, h5, h6, h7, h8]
        clear h0 h1 h2 h3 h4 h5 h6 h7 h8
        obtain ⟨hl, hk⟩ := hI
        have HL8 := Lib.hid hl
        have HB8 := Lib.hid (HBU.out.kept hk (fun x _ hx hb => by have := HBQ.out x hb; omega))
        clear hl hk
        go_wp2_with (first
          | (have hL := HL8.out; go_at_call 46; refine (HR.out p a2 c2 _ hL HB8.out).mono ?_; rintro e w9 ⟨rfl, hl⟩; have HL9 := Lib.hid hl; clear hl hL))
        go_meet
        exact ⟨by first | rfl | simp, d2, HL9.out, HD2L.out, HD2O.out⟩
    have hb0 : (kd == 0) = false := by rw [beq_eq_false_iff_ne]; exact hk0
    by_cases hk1 : kd = 1
    · subst hk1
      go_wp2_with (first
        | (have hL := HL.out; go_at_call 21; refine (dread_w hL (i := 2) rfl m.k).mono ?_; rintro e u2 ⟨v, rfl, hl⟩; obtain ⟨_, a2, c2, rfl, _⟩ := hl.bytes (i := 0) rfl; have c1' := (hl.opc (i := 1) rfl).2.2.1; have HL2 := Lib.hid hl; clear hl HL hL)
        | (have hL := HL2.out; go_at_call 47; refine (rread_w hL (i := 2) rfl m.k HOKM.out).mono ?_; rintro e u3 ⟨v, rfl, hl⟩; obtain ⟨_, a3, c3, rfl, _⟩ := hl.bytes (i := 0) rfl; have HL3 := Lib.hid hl; clear hl HL2 hL)
        | (have hL := HL3.out; go_at_call 22; obtain ⟨Zq, hq⟩ := hL.bs (i := 1) rfl; obtain ⟨Zr, hr⟩ := hL.bs (i := 0) rfl; refine (sameBytes_any _ _ _ _ _ _ _ _ _ _ _ hq hr).mono ?_; rintro e u4 ⟨rfl, rfl⟩; rw [beq_self_eq_true]; clear hL hq hr))
      go_meet
      exact ⟨by first | rfl | simp, d, HL3.out.tail.tail, rfl, HOK.out.mono (by omega)⟩
    have hb1 : (kd == 1) = false := by rw [beq_eq_false_iff_ne]; exact hk1
    by_cases hk2 : kd = 2
    · subst hk2
      go_wp2_with (first
        | (have hL := HL.out; go_at_call 30; refine (dflush_w hL (i := 2) (d := d) rfl).mono ?_; rintro e u2 ⟨rfl, hl⟩; have HL2 : Hid (Lv w0 u2 (LL gb m gr g d (flD d))) := Lib.hid hl; clear hl HL hL)
        | (have hL := HL2.out; go_at_call 48; refine (rflush_w hL (i := 1) (d := d) rfl HOKM.out).mono ?_; rintro e u3 ⟨rfl, hl⟩; have HL3 : Hid (Lv w0 u3 (LL gb m gr g (flD d) (flD d))) := Lib.hid hl; clear hl HL2 hL))
      go_meet
      exact ⟨by first | rfl | simp, flD d, HL3.out, flD_len, (flD_ok HOK.out).mono (by omega)⟩
    have hb2 : (kd == 2) = false := by rw [beq_eq_false_iff_ne]; exact hk2
    by_cases hk3 : kd = 3
    · subst hk3
      go_wp2_with (first
        | (have hL := HL.out; go_at_call 29; refine (fuse_lv hL (i := 2) (d := d) rfl m.n HMN.out.1 HMN.out.2).mono ?_; rintro e u2 ⟨rfl, hl⟩; have c2' := (hl.opc (i := 0) (gb := gb) (m := m) rfl).2.2.2.1; have HL2 : Hid (Lv w0 u2 (LL gb m gr g d (d.setFuse m.n))) := Lib.hid hl; clear hl HL hL)
        | (have hL := HL2.out; go_at_call 49; refine (blow_lv hL (i := 1) (d := d) rfl m.n HMN.out.1 HMN.out.2).mono ?_; rintro e u3 ⟨rfl, hl⟩; have HL3 : Hid (Lv w0 u3 (LL gb m gr g (d.setFuse m.n) (d.setFuse m.n))) := Lib.hid hl; clear hl HL2 hL))
      go_meet
      exact ⟨by first | rfl | simp, d.setFuse m.n, HL3.out, setFuse_len _, (setFuse_ok HOK.out _ HMN.out.2).mono (by omega)⟩
    have hb3 : (kd == 3) = false := by rw [beq_eq_false_iff_ne]; exact hk3
    by_cases hk4 : kd = 4
    · subst hk4
      go_wp2_with (first
        | (have hL := HL.out; go_at_call 27; refine (restart_lv hL (i := 2) (d := d) rfl (HMT.out.kept (Kept.of_below (fun x => w0.heap.size ≤ x) hL.args) (fun x hx _ h => by omega)) (.inl (fun x hx => hx))).mono ?_; rintro e u2 ⟨rfl, hl⟩; have c4' := (hl.opc (i := 0) (gb := gb) (m := m) rfl).2.2.2.2.2; have HL2 : Hid (Lv w0 u2 (LL gb m gr g d (d.restart m.l))) := Lib.hid hl; clear hl HL hL)
        | (have hL := HL2.out; go_at_call 50; refine (rrestart_lv hL (i0 := 1) (d := d) rfl HOKM.out m.la m.ln m.lc m.l HMT.out).mono ?_; rintro e u3 ⟨rfl, hl⟩; have HL3 : Hid (Lv w0 u3 (LL gb m gr g (d.restart m.l) (d.restart m.l))) := Lib.hid hl; clear hl HL2 hL))
      go_meet
      exact ⟨by first | rfl | simp, d.restart m.l, HL3.out, restart_len _ _, (DM.restart_ok HOK.out _).mono (by omega)⟩
    have hb4 : (kd == 4) = false := by rw [beq_eq_false_iff_ne]; exact hk4
    by_cases hk5 : kd = 5
    · subst hk5
      go_wp2_with (first
        | (have hL := HL.out; go_at_call 37; refine (clone_lv hL (i := 2) (d := d) rfl HOKM.out).mono ?_; rintro e u2 ⟨gc, rfl, hl⟩; have HL2 := Lib.hid hl; clear hl HL hL)
        | (have hL := HL2.out; go_at_call 51; refine (rclone_lv hL (i0 := 2) (d := d) rfl HOKM.out).mono ?_; rintro e u3 ⟨gc2, rfl, hl⟩; have HL3 : Hid (Lv w0 u3 [diskO gc d, opO gb m, refO gc2 d, diskO g d]) := Lib.hid hl; clear hl HL2 hL))
      go_ret3
      exact ⟨gc, gc2, d, rfl, HL3.out.pick (i := 2) (j := 0) (by omega) rfl rfl, rfl, HOK.out.mono (by omega)⟩
    have hb5 : (kd == 5) = false := by rw [beq_eq_false_iff_ne]; exact hk5
    go_upto_region 3 with fail
    clear c0 c1 c2_ c3 c4
    refine Roll.region_w 9 144 Dst3 Lst3 [(1, .pointer (some ⟨gr, 0, none⟩)), (5, .pointer (some ⟨gb, 0, none⟩))] 8 [true, true, true, true, true, true, true, true, false] (fun p => Below q.heap.size q p) (fun vv p => Below q.heap.size q p) (fun p => Below q.heap.size q p) (Kept (fun _ => False)) [fun vv p => (vv 0) = .pointer (some ⟨gb, 1, none⟩), fun vv p => (vv 1) = .int .i64 m.k, fun vv p => (vv 2) = .pointer (some ⟨gr, 0, none⟩), fun vv p => (vv 3) = .pointer (some ⟨gr, 0, none⟩), fun vv p => (vv 4) = .pointer (some ⟨gr, 0, none⟩), fun vv p => (vv 5) = .slice (some ⟨gs, so, none⟩) SN co, fun vv p => (vv 6) = .int .i64 (SN : Int), fun vv p => (vv 7) = .int .i64 (k : Int), fun vv p => (vv 8) = .int .i64 (k : Int)] (by kernel_rfl) (by kernel_rfl) rfl ⟨rfl, rfl, trivial⟩ ((Below.refl _ _).drew) (by decide) (by kernel_rfl) (fun _ h => h) (fun _ _ h => h) (fun _ => Kept.refl _ _) ?_ ?_ ?_
    · exact ⟨fun _ _ _ _ h => h, fun _ _ _ _ h => h, fun _ _ _ _ h => h, fun _ _ _ _ h => h, fun _ _ _ _ h => h, fun _ _ _ _ h => h, fun _ _ _ _ h => h, fun _ _ _ _ h => h, fun _ _ _ _ h => h, trivial⟩
    · intro b0 hN hlv
      refine ⟨?_, ?_, ?_, ?_, ?_, ?_, ?_, ?_, ?_, trivial⟩
      · intro vs p hI0 hp
        have hI := Roll.inw_pure (by decide) rfl hI0
        clear hI0
        have e5 : (Roll.putD Dst3 vs [] b0).eval (.tmp 5) = .pointer (some ⟨gb, 0, none⟩) := (Roll.eval_old rfl).trans (hlv.at 1 (5, .pointer (some ⟨gb, 0, none⟩)) rfl)
        clear hp hlv hN
        unfold Roll.Goes
        simp only [Lst3, List.getD_cons_zero, List.getD_cons_succ]
        generalize Roll.putD Dst3 vs [] b0 = a1 at *
        refine Roll.goes_val (w' := p) (.pointer (some ⟨gb, 1, none⟩)) rfl ?_ ⟨(Roll.outw_pure (by decide) rfl), rfl⟩
        (have ec : ∀ x, a1.eval (.const x) = x := fun _ => rfl); (have ef : ∀ x, a1.eval (.func x) = .func (.func x) #[] #[] := fun _ => rfl); generalize a1.eval = ρ at *
        skip
        go_simp <;> (intros; first | (exfalso; omega) | rfl)
      · intro vs p hI0 hp
        have hI := Roll.inw_pure (by decide) rfl hI0
        clear hI0
        have h0 : (vs 0) = .pointer (some ⟨gb, 1, none⟩) := hp 0 (by simp [Lst3])
        have e20 : (Roll.putD Dst3 vs [0] b0).eval (.tmp 20) = .pointer (some ⟨gb, 1, none⟩) := (Roll.eval_new 0 rfl (by decide) (by decide) (by omega)).trans h0
        clear hp hlv hN
        unfold Roll.Goes
        simp only [Lst3, List.getD_cons_zero, List.getD_cons_succ]
        generalize Roll.putD Dst3 vs [0] b0 = a1 at *
        have cf : p.cell? ⟨gb, 1, none⟩ = some (.int .i64 m.k) := (hI.cell (p := ⟨gb, 1, none⟩) HGQ.out).trans C1.out
        refine Roll.goes_val (w' := p) (.int .i64 m.k) rfl ?_ ⟨(Roll.outw_pure (by decide) rfl), rfl⟩
        (have ec : ∀ x, a1.eval (.const x) = x := fun _ => rfl); (have ef : ∀ x, a1.eval (.func x) = .func (.func x) #[] #[] := fun _ => rfl); generalize a1.eval = ρ at *
        clear h0
        go_simp <;> (intros; first | (exfalso; omega) | rfl)
      · intro vs p hI0 hp
        have hI := Roll.inw_pure (by decide) rfl hI0
        clear hI0
        have e1 : (Roll.putD Dst3 vs [] b0).eval (.tmp 1) = .pointer (some ⟨gr, 0, none⟩) := (Roll.eval_old rfl).trans (hlv.at 0 (1, .pointer (some ⟨gr, 0, none⟩)) rfl)
        clear hp hlv hN
        unfold Roll.Goes
        simp only [Lst3, List.getD_cons_zero, List.getD_cons_succ]
        generalize Roll.putD Dst3 vs [] b0 = a1 at *
        refine Roll.goes_val (w' := p) (.pointer (some ⟨gr, 0, none⟩)) rfl ?_ ⟨(Roll.outw_pure (by decide) rfl), rfl⟩
        (have ec : ∀ x, a1.eval (.const x) = x := fun _ => rfl); (have ef : ∀ x, a1.eval (.func x) = .func (.func x) #[] #[] := fun _ => rfl); generalize a1.eval = ρ at *
        skip
        go_simp <;> (intros; first | (exfalso; omega) | rfl)
      · intro vs p hI0 hp
        have hI := Roll.inw_pure (by decide) rfl hI0
        clear hI0
        have h2 : (vs 2) = .pointer (some ⟨gr, 0, none⟩) := hp 2 (by simp [Lst3])
        have e22 : (Roll.putD Dst3 vs [2] b0).eval (.tmp 22) = .pointer (some ⟨gr, 0, none⟩) := (Roll.eval_new 2 rfl (by decide) (by decide) (by omega)).trans h2
        clear hp hlv hN
        unfold Roll.Goes
        simp only [Lst3, List.getD_cons_zero, List.getD_cons_succ]
        generalize Roll.putD Dst3 vs [2] b0 = a1 at *
        refine Roll.goes_val (w' := p) (.pointer (some ⟨gr, 0, none⟩)) rfl ?_ ⟨(Roll.outw_pure (by decide) rfl), rfl⟩
        (have ec : ∀ x, a1.eval (.const x) = x := fun _ => rfl); (have ef : ∀ x, a1.eval (.func x) = .func (.func x) #[] #[] := fun _ => rfl); generalize a1.eval = ρ at *
        clear h2
        go_simp <;> (intros; first | (exfalso; omega) | rfl)
      · intro vs p hI0 hp
        have hI := Roll.inw_pure (by decide) rfl hI0
        clear hI0
        have h3 : (vs 3) = .pointer (some ⟨gr, 0, none⟩) := hp 3 (by simp [Lst3])
        have e23 : (Roll.putD Dst3 vs [3] b0).eval (.tmp 23) = .pointer (some ⟨gr, 0, none⟩) := (Roll.eval_new 3 rfl (by decide) (by decide) (by omega)).trans h3
        clear hp hlv hN
        unfold Roll.Goes
        simp only [Lst3, List.getD_cons_zero, List.getD_cons_succ]
        generalize Roll.putD Dst3 vs [3] b0 = a1 at *
        refine Roll.goes_val (w' := p) (.pointer (some ⟨gr, 0, none⟩)) rfl ?_ ⟨(Roll.outw_pure (by decide) rfl), rfl⟩
        (have ec : ∀ x, a1.eval (.const x) = x := fun _ => rfl); (have ef : ∀ x, a1.eval (.func x) = .func (.func x) #[] #[] := fun _ => rfl); generalize a1.eval = ρ at *
        clear h3
        go_simp <;> (intros; first | (exfalso; omega) | rfl)
      · intro vs p hI0 hp
        have hI := Roll.inw_pure (by decide) rfl hI0
        clear hI0
        have h4 : (vs 4) = .pointer (some ⟨gr, 0, none⟩) := hp 4 (by simp [Lst3])
        have e24 : (Roll.putD Dst3 vs [4] b0).eval (.tmp 24) = .pointer (some ⟨gr, 0, none⟩) := (Roll.eval_new 4 rfl (by decide) (by decide) (by omega)).trans h4
        clear hp hlv hN
        unfold Roll.Goes
        simp only [Lst3, List.getD_cons_zero, List.getD_cons_succ]
        generalize Roll.putD Dst3 vs [4] b0 = a1 at *
        have cf : p.cell? ⟨gr, 0, none⟩ = some (.slice (some ⟨gs, so, none⟩) SN co) := (hI.cell (p := ⟨gr, 0, none⟩) HGR.out).trans CV.out
        refine Roll.goes_val (w' := p) (.slice (some ⟨gs, so, none⟩) SN co) rfl ?_ ⟨(Roll.outw_pure (by decide) rfl), rfl⟩
        (have ec : ∀ x, a1.eval (.const x) = x := fun _ => rfl); (have ef : ∀ x, a1.eval (.func x) = .func (.func x) #[] #[] := fun _ => rfl); generalize a1.eval = ρ at *
        clear h4
        go_simp <;> (intros; first | (exfalso; omega) | rfl)
      · intro vs p hI0 hp
        have hI := Roll.inw_pure (by decide) rfl hI0
        clear hI0
        have h5 : (vs 5) = .slice (some ⟨gs, so, none⟩) SN co := hp 5 (by simp [Lst3])
        have e25 : (Roll.putD Dst3 vs [5] b0).eval (.tmp 25) = .slice (some ⟨gs, so, none⟩) SN co := (Roll.eval_new 5 rfl (by decide) (by decide) (by omega)).trans h5
        clear hp hlv hN
        unfold Roll.Goes
        simp only [Lst3, List.getD_cons_zero, List.getD_cons_succ]
        generalize Roll.putD Dst3 vs [5] b0 = a1 at *
        refine Roll.goes_val (w' := p) (.int .i64 (SN : Int)) rfl ?_ ⟨(Roll.outw_pure (by decide) rfl), rfl⟩
        (have ec : ∀ x, a1.eval (.const x) = x := fun _ => rfl); (have ef : ∀ x, a1.eval (.func x) = .func (.func x) #[] #[] := fun _ => rfl); generalize a1.eval = ρ at *
        clear h5
        go_simp <;> (intros; first | (exfalso; omega) | rfl)
      · intro vs p hI0 hp
        have hI := Roll.inw_pure (by decide) rfl hI0
        clear hI0
        have h1 : (vs 1) = .int .i64 m.k := hp 1 (by simp [Lst3])
        have h6 : (vs 6) = .int .i64 (SN : Int) := hp 6 (by simp [Lst3])
        have e21 : (Roll.putD Dst3 vs [1, 6] b0).eval (.tmp 21) = .int .i64 m.k := (Roll.eval_new 1 rfl (by decide) (by decide) (by omega)).trans h1
        have e26 : (Roll.putD Dst3 vs [1, 6] b0).eval (.tmp 26) = .int .i64 (SN : Int) := (Roll.eval_new 6 rfl (by decide) (by decide) (by omega)).trans h6
        clear hp hlv hN
        unfold Roll.Goes
        simp only [Lst3, List.getD_cons_zero, List.getD_cons_succ]
        generalize Roll.putD Dst3 vs [1, 6] b0 = a1 at *
        refine Roll.goes_call 14 #[.int .i64 m.k, .int .i64 (SN : Int)] p rfl (by have ec : ∀ x, a1.eval (.const x) = x := fun _ => rfl; have ef : ∀ x, a1.eval (.func x) = .func (.func x) #[] #[] := fun _ => rfl; generalize a1.eval = ρ at *; go_simp) ?_
        refine (around_any m.k (SN : Int) p HMK.out.1 HMK.out.2 HSB.out.1 HSB.out.2).mono ?_
        rintro y p2 ⟨rfl, rfl⟩
        exact ⟨_, rfl, (Roll.outw_pure (by decide) rfl), by show Value.int .i64 _ = _; rw [HKK.out]⟩
      · intro vs p hI0 hp
        have hI := Roll.inw_k0 rfl hI0
        clear hI0
        have h7 : (vs 7) = .int .i64 (k : Int) := hp 7 (by simp [Lst3])
        have e27 : (Roll.putD Dst3 vs [7] b0).eval (.tmp 27) = .int .i64 (k : Int) := (Roll.eval_new 7 rfl (by decide) (by decide) (by omega)).trans h7
        clear hp hlv hN
        unfold Roll.Goes
        simp only [Lst3, List.getD_cons_zero, List.getD_cons_succ]
        generalize Roll.putD Dst3 vs [7] b0 = a1 at *
        refine Roll.goes_val (w' := p) (.int .i64 (k : Int)) rfl (by have ec : ∀ x, a1.eval (.const x) = x := fun _ => rfl; have ef : ∀ x, a1.eval (.func x) = .func (.func x) #[] #[] := fun _ => rfl; have hbs := trivial; generalize a1.eval = ρ at *; go_simp <;> (intros; first | (exfalso; omega) | rfl)) ⟨Roll.outw_k0 rfl hI (Kept.refl _ _), rfl⟩
    · intro vs p hI hR
      have h0 : (vs 0) = .pointer (some ⟨gb, 1, none⟩) := hR 0 (by omega)
      have h1 : (vs 1) = .int .i64 m.k := hR 1 (by omega)
      have h2 : (vs 2) = .pointer (some ⟨gr, 0, none⟩) := hR 2 (by omega)
      have h3 : (vs 3) = .pointer (some ⟨gr, 0, none⟩) := hR 3 (by omega)
      have h4 : (vs 4) = .pointer (some ⟨gr, 0, none⟩) := hR 4 (by omega)
      have h5 : (vs 5) = .slice (some ⟨gs, so, none⟩) SN co := hR 5 (by omega)
      have h6 : (vs 6) = .int .i64 (SN : Int) := hR 6 (by omega)
      have h7 : (vs 7) = .int .i64 (k : Int) := hR 7 (by omega)
      have h8 : (vs 8) = .int .i64 (k : Int) := hR 8 (by omega)
      clear hR
      simp only [List.range_succ, List.range_zero, List.nil_append, List.cons_append, Roll.putD, Act.put, List.getD_cons_zero, List.getD_cons_succ, List.setIfInBounds_toArray, List.set_cons_zero, List.set_cons_succ, List.drop_succ_cons, List.drop_zero, Dst3]
      simp only [h0, h1, h2, h3, h4, h5, h6, h7, h8]
      clear h0 h1 h2 h3 h4 h5 h6 h7 h8
      have HBQ2 := Lib.hid hI
      clear hI
      go_upto_region 4 with fail
      refine Roll.region_w 7 144 Dst4 Lst4 [(5, .pointer (some ⟨gb, 0, none⟩))] 6 [true, true, false, true, true, false, false] (fun p => Below q.heap.size q p) (fun vv p => Below q.heap.size q p) (fun p => Below q.heap.size q p) (Kept (fun _ => False)) [fun vv p => (vv 0) = .pointer (some ⟨gb, 3, none⟩), fun vv p => (vv 1) = .slice m.ba m.bn m.bc, fun vv p => ∃ a2 c2, (vv 2) = .slice a2 bf.length c2 ∧ Bs (fun x => q.heap.size ≤ x) p a2 bf.length c2 bf, fun vv p => (vv 3) = .pointer (some ⟨gb, 2, none⟩), fun vv p => (vv 4) = .int .i64 m.n, fun vv p => ∃ a2 c2 l2, (vv 5) = .slice a2 64 c2 ∧ l2.length = 64 ∧ Bs (fun x => q.heap.size ≤ x) p a2 64 c2 l2, fun vv p => ∃ a2 c2 l2, (vv 6) = .slice a2 64 c2 ∧ l2.length = 64 ∧ Bs (fun x => q.heap.size ≤ x) p a2 64 c2 l2] (by kernel_rfl) (by kernel_rfl) rfl ⟨rfl, trivial⟩ (HBQ2.out.drew) (by decide) (by kernel_rfl) (fun _ h => h) (fun _ _ h => h) (fun _ => Kept.refl _ _) ?_ ?_ ?_
      · exact ⟨fun _ _ _ _ h => h, fun _ _ _ _ h => h, fun _ _ _ hs h => by obtain ⟨a, c, e1, e2⟩ := h; exact ⟨a, c, e1, e2.kept hs (fun x _ hx e => e)⟩, fun _ _ _ _ h => h, fun _ _ _ _ h => h, fun _ _ _ hs h => by obtain ⟨a, c, l, e1, e2, e3⟩ := h; exact ⟨a, c, l, e1, e2, e3.kept hs (fun x _ hx e => e)⟩, fun _ _ _ hs h => by obtain ⟨a, c, l, e1, e2, e3⟩ := h; exact ⟨a, c, l, e1, e2, e3.kept hs (fun x _ hx e => e)⟩, trivial⟩
      · intro b0 hN hlv
        refine ⟨?_, ?_, ?_, ?_, ?_, ?_, ?_, trivial⟩
        · intro vt p hI0 hp
          have hI := Roll.inw_pure (by decide) rfl hI0
          clear hI0
          have e5 : (Roll.putD Dst4 vt [] b0).eval (.tmp 5) = .pointer (some ⟨gb, 0, none⟩) := (Roll.eval_old rfl).trans (hlv.at 0 (5, .pointer (some ⟨gb, 0, none⟩)) rfl)
          clear hp hlv hN
          unfold Roll.Goes
          simp only [Lst4, List.getD_cons_zero, List.getD_cons_succ]
          generalize Roll.putD Dst4 vt [] b0 = a1 at *
          refine Roll.goes_val (w' := p) (.pointer (some ⟨gb, 3, none⟩)) rfl ?_ ⟨(Roll.outw_pure (by decide) rfl), rfl⟩
          (have ec : ∀ x, a1.eval (.const x) = x := fun _ => rfl); (have ef : ∀ x, a1.eval (.func x) = .func (.func x) #[] #[] := fun _ => rfl); generalize a1.eval = ρ at *
          skip
          go_simp <;> (intros; first | (exfalso; omega) | rfl)
        · intro vt p hI0 hp
          have hI := Roll.inw_pure (by decide) rfl hI0
          clear hI0
          have h0 : (vt 0) = .pointer (some ⟨gb, 3, none⟩) := hp 0 (by simp [Lst4])
          have e28 : (Roll.putD Dst4 vt [0] b0).eval (.tmp 28) = .pointer (some ⟨gb, 3, none⟩) := (Roll.eval_new 0 rfl (by decide) (by decide) (by omega)).trans h0
          clear hp hlv hN
          unfold Roll.Goes
          simp only [Lst4, List.getD_cons_zero, List.getD_cons_succ]
          generalize Roll.putD Dst4 vt [0] b0 = a1 at *
          have cf : p.cell? ⟨gb, 3, none⟩ = some (.slice m.ba m.bn m.bc) := (hI.cell (p := ⟨gb, 3, none⟩) HGQ.out).trans C3.out
          refine Roll.goes_val (w' := p) (.slice m.ba m.bn m.bc) rfl ?_ ⟨(Roll.outw_pure (by decide) rfl), rfl⟩
          (have ec : ∀ x, a1.eval (.const x) = x := fun _ => rfl); (have ef : ∀ x, a1.eval (.func x) = .func (.func x) #[] #[] := fun _ => rfl); generalize a1.eval = ρ at *
          clear h0
          go_simp <;> (intros; first | (exfalso; omega) | rfl)
        · intro vt p hI0 hp
          have hI := Roll.inw_pre (by decide) rfl hI0
          clear hI0
          have h1 : (vt 1) = .slice m.ba m.bn m.bc := hp 1 (by simp [Lst4])
          have e29 : (Roll.putD Dst4 vt [1] b0).eval (.tmp 29) = .slice m.ba m.bn m.bc := (Roll.eval_new 1 rfl (by decide) (by decide) (by omega)).trans h1
          clear hp hlv hN
          unfold Roll.Goes
          simp only [Lst4, List.getD_cons_zero, List.getD_cons_succ]
          generalize Roll.putD Dst4 vt [1] b0 = a1 at *
          refine Roll.goes_call 33 #[.slice m.ba m.bn m.bc, .int .i64 70] p rfl (by have ec : ∀ x, a1.eval (.const x) = x := fun _ => rfl; have ef : ∀ x, a1.eval (.func x) = .func (.func x) #[] #[] := fun _ => rfl; generalize a1.eval = ρ at *; go_simp) ?_
          refine (few_any _ m.ba m.bn m.bc 70 m.b p (HMB.out.kept (Kept.of_below (fun _ => False) hI) (fun _ _ _ h => h)) (by omega)).mono ?_
          rintro y p2 ⟨v2, rfl, hm2⟩
          obtain ⟨a2, c2, rfl, hb2⟩ := hm2.bs
          obtain ⟨_, _, _, hbl⟩ := hm2
          rw [show m.b.take 70 = bf from HBF.out.symm] at hb2 ⊢
          exact ⟨_, rfl, Roll.outw_pre (by decide) rfl (hI.trans (hbl.mono hI.size)) (Kept.of_below _ hbl), a2, c2, rfl, hb2.dom (fun x hx => Nat.le_trans hI.size hx)⟩
        · intro vt p hI0 hp
          have hI := Roll.inw_pure (by decide) rfl hI0
          clear hI0
          have e5 : (Roll.putD Dst4 vt [] b0).eval (.tmp 5) = .pointer (some ⟨gb, 0, none⟩) := (Roll.eval_old rfl).trans (hlv.at 0 (5, .pointer (some ⟨gb, 0, none⟩)) rfl)
          clear hp hlv hN
          unfold Roll.Goes
          simp only [Lst4, List.getD_cons_zero, List.getD_cons_succ]
          generalize Roll.putD Dst4 vt [] b0 = a1 at *
          refine Roll.goes_val (w' := p) (.pointer (some ⟨gb, 2, none⟩)) rfl ?_ ⟨(Roll.outw_pure (by decide) rfl), rfl⟩
          (have ec : ∀ x, a1.eval (.const x) = x := fun _ => rfl); (have ef : ∀ x, a1.eval (.func x) = .func (.func x) #[] #[] := fun _ => rfl); generalize a1.eval = ρ at *
          skip
          go_simp <;> (intros; first | (exfalso; omega) | rfl)
        · intro vt p hI0 hp
          have hI := Roll.inw_pure (by decide) rfl hI0
          clear hI0
          have h3 : (vt 3) = .pointer (some ⟨gb, 2, none⟩) := hp 3 (by simp [Lst4])
          have e31 : (Roll.putD Dst4 vt [3] b0).eval (.tmp 31) = .pointer (some ⟨gb, 2, none⟩) := (Roll.eval_new 3 rfl (by decide) (by decide) (by omega)).trans h3
          clear hp hlv hN
          unfold Roll.Goes
          simp only [Lst4, List.getD_cons_zero, List.getD_cons_succ]
          generalize Roll.putD Dst4 vt [3] b0 = a1 at *
          have cf : p.cell? ⟨gb, 2, none⟩ = some (.int .i64 m.n) := (hI.cell (p := ⟨gb, 2, none⟩) HGQ.out).trans C2.out
          refine Roll.goes_val (w' := p) (.int .i64 m.n) rfl ?_ ⟨(Roll.outw_pure (by decide) rfl), rfl⟩
          (have ec : ∀ x, a1.eval (.const x) = x := fun _ => rfl); (have ef : ∀ x, a1.eval (.func x) = .func (.func x) #[] #[] := fun _ => rfl); generalize a1.eval = ρ at *
          clear h3
          go_simp <;> (intros; first | (exfalso; omega) | rfl)
        · intro vt p hI0 hp
          have hI := Roll.inw_pre (by decide) rfl hI0
          clear hI0
          have h2 : ∃ a2 c2, (vt 2) = .slice a2 bf.length c2 ∧ Bs (fun x => q.heap.size ≤ x) p a2 bf.length c2 bf := hp 2 (by simp [Lst4])
          have h4 : (vt 4) = .int .i64 m.n := hp 4 (by simp [Lst4])
          have e30 : (Roll.putD Dst4 vt [2, 4] b0).eval (.tmp 30) = vt 2 := (Roll.eval_new 2 rfl (by decide) (by decide) (by omega))
          have e32 : (Roll.putD Dst4 vt [2, 4] b0).eval (.tmp 32) = .int .i64 m.n := (Roll.eval_new 4 rfl (by decide) (by decide) (by omega)).trans h4
          clear hp hlv hN
          unfold Roll.Goes
          simp only [Lst4, List.getD_cons_zero, List.getD_cons_succ]
          generalize Roll.putD Dst4 vt [2, 4] b0 = a1 at *
          obtain ⟨a2, c2, hv2, hb2⟩ := h2
          rw [hv2] at e30
          refine Roll.goes_call 32 #[.slice a2 bf.length c2, .int .i64 m.n] p rfl (by have ec : ∀ x, a1.eval (.const x) = x := fun _ => rfl; have ef : ∀ x, a1.eval (.func x) = .func (.func x) #[] #[] := fun _ => rfl; have hbs := trivial; generalize a1.eval = ρ at *; go_simp <;> (intros; first | (exfalso; omega) | rfl)) ?_
          refine (fill_any m.n HMN.out.1 HMN.out.2 p hb2).mono ?_
          rintro y p2 ⟨v3, l3, rfl, hl3, hm3⟩
          obtain ⟨a3, c3, rfl, hb3⟩ := hm3.bs
          obtain ⟨_, _, _, hbl⟩ := hm3
          rw [hl3] at hb3 ⊢
          exact ⟨_, rfl, Roll.outw_pre (by decide) rfl (hI.trans (hbl.mono hI.size)) (Kept.of_below _ hbl), a3, c3, l3, rfl, hl3, hb3.dom (fun x hx => Nat.le_trans hI.size hx)⟩
        · intro vt p hI0 hp
          have hI := Roll.inw_k0 rfl hI0
          clear hI0
          have h5 : ∃ a2 c2 l2, (vt 5) = .slice a2 64 c2 ∧ l2.length = 64 ∧ Bs (fun x => q.heap.size ≤ x) p a2 64 c2 l2 := hp 5 (by simp [Lst4])
          have e33 : (Roll.putD Dst4 vt [5] b0).eval (.tmp 33) = vt 5 := (Roll.eval_new 5 rfl (by decide) (by decide) (by omega))
          clear hp hlv hN
          unfold Roll.Goes
          simp only [Lst4, List.getD_cons_zero, List.getD_cons_succ]
          generalize Roll.putD Dst4 vt [5] b0 = a1 at *
          obtain ⟨a3, c3, l3, hv3, hl3, hb3⟩ := h5
          rw [hv3] at e33
          refine Roll.goes_val (w' := p) (.slice a3 64 c3) rfl (by have ec : ∀ x, a1.eval (.const x) = x := fun _ => rfl; have ef : ∀ x, a1.eval (.func x) = .func (.func x) #[] #[] := fun _ => rfl; have hbs := trivial; generalize a1.eval = ρ at *; go_simp <;> (intros; first | (exfalso; omega) | rfl)) ⟨Roll.outw_k0 rfl hI (Kept.refl _ _), a3, c3, l3, rfl, hl3, hb3⟩
      · intro vt p hI hR
        have h0 : (vt 0) = .pointer (some ⟨gb, 3, none⟩) := hR 0 (by omega)
        have h1 : (vt 1) = .slice m.ba m.bn m.bc := hR 1 (by omega)
        have h2 : ∃ a2 c2, (vt 2) = .slice a2 bf.length c2 ∧ Bs (fun x => q.heap.size ≤ x) p a2 bf.length c2 bf := hR 2 (by omega)
        have h3 : (vt 3) = .pointer (some ⟨gb, 2, none⟩) := hR 3 (by omega)
        have h4 : (vt 4) = .int .i64 m.n := hR 4 (by omega)
        have h5 : ∃ a2 c2 l2, (vt 5) = .slice a2 64 c2 ∧ l2.length = 64 ∧ Bs (fun x => q.heap.size ≤ x) p a2 64 c2 l2 := hR 5 (by omega)
        have h6 : ∃ a2 c2 l2, (vt 6) = .slice a2 64 c2 ∧ l2.length = 64 ∧ Bs (fun x => q.heap.size ≤ x) p a2 64 c2 l2 := hR 6 (by omega)
        clear hR
        simp only [List.range_succ, List.range_zero, List.nil_append, List.cons_append, Roll.putD, Act.put, List.getD_cons_zero, List.getD_cons_succ, List.setIfInBounds_toArray, List.set_cons_zero, List.set_cons_succ, List.drop_succ_cons, List.drop_zero, Dst4]
        simp only [h0, h1, h3, h4]
        clear h0 h1 h3 h4
        obtain ⟨a2, c2, l2, hv2, hl2, hb2⟩ := h6
        simp only [hv2]
        obtain ⟨ev, d2, B, z1, z2, z3, z4, z5, z6⟩ := writes_both HL.out HOK.out HNN.out (k : Int) l2 (by omega)
        rw [hl2] at z5 z6
        have HD2L := Lib.hid z1
        have HD2O := Lib.hid z2
        have HBQ := Lib.hid z4
        have HW := Lib.hid z5
        have HR := Lib.hid z6
        have HPI := Lib.hid hI
        have HBU := Lib.hid hb2
        clear h2 h5 hI hl2 hb2 hv2 z1 z2 z3 z4 z5 z6
        go_wp2_with (first
          | (have hB := HPI; go_at_call 31; refine (HW.out p a2 c2 _ hB.out HBU.out).mono ?_; rintro e w8 ⟨rfl, hk, hl⟩; have HL8 := Lib.hid hl; have HB8 := Lib.hid (HBU.out.kept hk (fun x _ hx hb => by have := HBQ.out x hb; omega)); clear hk hl hB HPI)
          | (have hL := HL8.out; go_at_call 46; refine (HR.out w8 a2 c2 _ hL HB8.out).mono ?_; rintro e w9 ⟨rfl, hl⟩; have HL9 := Lib.hid hl; clear hl hL))
        go_meet
        exact ⟨by first | rfl | simp, d2, HL9.out, HD2L.out, HD2O.out⟩
  case rest =>
    obtain ⟨rfl, d2, hl2, hdl, hdo⟩ := hcut
    have HL2_ := Lib.hid hl2
    have HD2L := Lib.hid hdl
    have HD2O := Lib.hid hdo
    have HSN2 : Hid (d2.S.length = SN) := Lib.hid (by rw [hdl]; exact HSN.out)
    clear c0 c1 c2_ c3 c4 CV HGR HCO HL C1 C2 C3 HMB HGQ hl2 hdl hdo
    go_upto_region 26 with fail
    rename World => u
    have HL2 : Hid (Lv w0 u (LL gb m gr g d2 d2)) := HL2_
    obtain ⟨gs, so, co, hgr, cV, cO, hc1, hc2⟩ := HL2.out.refc (i := 1) (g := gr) (d := d2) rfl (by rw [HSN2.out]; omega)
    obtain ⟨on, hon⟩ : ∃ on, d2.on = on := ⟨_, rfl⟩
    rw [HSN2.out] at cV hc1
    rw [hon] at cO
    have HON := Lib.hid hon
    have CV := Lib.hid cV
    have CO := Lib.hid cO
    have HGR := Lib.hid hgr
    have HCO : Hid (SN ≤ co ∧ co ≤ 9223372036854775807) := Lib.hid ⟨hc1, hc2⟩
    clear cV cO hgr hc1 hc2 hon
    refine Roll.region_w 26 144 Dst26 Lst26 [(0, .pointer (some ⟨g, 0, none⟩)), (1, .pointer (some ⟨gr, 0, none⟩)), (9, .bool true)] 25 [true, true, true, true, true, true, true, true, true, true, true, true, true, true, true, true, true, true, true, true, true, true, true, true, true, false] (fun p => Below u.heap.size u p) (fun vv p => Below u.heap.size u p) (fun p => Below u.heap.size u p) (Kept (fun _ => False)) [fun vv p => (vv 0) = .pointer (some ⟨g, 0, none⟩), fun vv p => (vv 1) = .pointer (some ⟨gr, 0, none⟩), fun vv p => (vv 2) = .bool true, fun vv p => (vv 3) = .bool true, fun vv p => (vv 4) = .pointer (some ⟨g, 0, none⟩), fun vv p => (vv 5) = .bool on, fun vv p => (vv 6) = .pointer (some ⟨gr, 0, none⟩), fun vv p => (vv 7) = .pointer (some ⟨gr, 0, none⟩), fun vv p => (vv 8) = .pointer (some ⟨gr, 1, none⟩), fun vv p => (vv 9) = .bool (!on), fun vv p => (vv 10) = .bool on, fun vv p => (vv 11) = .bool true, fun vv p => (vv 12) = .bool true, fun vv p => (vv 13) = .bool true, fun vv p => (vv 14) = .pointer (some ⟨g, 0, none⟩), fun vv p => (vv 15) = .int .i64 (SN : Int), fun vv p => (vv 16) = .pointer (some ⟨gr, 0, none⟩), fun vv p => (vv 17) = .pointer (some ⟨gr, 0, none⟩), fun vv p => (vv 18) = .pointer (some ⟨gr, 0, none⟩), fun vv p => (vv 19) = .slice (some ⟨gs, so, none⟩) SN co, fun vv p => (vv 20) = .int .i64 (SN : Int), fun vv p => (vv 21) = .bool true, fun vv p => (vv 22) = .bool true, fun vv p => (vv 23) = .pointer (some ⟨g, 0, none⟩), fun vv p => (vv 24) = .pointer (some ⟨gr, 0, none⟩), fun vv p => (vv 25) = .bool true] (by kernel_rfl) (by kernel_rfl) rfl ⟨rfl, rfl, rfl, trivial⟩ ((Below.refl _ _).drew) (by decide) (by kernel_rfl) (fun _ h => h) (fun _ _ h => h) (fun _ => Kept.refl _ _) ?_ ?_ ?_
    · exact ⟨fun _ _ _ _ h => h, fun _ _ _ _ h => h, fun _ _ _ _ h => h, fun _ _ _ _ h => h, fun _ _ _ _ h => h, fun _ _ _ _ h => h, fun _ _ _ _ h => h, fun _ _ _ _ h => h, fun _ _ _ _ h => h, fun _ _ _ _ h => h, fun _ _ _ _ h => h, fun _ _ _ _ h => h, fun _ _ _ _ h => h, fun _ _ _ _ h => h, fun _ _ _ _ h => h, fun _ _ _ _ h => h, fun _ _ _ _ h => h, fun _ _ _ _ h => h, fun _ _ _ _ h => h, fun _ _ _ _ h => h, fun _ _ _ _ h => h, fun _ _ _ _ h => h, fun _ _ _ _ h => h, fun _ _ _ _ h => h, fun _ _ _ _ h => h, fun _ _ _ _ h => h, trivial⟩
    · intro b0 hN hlv
      refine ⟨?_, ?_, ?_, ?_, ?_, ?_, ?_, ?_, ?_, ?_, ?_, ?_, ?_, ?_, ?_, ?_, ?_, ?_, ?_, ?_, ?_, ?_, ?_, ?_, ?_, ?_, trivial⟩
      · intro vr p hI0 hp
        have hI := Roll.inw_pure (by decide) rfl hI0
        clear hI0
        have e0 : (Roll.putD Dst26 vr [] b0).eval (.tmp 0) = .pointer (some ⟨g, 0, none⟩) := (Roll.eval_old rfl).trans (hlv.at 0 (0, .pointer (some ⟨g, 0, none⟩)) rfl)
        clear hp hlv hN
        unfold Roll.Goes
        simp only [Lst26, List.getD_cons_zero, List.getD_cons_succ]
        generalize Roll.putD Dst26 vr [] b0 = a1 at *
        refine Roll.goes_val (w' := p) (.pointer (some ⟨g, 0, none⟩)) rfl ?_ ⟨(Roll.outw_pure (by decide) rfl), rfl⟩
        (have ec : ∀ x, a1.eval (.const x) = x := fun _ => rfl); (have ef : ∀ x, a1.eval (.func x) = .func (.func x) #[] #[] := fun _ => rfl); generalize a1.eval = ρ at *
        skip
        go_simp <;> (intros; first | (exfalso; omega) | rfl)
      · intro vr p hI0 hp
        have hI := Roll.inw_pure (by decide) rfl hI0
        clear hI0
        have e1 : (Roll.putD Dst26 vr [] b0).eval (.tmp 1) = .pointer (some ⟨gr, 0, none⟩) := (Roll.eval_old rfl).trans (hlv.at 1 (1, .pointer (some ⟨gr, 0, none⟩)) rfl)
        clear hp hlv hN
        unfold Roll.Goes
        simp only [Lst26, List.getD_cons_zero, List.getD_cons_succ]
        generalize Roll.putD Dst26 vr [] b0 = a1 at *
        refine Roll.goes_val (w' := p) (.pointer (some ⟨gr, 0, none⟩)) rfl ?_ ⟨(Roll.outw_pure (by decide) rfl), rfl⟩
        (have ec : ∀ x, a1.eval (.const x) = x := fun _ => rfl); (have ef : ∀ x, a1.eval (.func x) = .func (.func x) #[] #[] := fun _ => rfl); generalize a1.eval = ρ at *
        skip
        go_simp <;> (intros; first | (exfalso; omega) | rfl)
      · intro vr p hI0 hp
        have hI := Roll.inw_pure (by decide) rfl hI0
        clear hI0
        have e9 : (Roll.putD Dst26 vr [] b0).eval (.tmp 9) = .bool true := (Roll.eval_old rfl).trans (hlv.at 2 (9, .bool true) rfl)
        clear hp hlv hN
        unfold Roll.Goes
        simp only [Lst26, List.getD_cons_zero, List.getD_cons_succ]
        generalize Roll.putD Dst26 vr [] b0 = a1 at *
        refine Roll.goes_val (w' := p) (.bool true) rfl ?_ ⟨(Roll.outw_pure (by decide) rfl), rfl⟩
        (have ec : ∀ x, a1.eval (.const x) = x := fun _ => rfl); (have ef : ∀ x, a1.eval (.func x) = .func (.func x) #[] #[] := fun _ => rfl); generalize a1.eval = ρ at *
        skip
        go_simp <;> (intros; first | (exfalso; omega) | rfl)
      · intro vr p hI0 hp
        have hI := Roll.inw_pure (by decide) rfl hI0
        clear hI0
        have h2 : (vr 2) = .bool true := hp 2 (by simp [Lst26])
        have e123 : (Roll.putD Dst26 vr [2] b0).eval (.tmp 123) = .bool true := (Roll.eval_new 2 rfl (by decide) (by decide) (by omega)).trans h2
        clear hp hlv hN
        unfold Roll.Goes
        simp only [Lst26, List.getD_cons_zero, List.getD_cons_succ]
        generalize Roll.putD Dst26 vr [2] b0 = a1 at *
        refine Roll.goes_val (w' := p) (.bool true) rfl ?_ ⟨(Roll.outw_pure (by decide) rfl), rfl⟩
        (have ec : ∀ x, a1.eval (.const x) = x := fun _ => rfl); (have ef : ∀ x, a1.eval (.func x) = .func (.func x) #[] #[] := fun _ => rfl); generalize a1.eval = ρ at *
        clear h2
        go_simp <;> (intros; first | (exfalso; omega) | rfl)
      · intro vr p hI0 hp
        have hI := Roll.inw_pure (by decide) rfl hI0
        clear hI0
        have h3 : (vr 3) = .bool true := hp 3 (by simp [Lst26])
        have e0 : (Roll.putD Dst26 vr [3] b0).eval (.tmp 0) = .pointer (some ⟨g, 0, none⟩) := (Roll.eval_old rfl).trans (hlv.at 0 (0, .pointer (some ⟨g, 0, none⟩)) rfl)
        clear hp hlv hN
        refine ⟨fun hg => ?_, fun hg => absurd h3 hg⟩
        clear hg
        unfold Roll.Goes
        simp only [Lst26, List.getD_cons_zero, List.getD_cons_succ]
        generalize Roll.putD Dst26 vr [3] b0 = a1 at *
        refine Roll.goes_val (w' := p) (.pointer (some ⟨g, 0, none⟩)) rfl ?_ ⟨(Roll.outw_pure (by decide) rfl), rfl⟩
        (have ec : ∀ x, a1.eval (.const x) = x := fun _ => rfl); (have ef : ∀ x, a1.eval (.func x) = .func (.func x) #[] #[] := fun _ => rfl); generalize a1.eval = ρ at *
        clear h3
        go_simp <;> (intros; first | (exfalso; omega) | rfl)
      · intro vr p hI0 hp
        have hI := Roll.inw_pure (by decide) rfl hI0
        clear hI0
        have h4 : (vr 4) = .pointer (some ⟨g, 0, none⟩) := hp 4 (by simp [Lst26])
        have h3 : (vr 3) = .bool true := hp 3 (by simp [Lst26])
        have e125 : (Roll.putD Dst26 vr [4, 3] b0).eval (.tmp 125) = .pointer (some ⟨g, 0, none⟩) := (Roll.eval_new 4 rfl (by decide) (by decide) (by omega)).trans h4
        clear hp hlv hN
        refine ⟨fun hg => ?_, fun hg => absurd h3 hg⟩
        clear hg
        unfold Roll.Goes
        simp only [Lst26, List.getD_cons_zero, List.getD_cons_succ]
        generalize Roll.putD Dst26 vr [4, 3] b0 = a1 at *
        refine Roll.goes_call 34 #[.pointer (some ⟨g, 0, none⟩)] p rfl (by have ec : ∀ x, a1.eval (.const x) = x := fun _ => rfl; have ef : ∀ x, a1.eval (.func x) = .func (.func x) #[] #[] := fun _ => rfl; generalize a1.eval = ρ at *; go_simp) ?_
        refine (on_lv (HL2.out.below hI) (i := 2) (d := d2) rfl).mono ?_
        rintro y p2 ⟨rfl, rfl⟩
        exact ⟨_, rfl, (Roll.outw_pure (by decide) rfl), by show Value.bool _ = _; rw [HON.out]⟩
      · intro vr p hI0 hp
        have hI := Roll.inw_pure (by decide) rfl hI0
        clear hI0
        have h3 : (vr 3) = .bool true := hp 3 (by simp [Lst26])
        have e1 : (Roll.putD Dst26 vr [3] b0).eval (.tmp 1) = .pointer (some ⟨gr, 0, none⟩) := (Roll.eval_old rfl).trans (hlv.at 1 (1, .pointer (some ⟨gr, 0, none⟩)) rfl)
        clear hp hlv hN
        refine ⟨fun hg => ?_, fun hg => absurd h3 hg⟩
        clear hg
        unfold Roll.Goes
        simp only [Lst26, List.getD_cons_zero, List.getD_cons_succ]
        generalize Roll.putD Dst26 vr [3] b0 = a1 at *
        refine Roll.goes_val (w' := p) (.pointer (some ⟨gr, 0, none⟩)) rfl ?_ ⟨(Roll.outw_pure (by decide) rfl), rfl⟩
        (have ec : ∀ x, a1.eval (.const x) = x := fun _ => rfl); (have ef : ∀ x, a1.eval (.func x) = .func (.func x) #[] #[] := fun _ => rfl); generalize a1.eval = ρ at *
        clear h3
        go_simp <;> (intros; first | (exfalso; omega) | rfl)
      · intro vr p hI0 hp
        have hI := Roll.inw_pure (by decide) rfl hI0
        clear hI0
        have h6 : (vr 6) = .pointer (some ⟨gr, 0, none⟩) := hp 6 (by simp [Lst26])
        have h3 : (vr 3) = .bool true := hp 3 (by simp [Lst26])
        have e127 : (Roll.putD Dst26 vr [6, 3] b0).eval (.tmp 127) = .pointer (some ⟨gr, 0, none⟩) := (Roll.eval_new 6 rfl (by decide) (by decide) (by omega)).trans h6
        clear hp hlv hN
        refine ⟨fun hg => ?_, fun hg => absurd h3 hg⟩
        clear hg
        unfold Roll.Goes
        simp only [Lst26, List.getD_cons_zero, List.getD_cons_succ]
        generalize Roll.putD Dst26 vr [6, 3] b0 = a1 at *
        refine Roll.goes_val (w' := p) (.pointer (some ⟨gr, 0, none⟩)) rfl ?_ ⟨(Roll.outw_pure (by decide) rfl), rfl⟩
        (have ec : ∀ x, a1.eval (.const x) = x := fun _ => rfl); (have ef : ∀ x, a1.eval (.func x) = .func (.func x) #[] #[] := fun _ => rfl); generalize a1.eval = ρ at *
        clear h6 h3
        go_simp <;> (intros; first | (exfalso; omega) | rfl)
      · intro vr p hI0 hp
        have hI := Roll.inw_pure (by decide) rfl hI0
        clear hI0
        have h7 : (vr 7) = .pointer (some ⟨gr, 0, none⟩) := hp 7 (by simp [Lst26])
        have h3 : (vr 3) = .bool true := hp 3 (by simp [Lst26])
        have e128 : (Roll.putD Dst26 vr [7, 3] b0).eval (.tmp 128) = .pointer (some ⟨gr, 0, none⟩) := (Roll.eval_new 7 rfl (by decide) (by decide) (by omega)).trans h7
        clear hp hlv hN
        refine ⟨fun hg => ?_, fun hg => absurd h3 hg⟩
        clear hg
        unfold Roll.Goes
        simp only [Lst26, List.getD_cons_zero, List.getD_cons_succ]
        generalize Roll.putD Dst26 vr [7, 3] b0 = a1 at *
        refine Roll.goes_val (w' := p) (.pointer (some ⟨gr, 1, none⟩)) rfl ?_ ⟨(Roll.outw_pure (by decide) rfl), rfl⟩
        (have ec : ∀ x, a1.eval (.const x) = x := fun _ => rfl); (have ef : ∀ x, a1.eval (.func x) = .func (.func x) #[] #[] := fun _ => rfl); generalize a1.eval = ρ at *
        clear h7 h3
        go_simp <;> (intros; first | (exfalso; omega) | rfl)
      · intro vr p hI0 hp
        have hI := Roll.inw_pure (by decide) rfl hI0
        clear hI0
        have h8 : (vr 8) = .pointer (some ⟨gr, 1, none⟩) := hp 8 (by simp [Lst26])
        have h3 : (vr 3) = .bool true := hp 3 (by simp [Lst26])
        have e129 : (Roll.putD Dst26 vr [8, 3] b0).eval (.tmp 129) = .pointer (some ⟨gr, 1, none⟩) := (Roll.eval_new 8 rfl (by decide) (by decide) (by omega)).trans h8
        clear hp hlv hN
        refine ⟨fun hg => ?_, fun hg => absurd h3 hg⟩
        clear hg
        unfold Roll.Goes
        simp only [Lst26, List.getD_cons_zero, List.getD_cons_succ]
        generalize Roll.putD Dst26 vr [8, 3] b0 = a1 at *
        have cf : p.cell? ⟨gr, 1, none⟩ = some (.bool (!on)) := (hI.cell (p := ⟨gr, 1, none⟩) HGR.out).trans CO.out
        refine Roll.goes_val (w' := p) (.bool (!on)) rfl ?_ ⟨(Roll.outw_pure (by decide) rfl), rfl⟩
        (have ec : ∀ x, a1.eval (.const x) = x := fun _ => rfl); (have ef : ∀ x, a1.eval (.func x) = .func (.func x) #[] #[] := fun _ => rfl); generalize a1.eval = ρ at *
        clear h8 h3
        go_simp <;> (intros; first | (exfalso; omega) | rfl)
      · intro vr p hI0 hp
        have hI := Roll.inw_pure (by decide) rfl hI0
        clear hI0
        have h9 : (vr 9) = .bool (!on) := hp 9 (by simp [Lst26])
        have h3 : (vr 3) = .bool true := hp 3 (by simp [Lst26])
        have e130 : (Roll.putD Dst26 vr [9, 3] b0).eval (.tmp 130) = .bool (!on) := (Roll.eval_new 9 rfl (by decide) (by decide) (by omega)).trans h9
        clear hp hlv hN
        refine ⟨fun hg => ?_, fun hg => absurd h3 hg⟩
        clear hg
        unfold Roll.Goes
        simp only [Lst26, List.getD_cons_zero, List.getD_cons_succ]
        generalize Roll.putD Dst26 vr [9, 3] b0 = a1 at *
        refine Roll.goes_val (w' := p) (.bool on) rfl ?_ ⟨(Roll.outw_pure (by decide) rfl), rfl⟩
        (have ec : ∀ x, a1.eval (.const x) = x := fun _ => rfl); (have ef : ∀ x, a1.eval (.func x) = .func (.func x) #[] #[] := fun _ => rfl); generalize a1.eval = ρ at *
        clear h9 h3
        go_simp <;> (intros; first | (exfalso; omega) | rfl)
      · intro vr p hI0 hp
        have hI := Roll.inw_pure (by decide) rfl hI0
        clear hI0
        have h5 : (vr 5) = .bool on := hp 5 (by simp [Lst26])
        have h10 : (vr 10) = .bool on := hp 10 (by simp [Lst26])
        have h3 : (vr 3) = .bool true := hp 3 (by simp [Lst26])
        have e126 : (Roll.putD Dst26 vr [5, 10, 3] b0).eval (.tmp 126) = .bool on := (Roll.eval_new 5 rfl (by decide) (by decide) (by omega)).trans h5
        have e131 : (Roll.putD Dst26 vr [5, 10, 3] b0).eval (.tmp 131) = .bool on := (Roll.eval_new 10 rfl (by decide) (by decide) (by omega)).trans h10
        clear hp hlv hN
        refine ⟨fun hg => ?_, fun hg => absurd h3 hg⟩
        clear hg
        unfold Roll.Goes
        simp only [Lst26, List.getD_cons_zero, List.getD_cons_succ]
        generalize Roll.putD Dst26 vr [5, 10, 3] b0 = a1 at *
        refine Roll.goes_val (w' := p) (.bool true) rfl ?_ ⟨(Roll.outw_pure (by decide) rfl), rfl⟩
        (have ec : ∀ x, a1.eval (.const x) = x := fun _ => rfl); (have ef : ∀ x, a1.eval (.func x) = .func (.func x) #[] #[] := fun _ => rfl); generalize a1.eval = ρ at *
        clear h5 h10 h3
        go_simp <;> (intros; first | (exfalso; omega) | rfl)
      · intro vr p hI0 hp
        have hI := Roll.inw_pure (by decide) rfl hI0
        clear hI0
        have h3 : (vr 3) = .bool true := hp 3 (by simp [Lst26])
        have h11 : (vr 11) = .bool true := hp 11 (by simp [Lst26])
        have e124 : (Roll.putD Dst26 vr [3, 11] b0).eval (.tmp 124) = .bool true := (Roll.eval_new 3 rfl (by decide) (by decide) (by omega)).trans h3
        have e132 : (Roll.putD Dst26 vr [3, 11] b0).eval (.tmp 132) = .bool true := (Roll.eval_new 11 rfl (by decide) (by decide) (by omega)).trans h11
        clear hp hlv hN
        unfold Roll.Goes
        simp only [Lst26, List.getD_cons_zero, List.getD_cons_succ]
        generalize Roll.putD Dst26 vr [3, 11] b0 = a1 at *
        refine Roll.goes_val (w' := p) (.bool true) rfl ?_ ⟨(Roll.outw_pure (by decide) rfl), rfl⟩
        (have ec : ∀ x, a1.eval (.const x) = x := fun _ => rfl); (have ef : ∀ x, a1.eval (.func x) = .func (.func x) #[] #[] := fun _ => rfl); generalize a1.eval = ρ at *
        clear h3 h11
        go_simp <;> (intros; first | (exfalso; omega) | rfl)
      · intro vr p hI0 hp
        have hI := Roll.inw_pure (by decide) rfl hI0
        clear hI0
        have h12 : (vr 12) = .bool true := hp 12 (by simp [Lst26])
        have e133 : (Roll.putD Dst26 vr [12] b0).eval (.tmp 133) = .bool true := (Roll.eval_new 12 rfl (by decide) (by decide) (by omega)).trans h12
        clear hp hlv hN
        unfold Roll.Goes
        simp only [Lst26, List.getD_cons_zero, List.getD_cons_succ]
        generalize Roll.putD Dst26 vr [12] b0 = a1 at *
        refine Roll.goes_val (w' := p) (.bool true) rfl ?_ ⟨(Roll.outw_pure (by decide) rfl), rfl⟩
        (have ec : ∀ x, a1.eval (.const x) = x := fun _ => rfl); (have ef : ∀ x, a1.eval (.func x) = .func (.func x) #[] #[] := fun _ => rfl); generalize a1.eval = ρ at *
        clear h12
        go_simp <;> (intros; first | (exfalso; omega) | rfl)
      · intro vr p hI0 hp
        have hI := Roll.inw_pure (by decide) rfl hI0
        clear hI0
        have h13 : (vr 13) = .bool true := hp 13 (by simp [Lst26])
        have e0 : (Roll.putD Dst26 vr [13] b0).eval (.tmp 0) = .pointer (some ⟨g, 0, none⟩) := (Roll.eval_old rfl).trans (hlv.at 0 (0, .pointer (some ⟨g, 0, none⟩)) rfl)
        clear hp hlv hN
        refine ⟨fun hg => ?_, fun hg => absurd h13 hg⟩
        clear hg
        unfold Roll.Goes
        simp only [Lst26, List.getD_cons_zero, List.getD_cons_succ]
        generalize Roll.putD Dst26 vr [13] b0 = a1 at *
        refine Roll.goes_val (w' := p) (.pointer (some ⟨g, 0, none⟩)) rfl ?_ ⟨(Roll.outw_pure (by decide) rfl), rfl⟩
        (have ec : ∀ x, a1.eval (.const x) = x := fun _ => rfl); (have ef : ∀ x, a1.eval (.func x) = .func (.func x) #[] #[] := fun _ => rfl); generalize a1.eval = ρ at *
        clear h13
        go_simp <;> (intros; first | (exfalso; omega) | rfl)
      · intro vr p hI0 hp
        have hI := Roll.inw_pure (by decide) rfl hI0
        clear hI0
        have h14 : (vr 14) = .pointer (some ⟨g, 0, none⟩) := hp 14 (by simp [Lst26])
        have h13 : (vr 13) = .bool true := hp 13 (by simp [Lst26])
        have e135 : (Roll.putD Dst26 vr [14, 13] b0).eval (.tmp 135) = .pointer (some ⟨g, 0, none⟩) := (Roll.eval_new 14 rfl (by decide) (by decide) (by omega)).trans h14
        clear hp hlv hN
        refine ⟨fun hg => ?_, fun hg => absurd h13 hg⟩
        clear hg
        unfold Roll.Goes
        simp only [Lst26, List.getD_cons_zero, List.getD_cons_succ]
        generalize Roll.putD Dst26 vr [14, 13] b0 = a1 at *
        refine Roll.goes_call 20 #[.pointer (some ⟨g, 0, none⟩)] p rfl (by have ec : ∀ x, a1.eval (.const x) = x := fun _ => rfl; have ef : ∀ x, a1.eval (.func x) = .func (.func x) #[] #[] := fun _ => rfl; generalize a1.eval = ρ at *; go_simp) ?_
        refine (len_lv (HL2.out.below hI) (i := 2) (d := d2) rfl).mono ?_
        rintro y p2 ⟨rfl, rfl⟩
        exact ⟨_, rfl, (Roll.outw_pure (by decide) rfl), by show Value.int .i64 _ = _; rw [HSN2.out]⟩
      · intro vr p hI0 hp
        have hI := Roll.inw_pure (by decide) rfl hI0
        clear hI0
        have h13 : (vr 13) = .bool true := hp 13 (by simp [Lst26])
        have e1 : (Roll.putD Dst26 vr [13] b0).eval (.tmp 1) = .pointer (some ⟨gr, 0, none⟩) := (Roll.eval_old rfl).trans (hlv.at 1 (1, .pointer (some ⟨gr, 0, none⟩)) rfl)
        clear hp hlv hN
        refine ⟨fun hg => ?_, fun hg => absurd h13 hg⟩
        clear hg
        unfold Roll.Goes
        simp only [Lst26, List.getD_cons_zero, List.getD_cons_succ]
        generalize Roll.putD Dst26 vr [13] b0 = a1 at *
        refine Roll.goes_val (w' := p) (.pointer (some ⟨gr, 0, none⟩)) rfl ?_ ⟨(Roll.outw_pure (by decide) rfl), rfl⟩
        (have ec : ∀ x, a1.eval (.const x) = x := fun _ => rfl); (have ef : ∀ x, a1.eval (.func x) = .func (.func x) #[] #[] := fun _ => rfl); generalize a1.eval = ρ at *
        clear h13
        go_simp <;> (intros; first | (exfalso; omega) | rfl)
      · intro vr p hI0 hp
        have hI := Roll.inw_pure (by decide) rfl hI0
        clear hI0
        have h16 : (vr 16) = .pointer (some ⟨gr, 0, none⟩) := hp 16 (by simp [Lst26])
        have h13 : (vr 13) = .bool true := hp 13 (by simp [Lst26])
        have e137 : (Roll.putD Dst26 vr [16, 13] b0).eval (.tmp 137) = .pointer (some ⟨gr, 0, none⟩) := (Roll.eval_new 16 rfl (by decide) (by decide) (by omega)).trans h16
        clear hp hlv hN
        refine ⟨fun hg => ?_, fun hg => absurd h13 hg⟩
        clear hg
        unfold Roll.Goes
        simp only [Lst26, List.getD_cons_zero, List.getD_cons_succ]
        generalize Roll.putD Dst26 vr [16, 13] b0 = a1 at *
        refine Roll.goes_val (w' := p) (.pointer (some ⟨gr, 0, none⟩)) rfl ?_ ⟨(Roll.outw_pure (by decide) rfl), rfl⟩
        (have ec : ∀ x, a1.eval (.const x) = x := fun _ => rfl); (have ef : ∀ x, a1.eval (.func x) = .func (.func x) #[] #[] := fun _ => rfl); generalize a1.eval = ρ at *
        clear h16 h13
        go_simp <;> (intros; first | (exfalso; omega) | rfl)
      · intro vr p hI0 hp
        have hI := Roll.inw_pure (by decide) rfl hI0
        clear hI0
        have h17 : (vr 17) = .pointer (some ⟨gr, 0, none⟩) := hp 17 (by simp [Lst26])
        have h13 : (vr 13) = .bool true := hp 13 (by simp [Lst26])
        have e138 : (Roll.putD Dst26 vr [17, 13] b0).eval (.tmp 138) = .pointer (some ⟨gr, 0, none⟩) := (Roll.eval_new 17 rfl (by decide) (by decide) (by omega)).trans h17
        clear hp hlv hN
        refine ⟨fun hg => ?_, fun hg => absurd h13 hg⟩
        clear hg
        unfold Roll.Goes
        simp only [Lst26, List.getD_cons_zero, List.getD_cons_succ]
        generalize Roll.putD Dst26 vr [17, 13] b0 = a1 at *
        refine Roll.goes_val (w' := p) (.pointer (some ⟨gr, 0, none⟩)) rfl ?_ ⟨(Roll.outw_pure (by decide) rfl), rfl⟩
        (have ec : ∀ x, a1.eval (.const x) = x := fun _ => rfl); (have ef : ∀ x, a1.eval (.func x) = .func (.func x) #[] #[] := fun _ => rfl); generalize a1.eval = ρ at *
        clear h17 h13
        go_simp <;> (intros; first | (exfalso; omega) | rfl)
      · intro vr p hI0 hp
        have hI := Roll.inw_pure (by decide) rfl hI0
        clear hI0
        have h18 : (vr 18) = .pointer (some ⟨gr, 0, none⟩) := hp 18 (by simp [Lst26])
        have h13 : (vr 13) = .bool true := hp 13 (by simp [Lst26])
        have e139 : (Roll.putD Dst26 vr [18, 13] b0).eval (.tmp 139) = .pointer (some ⟨gr, 0, none⟩) := (Roll.eval_new 18 rfl (by decide) (by decide) (by omega)).trans h18
        clear hp hlv hN
        refine ⟨fun hg => ?_, fun hg => absurd h13 hg⟩
        clear hg
        unfold Roll.Goes
        simp only [Lst26, List.getD_cons_zero, List.getD_cons_succ]
        generalize Roll.putD Dst26 vr [18, 13] b0 = a1 at *
        have cf : p.cell? ⟨gr, 0, none⟩ = some (.slice (some ⟨gs, so, none⟩) SN co) := (hI.cell (p := ⟨gr, 0, none⟩) HGR.out).trans CV.out
        refine Roll.goes_val (w' := p) (.slice (some ⟨gs, so, none⟩) SN co) rfl ?_ ⟨(Roll.outw_pure (by decide) rfl), rfl⟩
        (have ec : ∀ x, a1.eval (.const x) = x := fun _ => rfl); (have ef : ∀ x, a1.eval (.func x) = .func (.func x) #[] #[] := fun _ => rfl); generalize a1.eval = ρ at *
        clear h18 h13
        go_simp <;> (intros; first | (exfalso; omega) | rfl)
      · intro vr p hI0 hp
        have hI := Roll.inw_pure (by decide) rfl hI0
        clear hI0
        have h19 : (vr 19) = .slice (some ⟨gs, so, none⟩) SN co := hp 19 (by simp [Lst26])
        have h13 : (vr 13) = .bool true := hp 13 (by simp [Lst26])
        have e140 : (Roll.putD Dst26 vr [19, 13] b0).eval (.tmp 140) = .slice (some ⟨gs, so, none⟩) SN co := (Roll.eval_new 19 rfl (by decide) (by decide) (by omega)).trans h19
        clear hp hlv hN
        refine ⟨fun hg => ?_, fun hg => absurd h13 hg⟩
        clear hg
        unfold Roll.Goes
        simp only [Lst26, List.getD_cons_zero, List.getD_cons_succ]
        generalize Roll.putD Dst26 vr [19, 13] b0 = a1 at *
        refine Roll.goes_val (w' := p) (.int .i64 (SN : Int)) rfl ?_ ⟨(Roll.outw_pure (by decide) rfl), rfl⟩
        (have ec : ∀ x, a1.eval (.const x) = x := fun _ => rfl); (have ef : ∀ x, a1.eval (.func x) = .func (.func x) #[] #[] := fun _ => rfl); generalize a1.eval = ρ at *
        clear h19 h13
        go_simp <;> (intros; first | (exfalso; omega) | rfl)
      · intro vr p hI0 hp
        have hI := Roll.inw_pure (by decide) rfl hI0
        clear hI0
        have h15 : (vr 15) = .int .i64 (SN : Int) := hp 15 (by simp [Lst26])
        have h20 : (vr 20) = .int .i64 (SN : Int) := hp 20 (by simp [Lst26])
        have h13 : (vr 13) = .bool true := hp 13 (by simp [Lst26])
        have e136 : (Roll.putD Dst26 vr [15, 20, 13] b0).eval (.tmp 136) = .int .i64 (SN : Int) := (Roll.eval_new 15 rfl (by decide) (by decide) (by omega)).trans h15
        have e141 : (Roll.putD Dst26 vr [15, 20, 13] b0).eval (.tmp 141) = .int .i64 (SN : Int) := (Roll.eval_new 20 rfl (by decide) (by decide) (by omega)).trans h20
        clear hp hlv hN
        refine ⟨fun hg => ?_, fun hg => absurd h13 hg⟩
        clear hg
        unfold Roll.Goes
        simp only [Lst26, List.getD_cons_zero, List.getD_cons_succ]
        generalize Roll.putD Dst26 vr [15, 20, 13] b0 = a1 at *
        refine Roll.goes_val (w' := p) (.bool true) rfl ?_ ⟨(Roll.outw_pure (by decide) rfl), rfl⟩
        (have ec : ∀ x, a1.eval (.const x) = x := fun _ => rfl); (have ef : ∀ x, a1.eval (.func x) = .func (.func x) #[] #[] := fun _ => rfl); generalize a1.eval = ρ at *
        clear h15 h20 h13
        go_simp <;> (intros; first | (exfalso; omega) | rfl)
      · intro vr p hI0 hp
        have hI := Roll.inw_pure (by decide) rfl hI0
        clear hI0
        have h13 : (vr 13) = .bool true := hp 13 (by simp [Lst26])
        have h21 : (vr 21) = .bool true := hp 21 (by simp [Lst26])
        have e134 : (Roll.putD Dst26 vr [13, 21] b0).eval (.tmp 134) = .bool true := (Roll.eval_new 13 rfl (by decide) (by decide) (by omega)).trans h13
        have e142 : (Roll.putD Dst26 vr [13, 21] b0).eval (.tmp 142) = .bool true := (Roll.eval_new 21 rfl (by decide) (by decide) (by omega)).trans h21
        clear hp hlv hN
        unfold Roll.Goes
        simp only [Lst26, List.getD_cons_zero, List.getD_cons_succ]
        generalize Roll.putD Dst26 vr [13, 21] b0 = a1 at *
        refine Roll.goes_val (w' := p) (.bool true) rfl ?_ ⟨(Roll.outw_pure (by decide) rfl), rfl⟩
        (have ec : ∀ x, a1.eval (.const x) = x := fun _ => rfl); (have ef : ∀ x, a1.eval (.func x) = .func (.func x) #[] #[] := fun _ => rfl); generalize a1.eval = ρ at *
        clear h13 h21
        go_simp <;> (intros; first | (exfalso; omega) | rfl)
      · intro vr p hI0 hp
        have hI := Roll.inw_pure (by decide) rfl hI0
        clear hI0
        have h0 : (vr 0) = .pointer (some ⟨g, 0, none⟩) := hp 0 (by simp [Lst26])
        have e121 : (Roll.putD Dst26 vr [0] b0).eval (.tmp 121) = .pointer (some ⟨g, 0, none⟩) := (Roll.eval_new 0 rfl (by decide) (by decide) (by omega)).trans h0
        clear hp hlv hN
        unfold Roll.Goes
        simp only [Lst26, List.getD_cons_zero, List.getD_cons_succ]
        generalize Roll.putD Dst26 vr [0] b0 = a1 at *
        refine Roll.goes_val (w' := p) (.pointer (some ⟨g, 0, none⟩)) rfl ?_ ⟨(Roll.outw_pure (by decide) rfl), rfl⟩
        (have ec : ∀ x, a1.eval (.const x) = x := fun _ => rfl); (have ef : ∀ x, a1.eval (.func x) = .func (.func x) #[] #[] := fun _ => rfl); generalize a1.eval = ρ at *
        clear h0
        go_simp <;> (intros; first | (exfalso; omega) | rfl)
      · intro vr p hI0 hp
        have hI := Roll.inw_pure (by decide) rfl hI0
        clear hI0
        have h1 : (vr 1) = .pointer (some ⟨gr, 0, none⟩) := hp 1 (by simp [Lst26])
        have e122 : (Roll.putD Dst26 vr [1] b0).eval (.tmp 122) = .pointer (some ⟨gr, 0, none⟩) := (Roll.eval_new 1 rfl (by decide) (by decide) (by omega)).trans h1
        clear hp hlv hN
        unfold Roll.Goes
        simp only [Lst26, List.getD_cons_zero, List.getD_cons_succ]
        generalize Roll.putD Dst26 vr [1] b0 = a1 at *
        refine Roll.goes_val (w' := p) (.pointer (some ⟨gr, 0, none⟩)) rfl ?_ ⟨(Roll.outw_pure (by decide) rfl), rfl⟩
        (have ec : ∀ x, a1.eval (.const x) = x := fun _ => rfl); (have ef : ∀ x, a1.eval (.func x) = .func (.func x) #[] #[] := fun _ => rfl); generalize a1.eval = ρ at *
        clear h1
        go_simp <;> (intros; first | (exfalso; omega) | rfl)
      · intro vr p hI0 hp
        have hI := Roll.inw_k0 rfl hI0
        clear hI0
        have h22 : (vr 22) = .bool true := hp 22 (by simp [Lst26])
        have e143 : (Roll.putD Dst26 vr [22] b0).eval (.tmp 143) = .bool true := (Roll.eval_new 22 rfl (by decide) (by decide) (by omega)).trans h22
        clear hp hlv hN
        unfold Roll.Goes
        simp only [Lst26, List.getD_cons_zero, List.getD_cons_succ]
        generalize Roll.putD Dst26 vr [22] b0 = a1 at *
        refine Roll.goes_val (w' := p) (.bool true) rfl (by have ec : ∀ x, a1.eval (.const x) = x := fun _ => rfl; have ef : ∀ x, a1.eval (.func x) = .func (.func x) #[] #[] := fun _ => rfl; have hbs := trivial; generalize a1.eval = ρ at *; go_simp <;> (intros; first | (exfalso; omega) | rfl)) ⟨Roll.outw_k0 rfl hI (Kept.refl _ _), rfl⟩
    · intro vr p hI hR
      have h0 : (vr 0) = .pointer (some ⟨g, 0, none⟩) := hR 0 (by omega)
      have h1 : (vr 1) = .pointer (some ⟨gr, 0, none⟩) := hR 1 (by omega)
      have h2 : (vr 2) = .bool true := hR 2 (by omega)
      have h3 : (vr 3) = .bool true := hR 3 (by omega)
      have h4 : (vr 4) = .pointer (some ⟨g, 0, none⟩) := hR 4 (by omega)
      have h5 : (vr 5) = .bool on := hR 5 (by omega)
      have h6 : (vr 6) = .pointer (some ⟨gr, 0, none⟩) := hR 6 (by omega)
      have h7 : (vr 7) = .pointer (some ⟨gr, 0, none⟩) := hR 7 (by omega)
      have h8 : (vr 8) = .pointer (some ⟨gr, 1, none⟩) := hR 8 (by omega)
      have h9 : (vr 9) = .bool (!on) := hR 9 (by omega)
      have h10 : (vr 10) = .bool on := hR 10 (by omega)
      have h11 : (vr 11) = .bool true := hR 11 (by omega)
      have h12 : (vr 12) = .bool true := hR 12 (by omega)
      have h13 : (vr 13) = .bool true := hR 13 (by omega)
      have h14 : (vr 14) = .pointer (some ⟨g, 0, none⟩) := hR 14 (by omega)
      have h15 : (vr 15) = .int .i64 (SN : Int) := hR 15 (by omega)
      have h16 : (vr 16) = .pointer (some ⟨gr, 0, none⟩) := hR 16 (by omega)
      have h17 : (vr 17) = .pointer (some ⟨gr, 0, none⟩) := hR 17 (by omega)
      have h18 : (vr 18) = .pointer (some ⟨gr, 0, none⟩) := hR 18 (by omega)
      have h19 : (vr 19) = .slice (some ⟨gs, so, none⟩) SN co := hR 19 (by omega)
      have h20 : (vr 20) = .int .i64 (SN : Int) := hR 20 (by omega)
      have h21 : (vr 21) = .bool true := hR 21 (by omega)
      have h22 : (vr 22) = .bool true := hR 22 (by omega)
      have h23 : (vr 23) = .pointer (some ⟨g, 0, none⟩) := hR 23 (by omega)
      have h24 : (vr 24) = .pointer (some ⟨gr, 0, none⟩) := hR 24 (by omega)
      have h25 : (vr 25) = .bool true := hR 25 (by omega)
      clear hR
      simp only [List.range_succ, List.range_zero, List.nil_append, List.cons_append, Roll.putD, Act.put, List.getD_cons_zero, List.getD_cons_succ, List.setIfInBounds_toArray, List.set_cons_zero, List.set_cons_succ, List.drop_succ_cons, List.drop_zero, Dst26]
      simp only [h0, h1, h2, h3, h4, h5, h6, h7, h8, h9, h10, h11, h12, h13, h14, h15, h16, h17, h18, h19, h20, h21, h22, h23, h24, h25]
      clear h0 h1 h2 h3 h4 h5 h6 h7 h8 h9 h10 h11 h12 h13 h14 h15 h16 h17 h18 h19 h20 h21 h22 h23 h24 h25
      have HPI := Lib.hid hI
      clear hI
      go_wp2_with fail
      go_ret3
      exact ⟨g, gr, d2, rfl, (HL2.out.below HPI.out).tail, HD2L.out, HD2O.out⟩
end Go.Proofs.Ytbnodhcgdgcebaa

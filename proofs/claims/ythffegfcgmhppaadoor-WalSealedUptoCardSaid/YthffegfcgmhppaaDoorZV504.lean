/-
  Texts L7, L9, LB, LC, R4, LD, LG, LI, G1, one behind the other.
-/
import Derived.WalkKit
import Derived.WalkSpells
import Derived.WalkLawsBesides
import Derived.Laws.AppendOwn
import Derived.Laws.OwnMore
import Derived.Deep.AppendSrc
import Derived.Deep.MidRow
import Derived.Lib.Hide
import Derived.Deep.QuietTactic
import Derived.BigQuiet
import GoSem.Claim
import Derived.Orders
import Derived.Tactics
import Derived.Maps.RangeRun
import Derived.Maps.Range
import Derived.Maps.OwnOps
import Derived.Maps.RangeWalk
import Derived.Deep.Cut
import Derived.Deep.RegionWith
import Derived.Deep.DrawnRows
import Derived.StillTailTactics
import Derived.Carry
import Derived.Laws.CopyOwn
import Derived.Lib.AppendZerosOnto
import Derived.Laws.BytesString
import Derived.Laws.AppendOwnNone
import Derived.ProofKit
import Derived.OpenShut
import Derived.Deep.Slices
import Derived.Deep.Fields
import Derived.JoinedCond
import Derived.Laws.ShiftsVarLaws
import Derived.Laws.BitsAllLaws
import Derived.Test.YthffegfcgmhppaaDoorRows
import Derived.Test.YthffegfcgmhppaaDoorZV503
namespace Go.Proofs.YthffegfcgmhppaaDoor
open Go.RowKit
set_option linter.unusedSimpArgs false
set_option linter.unusedVariables false
def Ddc2f : List (Option Tmp) := [some 16, some 17, some 18, some 19, some 20, some 21, some 22, some 23, some 24, some 25, some 26, some 27, some 28, some 29, some 30, some 31, some 6]
def Ldc2f : List (List Nat) := [[], [0], [1], [2], [], [4], [5], [6], [], [8], [9], [10], [7, 11], [], [13], [3, 12, 14], [15]]
def Ddc2 : List (Option Tmp) := [some 16, some 17, some 18, some 19, some 20, some 21, some 22, some 23, some 24, some 25, some 26, some 27, some 28, some 29, some 30, some 31, some 6]
def Ldc2 : List (List Nat) := [[], [0], [1], [2], [], [4], [5], [6], [], [8], [9], [10], [7, 11], [], [13], [3, 12, 14], [15]]
/-- a description in memory -/
def stateO (g r e : Nat) : Obj := ⟨fun B w => w.heap[g]? = some (.cells #[.int .u8 (r : Int), .int .i64 (e : Int)] 60 (0, 0)) ∧ B g, fun {B S w w'} h hk hs => ⟨hk.heap h.1 (hs g (Array.getElem?_eq_some_iff.1 h.1).1 h.2), h.2⟩⟩
theorem Lg.putState {w : World} {gl g : Nat} {k : Option Nat} {Bf : Nat → Prop} {v : Value} {m : LM} (h : Lg w gl g k Bf v m) (r e : Nat) : Lg (w.setCells gl 3 [.int .u8 (r : Int), .int .i64 (e : Int)]) gl g k Bf v {m with rnd := r, en := e} := by
  refine h.put rfl ?_ ((Kept.refl (fun x => x = gl) w).setCells _ _ (fun _ => rfl))
  show ((w.setCell ⟨gl, 3, none⟩ _).setCell ⟨gl, 4, none⟩ _).heap[gl]? = _
  rw [heap_setCell_same _ gl 4 _ _ _ (heap_setCell_same w gl 3 _ _ _ h.self)]
  rfl
theorem Lv.logState {w0 w : World} {L : List Obj} (h : Lv w0 w L) {i gl g : Nat} {m : LM} (hi : L[i]? = some (logO gl g m)) (r e : Nat) : Lv w0 (w.setCells gl 3 [.int .u8 (r : Int), .int .i64 (e : Int)]) (L.set i (logO gl g {m with rnd := r, en := e})) := by
  obtain ⟨k, Bf, v, B, h1, h2, h3, h4⟩ := h.log hi
  exact h4 _ k Bf v _ (h1.putState r e) ((Kept.refl B w).setCells _ _ (fun _ => h2 gl (.inl rfl))) (fun x hx => .inl (h2 x hx))
theorem flush_blk {B : Nat → Prop} {g gd gm z : Nat} {row : Nat → Option Nat} (h : ∀ j, Blk g gd gm row j → B j) : ∀ j, Blk g gd gm (fun _ => none) j → B j ∨ z ≤ j := by
  rintro j (e | e | e | ⟨_, e⟩)
  · exact .inl (h j (.inl e))
  · exact .inl (h j (.inr (.inl e)))
  · exact .inl (h j (.inr (.inr (.inl e))))
  · cases e
section
variable {w0 w : World} {L : List Obj} {gl g i j : Nat} {m : LM} {d : DM}
set_option maxRecDepth 100000 in
set_option maxHeartbeats 4000000 in
theorem describe_off (h : Lv w0 w L) (hi : L[i]? = some (logO gl g m)) (hj : L[j]? = some (diskO g d)) (hij : i ≠ j) (e : Nat) (he : e < 16777216) (hr : m.rnd < 256) (hf : m.frm + 1 < d.S.length) (hN : d.Ok 100000) (ho : d.on = false) :
    Calls Tryd.prog 30 #[.pointer (some ⟨gl, 0, none⟩), .int .i64 (e : Int)] w fun x w' => x = .returned (.int .i64 10) ∧ Lv w0 w' L := by
  obtain ⟨a, c, h1, h2, hg, -, -, -, c3, -, -, -, -, f0⟩ := h.logFacts hi
  obtain ⟨R, hR⟩ : ∃ R, R = (m.rnd + 1) % 256 := ⟨_, rfl⟩
  obtain ⟨P, hP⟩ : ∃ P, P = R % 2 := ⟨_, rfl⟩
  obtain ⟨K, hK⟩ : ∃ K, K = m.frm + P := ⟨_, rfl⟩
  obtain ⟨q1, hq1⟩ : ∃ q1, q1 = (w.alloc (.cells #[.int .u8 0, .int .i64 0] 60)).setRow w.heap.size #[.int .u8 (R : Int), .int .i64 (e : Int)] := ⟨_, rfl⟩
  obtain ⟨g5, hg5⟩ : ∃ g5, g5 = w.heap.size := ⟨_, rfl⟩
  have hbq : Below w.heap.size w q1 := by rw [hq1]; exact below_setRow ((Below.refl _ _).alloc (Nat.le_refl _) _) (Nat.le_refl _) _
  have HZ5 : Hid (q1.heap[g5]? = some (.cells #[.int .u8 (R : Int), .int .i64 (e : Int)] 60 (0, 0))) := Lib.hid (by rw [hq1, hg5]; exact setRow_heap _ _ _ _ _ _ (heap_new rfl))
  have hlq : Lv w0 q1 (stateO g5 R e :: L) := h.cons hbq (B := fun x => x = g5) ⟨HZ5.out, rfl⟩ (fun x hx => by subst hx; exact ⟨by omega, (Array.getElem?_eq_some_iff.1 HZ5.out).1⟩)
  have hi2 : (stateO g5 R e :: L)[i + 1]? = some (logO gl g m) := by simpa using hi
  have hj2 : (stateO g5 R e :: L)[j + 1]? = some (diskO g d) := by simpa using hj
  obtain ⟨_, _, -, -, hgq, c0, c1, c2, -, c4, c5, c6, c7, -⟩ := hlq.logFacts hi2
  obtain ⟨B, ⟨gd, gm, row, N, hd, hBB⟩, hlt, hoth, hset⟩ := hlq.get hj2
  have hglB : ¬ B gl := by
    obtain ⟨B2, ⟨k2, Bf2, v2, _, hb2⟩, hne⟩ := hoth (i + 1) _ (by omega) hi2
    exact hne gl (hb2 gl (.inl rfl))
  have hg5B : ¬ B g5 := by
    obtain ⟨B2, ⟨_, hb2⟩, hne⟩ := hoth 0 (stateO g5 R e) (by omega) rfl
    exact hne g5 hb2
  have hS := hd.ok.2.1
  have hw1 : IntKind.u8.wrap ((m.rnd : Int) + 1) = (R : Int) := by rw [IntKind.wrap_u8]; omega
  have hpt : Int.tmod (R : Int) 2 = (P : Int) := by rw [Int.tmod_eq_emod_of_nonneg (by omega)]; omega
  have HPW : Hid (Int.tmod (R : Int) 2 = (P : Int) ∧ IntKind.u8.wrap (Int.tmod (R : Int) 2) = (P : Int)) := Lib.hid ⟨hpt, by rw [hpt, IntKind.wrap_u8]; omega⟩
  have HCW : Hid (IntKind.i64.wrap (P : Int) = (P : Int)) := Lib.hid (i64_id _ (by omega) (by omega))
  have HKW : Hid (IntKind.i64.wrap ((m.frm : Int) + (P : Int)) = (K : Int)) := Lib.hid (by rw [i64_id _ (by omega) (by omega)]; omega)
  have HRB : Hid (R < 256) := Lib.hid (by omega)
  have HEB : Hid (e < 16777216) := Lib.hid he
  have HKS : Hid (K < d.S.length) := Lib.hid (by omega)
  have HKH : Hid (hasB d (K : Int) = true) := Lib.hid (by unfold hasB; rw [decide_eq_true]; omega)
  have HN := Lib.hid hN
  have HON := Lib.hid ho
  have HD := Lib.hid hd
  have HBB := Lib.hid hBB
  have HSET := Lib.hid hset
  have HLT : Hid (∀ j, B j → j < q1.heap.size) := Lib.hid (fun j hj => (hlt j hj).2)
  have HGL : Hid (gl < q1.heap.size ∧ ¬ B gl) := Lib.hid ⟨hgq, hglB⟩
  have C0 := Lib.hid c0
  have C1 := Lib.hid c1
  have HL := Lib.hid h
  have HI := Lib.hid hi2
  have HJ := Lib.hid hj2
  have HIJ := Lib.hid hij
  have HJL := Lib.hid (List.getElem?_eq_some_iff.1 hj).1
  have hb := run_buildS
  have HBQ := Lib.hid hbq
  have HG5B := Lib.hid hg5B
  have HQ1 := Lib.hid hq1
  have HG5 := Lib.hid hg5
  have HR := Lib.hid hR
  have HK := Lib.hid hK
  have HP := Lib.hid hP
  clear hd hBB hlt hoth hset hglB hg5B hR hP hK hq1 hg5 h hi hj hi2 hj2 hlq hbq hN ho c0 c1 c2 c4 c5 c6 c7 f0 hpt hij hr he hf hS hgq
  go_enter Tryd.func30, Tryd.ntmps30
  go_wp2_with (first
    | (refine wpList_alloc_z rfl 60 rfl _ 60 run_allocS ?_)
    | (refine wpList_store_row rfl 60 (.tmp 5) (.tmp 15) rfl w.heap.size _ rfl rfl 60 _ (heap_new rfl) (sizeS _ _) rfl (oneS _ _) ?_))
  rw [← HQ1.out, ← HG5.out]
  refine Roll.region_w 16 47 Ddc2f Ldc2f [(0, .pointer (some ⟨gl, 0, none⟩)), (5, .pointer (some ⟨g5, 0, none⟩))] 15 [true, true, true, true, true, true, true, true, true, true, true, true, true, true, false, false] (fun p => Below q1.heap.size q1 p ∧ p.heap[g5]? = some (.cells #[.int .u8 (R : Int), .int .i64 (e : Int)] 60 (0, 0))) (fun vv p => Below q1.heap.size q1 p ∧ p.heap[g5]? = some (.cells #[.int .u8 (R : Int), .int .i64 (e : Int)] 60 (0, 0))) (fun p => Kept B q1 p ∧ p.heap[g5]? = some (.cells #[.int .u8 (R : Int), .int .i64 (e : Int)] 60 (0, 0))) (fun p p2 => Kept B p p2) [fun vv p => (vv 0) = .pointer (some ⟨gl, 0, none⟩), fun vv p => (vv 1) = .pointer (some ⟨gl, 0, none⟩), fun vv p => (vv 2) = .pointer (some ⟨gl, 0, none⟩), fun vv p => (vv 3) = .pointer (some ⟨g, 0, none⟩), fun vv p => (vv 4) = .pointer (some ⟨gl, 0, none⟩), fun vv p => (vv 5) = .pointer (some ⟨gl, 0, none⟩), fun vv p => (vv 6) = .pointer (some ⟨gl, 1, none⟩), fun vv p => (vv 7) = .int .i64 (m.frm : Int), fun vv p => (vv 8) = .pointer (some ⟨g5, 0, none⟩), fun vv p => (vv 9) = .int .u8 (R : Int), fun vv p => (vv 10) = .int .u8 (P : Int), fun vv p => (vv 11) = .int .i64 (P : Int), fun vv p => (vv 12) = .int .i64 (K : Int), fun vv p => (vv 13) = .agg #[.int .u8 (R : Int), .int .i64 (e : Int)], fun vv p => ∃ x, (vv 14) = .slice (some ⟨x, 0, none⟩) 64 64 ∧ q1.heap.size ≤ x ∧ Bs (fun b => b = x) p (some ⟨x, 0, none⟩) 64 64 (desB R e), fun vv p => (vv 15) = .int .i64 10] (by kernel_rfl) (by kernel_rfl) rfl ⟨rfl, rfl, trivial⟩ (⟨(Below.refl _ _).drew, HZ5.out⟩) (by decide) (by kernel_rfl) (fun _ h => ⟨Kept.of_below _ h.1, h.2⟩) (fun _ _ h => ⟨Kept.of_below _ h.1, h.2⟩) (fun _ => Kept.refl _ _) ?_ ?_ ?_
  · exact ⟨fun _ _ _ _ h => h, fun _ _ _ _ h => h, fun _ _ _ _ h => h, fun _ _ _ _ h => h, fun _ _ _ _ h => h, fun _ _ _ _ h => h, fun _ _ _ _ h => h, fun _ _ _ _ h => h, fun _ _ _ _ h => h, fun _ _ _ _ h => h, fun _ _ _ _ h => h, fun _ _ _ _ h => h, fun _ _ _ _ h => h, fun _ _ _ _ h => h, fun _ _ _ hs h => by obtain ⟨x, e1, e2, e3⟩ := h; exact ⟨x, e1, e2, e3.kept hs (fun b _ hb hB => by subst hb; have := HLT.out b hB; omega)⟩, fun _ _ _ _ h => h, trivial⟩
  · intro b0 hN hlv
    refine ⟨?_, ?_, ?_, ?_, ?_, ?_, ?_, ?_, ?_, ?_, ?_, ?_, ?_, ?_, ?_, ?_, trivial⟩
    · intro vs p hI0 hp
      have hI := Roll.inw_pure (by decide) rfl hI0
      clear hI0
      have e0 : (Roll.putD Ddc2f vs [] b0).eval (.tmp 0) = .pointer (some ⟨gl, 0, none⟩) := (Roll.eval_old rfl).trans (hlv.at 0 (0, .pointer (some ⟨gl, 0, none⟩)) rfl)
      clear hp hlv hN
      unfold Roll.Goes
      simp only [Ldc2f, List.getD_cons_zero, List.getD_cons_succ]
      generalize Roll.putD Ddc2f vs [] b0 = a1 at *
      refine Roll.goes_val (w' := p) (.pointer (some ⟨gl, 0, none⟩)) rfl ?_ ⟨(Roll.outw_pure (by decide) rfl), rfl⟩
      (have ec : ∀ x, a1.eval (.const x) = x := fun _ => rfl); (have ef : ∀ x, a1.eval (.func x) = .func (.func x) #[] #[] := fun _ => rfl); generalize a1.eval = ρ at *
      skip
      go_simp <;> (intros; first | (exfalso; omega) | rfl)
    · intro vs p hI0 hp
      have hI := Roll.inw_pure (by decide) rfl hI0
      clear hI0
      have h0 : (vs 0) = .pointer (some ⟨gl, 0, none⟩) := hp 0 (by simp [Ldc2f])
      have e16 : (Roll.putD Ddc2f vs [0] b0).eval (.tmp 16) = .pointer (some ⟨gl, 0, none⟩) := (Roll.eval_new 0 rfl (by decide) (by decide) (by omega)).trans h0
      clear hp hlv hN
      unfold Roll.Goes
      simp only [Ldc2f, List.getD_cons_zero, List.getD_cons_succ]
      generalize Roll.putD Ddc2f vs [0] b0 = a1 at *
      refine Roll.goes_val (w' := p) (.pointer (some ⟨gl, 0, none⟩)) rfl ?_ ⟨(Roll.outw_pure (by decide) rfl), rfl⟩
      (have ec : ∀ x, a1.eval (.const x) = x := fun _ => rfl); (have ef : ∀ x, a1.eval (.func x) = .func (.func x) #[] #[] := fun _ => rfl); generalize a1.eval = ρ at *
      clear h0
      go_simp <;> (intros; first | (exfalso; omega) | rfl)
    · intro vs p hI0 hp
      have hI := Roll.inw_pure (by decide) rfl hI0
      clear hI0
      have h1 : (vs 1) = .pointer (some ⟨gl, 0, none⟩) := hp 1 (by simp [Ldc2f])
      have e17 : (Roll.putD Ddc2f vs [1] b0).eval (.tmp 17) = .pointer (some ⟨gl, 0, none⟩) := (Roll.eval_new 1 rfl (by decide) (by decide) (by omega)).trans h1
      clear hp hlv hN
      unfold Roll.Goes
      simp only [Ldc2f, List.getD_cons_zero, List.getD_cons_succ]
      generalize Roll.putD Ddc2f vs [1] b0 = a1 at *
      refine Roll.goes_val (w' := p) (.pointer (some ⟨gl, 0, none⟩)) rfl ?_ ⟨(Roll.outw_pure (by decide) rfl), rfl⟩
      (have ec : ∀ x, a1.eval (.const x) = x := fun _ => rfl); (have ef : ∀ x, a1.eval (.func x) = .func (.func x) #[] #[] := fun _ => rfl); generalize a1.eval = ρ at *
      clear h1
      go_simp <;> (intros; first | (exfalso; omega) | rfl)
    · intro vs p hI0 hp
      have hI := Roll.inw_pure (by decide) rfl hI0
      clear hI0
      have h2 : (vs 2) = .pointer (some ⟨gl, 0, none⟩) := hp 2 (by simp [Ldc2f])
      have e18 : (Roll.putD Ddc2f vs [2] b0).eval (.tmp 18) = .pointer (some ⟨gl, 0, none⟩) := (Roll.eval_new 2 rfl (by decide) (by decide) (by omega)).trans h2
      clear hp hlv hN
      unfold Roll.Goes
      simp only [Ldc2f, List.getD_cons_zero, List.getD_cons_succ]
      generalize Roll.putD Ddc2f vs [2] b0 = a1 at *
      have cf : p.cell? ⟨gl, 0, none⟩ = some (.pointer (some ⟨g, 0, none⟩)) := (hI.1.cell (p := ⟨gl, 0, none⟩) HGL.out.1 HGL.out.2).trans C0.out
      refine Roll.goes_val (w' := p) (.pointer (some ⟨g, 0, none⟩)) rfl ?_ ⟨(Roll.outw_pure (by decide) rfl), rfl⟩
      (have ec : ∀ x, a1.eval (.const x) = x := fun _ => rfl); (have ef : ∀ x, a1.eval (.func x) = .func (.func x) #[] #[] := fun _ => rfl); generalize a1.eval = ρ at *
      clear h2
      go_simp <;> (intros; first | (exfalso; omega) | rfl)
    · intro vs p hI0 hp
      have hI := Roll.inw_pure (by decide) rfl hI0
      clear hI0
      have e0 : (Roll.putD Ddc2f vs [] b0).eval (.tmp 0) = .pointer (some ⟨gl, 0, none⟩) := (Roll.eval_old rfl).trans (hlv.at 0 (0, .pointer (some ⟨gl, 0, none⟩)) rfl)
      clear hp hlv hN
      unfold Roll.Goes
      simp only [Ldc2f, List.getD_cons_zero, List.getD_cons_succ]
      generalize Roll.putD Ddc2f vs [] b0 = a1 at *
      refine Roll.goes_val (w' := p) (.pointer (some ⟨gl, 0, none⟩)) rfl ?_ ⟨(Roll.outw_pure (by decide) rfl), rfl⟩
      (have ec : ∀ x, a1.eval (.const x) = x := fun _ => rfl); (have ef : ∀ x, a1.eval (.func x) = .func (.func x) #[] #[] := fun _ => rfl); generalize a1.eval = ρ at *
      skip
      go_simp <;> (intros; first | (exfalso; omega) | rfl)
    · intro vs p hI0 hp
      have hI := Roll.inw_pure (by decide) rfl hI0
      clear hI0
      have h4 : (vs 4) = .pointer (some ⟨gl, 0, none⟩) := hp 4 (by simp [Ldc2f])
      have e20 : (Roll.putD Ddc2f vs [4] b0).eval (.tmp 20) = .pointer (some ⟨gl, 0, none⟩) := (Roll.eval_new 4 rfl (by decide) (by decide) (by omega)).trans h4
      clear hp hlv hN
      unfold Roll.Goes
      simp only [Ldc2f, List.getD_cons_zero, List.getD_cons_succ]
      generalize Roll.putD Ddc2f vs [4] b0 = a1 at *
      refine Roll.goes_val (w' := p) (.pointer (some ⟨gl, 0, none⟩)) rfl ?_ ⟨(Roll.outw_pure (by decide) rfl), rfl⟩
      (have ec : ∀ x, a1.eval (.const x) = x := fun _ => rfl); (have ef : ∀ x, a1.eval (.func x) = .func (.func x) #[] #[] := fun _ => rfl); generalize a1.eval = ρ at *
      clear h4
      go_simp <;> (intros; first | (exfalso; omega) | rfl)
    · intro vs p hI0 hp
      have hI := Roll.inw_pure (by decide) rfl hI0
      clear hI0
      have h5 : (vs 5) = .pointer (some ⟨gl, 0, none⟩) := hp 5 (by simp [Ldc2f])
      have e21 : (Roll.putD Ddc2f vs [5] b0).eval (.tmp 21) = .pointer (some ⟨gl, 0, none⟩) := (Roll.eval_new 5 rfl (by decide) (by decide) (by omega)).trans h5
      clear hp hlv hN
      unfold Roll.Goes
      simp only [Ldc2f, List.getD_cons_zero, List.getD_cons_succ]
      generalize Roll.putD Ddc2f vs [5] b0 = a1 at *
      refine Roll.goes_val (w' := p) (.pointer (some ⟨gl, 1, none⟩)) rfl ?_ ⟨(Roll.outw_pure (by decide) rfl), rfl⟩
      (have ec : ∀ x, a1.eval (.const x) = x := fun _ => rfl); (have ef : ∀ x, a1.eval (.func x) = .func (.func x) #[] #[] := fun _ => rfl); generalize a1.eval = ρ at *
      clear h5
      go_simp <;> (intros; first | (exfalso; omega) | rfl)
    · intro vs p hI0 hp
      have hI := Roll.inw_pure (by decide) rfl hI0
      clear hI0
      have h6 : (vs 6) = .pointer (some ⟨gl, 1, none⟩) := hp 6 (by simp [Ldc2f])
      have e22 : (Roll.putD Ddc2f vs [6] b0).eval (.tmp 22) = .pointer (some ⟨gl, 1, none⟩) := (Roll.eval_new 6 rfl (by decide) (by decide) (by omega)).trans h6
      clear hp hlv hN
      unfold Roll.Goes
      simp only [Ldc2f, List.getD_cons_zero, List.getD_cons_succ]
      generalize Roll.putD Ddc2f vs [6] b0 = a1 at *
      have cf : p.cell? ⟨gl, 1, none⟩ = some (.int .i64 (m.frm : Int)) := (hI.1.cell (p := ⟨gl, 1, none⟩) HGL.out.1 HGL.out.2).trans C1.out
      refine Roll.goes_val (w' := p) (.int .i64 (m.frm : Int)) rfl ?_ ⟨(Roll.outw_pure (by decide) rfl), rfl⟩
      (have ec : ∀ x, a1.eval (.const x) = x := fun _ => rfl); (have ef : ∀ x, a1.eval (.func x) = .func (.func x) #[] #[] := fun _ => rfl); generalize a1.eval = ρ at *
      clear h6
      go_simp <;> (intros; first | (exfalso; omega) | rfl)
    · intro vs p hI0 hp
      have hI := Roll.inw_pure (by decide) rfl hI0
      clear hI0
      have e5 : (Roll.putD Ddc2f vs [] b0).eval (.tmp 5) = .pointer (some ⟨g5, 0, none⟩) := (Roll.eval_old rfl).trans (hlv.at 1 (5, .pointer (some ⟨g5, 0, none⟩)) rfl)
      clear hp hlv hN
      unfold Roll.Goes
      simp only [Ldc2f, List.getD_cons_zero, List.getD_cons_succ]
      generalize Roll.putD Ddc2f vs [] b0 = a1 at *
      refine Roll.goes_val (w' := p) (.pointer (some ⟨g5, 0, none⟩)) rfl ?_ ⟨(Roll.outw_pure (by decide) rfl), rfl⟩
      (have ec : ∀ x, a1.eval (.const x) = x := fun _ => rfl); (have ef : ∀ x, a1.eval (.func x) = .func (.func x) #[] #[] := fun _ => rfl); generalize a1.eval = ρ at *
      skip
      go_simp <;> (intros; first | (exfalso; omega) | rfl)
    · intro vs p hI0 hp
      have hI := Roll.inw_pure (by decide) rfl hI0
      clear hI0
      have h8 : (vs 8) = .pointer (some ⟨g5, 0, none⟩) := hp 8 (by simp [Ldc2f])
      have e24 : (Roll.putD Ddc2f vs [8] b0).eval (.tmp 24) = .pointer (some ⟨g5, 0, none⟩) := (Roll.eval_new 8 rfl (by decide) (by decide) (by omega)).trans h8
      clear hp hlv hN
      unfold Roll.Goes
      simp only [Ldc2f, List.getD_cons_zero, List.getD_cons_succ]
      generalize Roll.putD Ddc2f vs [8] b0 = a1 at *
      have cf : p.cell? ⟨g5, 0, none⟩ = some (.int .u8 (R : Int)) := by rw [cell_of_row p g5 0 _ _ _ hI.2]; rfl
      refine Roll.goes_val (w' := p) (.int .u8 (R : Int)) rfl ?_ ⟨(Roll.outw_pure (by decide) rfl), rfl⟩
      (have ec : ∀ x, a1.eval (.const x) = x := fun _ => rfl); (have ef : ∀ x, a1.eval (.func x) = .func (.func x) #[] #[] := fun _ => rfl); generalize a1.eval = ρ at *
      clear h8
      go_simp <;> (intros; first | (exfalso; omega) | rfl)
    · intro vs p hI0 hp
      have hI := Roll.inw_pure (by decide) rfl hI0
      clear hI0
      have h9 : (vs 9) = .int .u8 (R : Int) := hp 9 (by simp [Ldc2f])
      have e25 : (Roll.putD Ddc2f vs [9] b0).eval (.tmp 25) = .int .u8 (R : Int) := (Roll.eval_new 9 rfl (by decide) (by decide) (by omega)).trans h9
      clear hp hlv hN
      unfold Roll.Goes
      simp only [Ldc2f, List.getD_cons_zero, List.getD_cons_succ]
      generalize Roll.putD Ddc2f vs [9] b0 = a1 at *
      have hpw := HPW.out
      refine Roll.goes_val (w' := p) (.int .u8 (P : Int)) rfl ?_ ⟨(Roll.outw_pure (by decide) rfl), rfl⟩
      (have ec : ∀ x, a1.eval (.const x) = x := fun _ => rfl); (have ef : ∀ x, a1.eval (.func x) = .func (.func x) #[] #[] := fun _ => rfl); generalize a1.eval = ρ at *
      clear h9
      go_simp <;> (intros; first | (exfalso; omega) | rfl)
    · intro vs p hI0 hp
      have hI := Roll.inw_pure (by decide) rfl hI0
      clear hI0
      have h10 : (vs 10) = .int .u8 (P : Int) := hp 10 (by simp [Ldc2f])
      have e26 : (Roll.putD Ddc2f vs [10] b0).eval (.tmp 26) = .int .u8 (P : Int) := (Roll.eval_new 10 rfl (by decide) (by decide) (by omega)).trans h10
      clear hp hlv hN
      unfold Roll.Goes
      simp only [Ldc2f, List.getD_cons_zero, List.getD_cons_succ]
      generalize Roll.putD Ddc2f vs [10] b0 = a1 at *
      have hcw := HCW.out
      refine Roll.goes_val (w' := p) (.int .i64 (P : Int)) rfl ?_ ⟨(Roll.outw_pure (by decide) rfl), rfl⟩
      (have ec : ∀ x, a1.eval (.const x) = x := fun _ => rfl); (have ef : ∀ x, a1.eval (.func x) = .func (.func x) #[] #[] := fun _ => rfl); generalize a1.eval = ρ at *
      clear h10
      go_simp <;> (intros; first | (exfalso; omega) | rfl)
    · intro vs p hI0 hp
      have hI := Roll.inw_pure (by decide) rfl hI0
      clear hI0
      have h7 : (vs 7) = .int .i64 (m.frm : Int) := hp 7 (by simp [Ldc2f])
      have h11 : (vs 11) = .int .i64 (P : Int) := hp 11 (by simp [Ldc2f])
      have e23 : (Roll.putD Ddc2f vs [7, 11] b0).eval (.tmp 23) = .int .i64 (m.frm : Int) := (Roll.eval_new 7 rfl (by decide) (by decide) (by omega)).trans h7
      have e27 : (Roll.putD Ddc2f vs [7, 11] b0).eval (.tmp 27) = .int .i64 (P : Int) := (Roll.eval_new 11 rfl (by decide) (by decide) (by omega)).trans h11
      clear hp hlv hN
      unfold Roll.Goes
      simp only [Ldc2f, List.getD_cons_zero, List.getD_cons_succ]
      generalize Roll.putD Ddc2f vs [7, 11] b0 = a1 at *
      have hkw := HKW.out
      refine Roll.goes_val (w' := p) (.int .i64 (K : Int)) rfl ?_ ⟨(Roll.outw_pure (by decide) rfl), rfl⟩
      (have ec : ∀ x, a1.eval (.const x) = x := fun _ => rfl); (have ef : ∀ x, a1.eval (.func x) = .func (.func x) #[] #[] := fun _ => rfl); generalize a1.eval = ρ at *
      clear h7 h11
      go_simp <;> (intros; first | (exfalso; omega) | rfl)
    · intro vs p hI0 hp
      have hI := Roll.inw_pure (by decide) rfl hI0
      clear hI0
      have e5 : (Roll.putD Ddc2f vs [] b0).eval (.tmp 5) = .pointer (some ⟨g5, 0, none⟩) := (Roll.eval_old rfl).trans (hlv.at 1 (5, .pointer (some ⟨g5, 0, none⟩)) rfl)
      clear hp hlv hN
      unfold Roll.Goes
      simp only [Ldc2f, List.getD_cons_zero, List.getD_cons_succ]
      generalize Roll.putD Ddc2f vs [] b0 = a1 at *
      refine Roll.goes_load_row rfl 60 (.tmp 5) rfl g5 e5 60 _ (0, 0) _ hI.2 Tryd.underlying60 rfl (sizeS _ _) ⟨(Roll.outw_pure (by decide) rfl), rfl⟩
    · intro vs p hI0 hp
      have hI := Roll.inw_pre (by decide) rfl hI0
      clear hI0
      have h13 : (vs 13) = .agg #[.int .u8 (R : Int), .int .i64 (e : Int)] := hp 13 (by simp [Ldc2f])
      have e29 : (Roll.putD Ddc2f vs [13] b0).eval (.tmp 29) = .agg #[.int .u8 (R : Int), .int .i64 (e : Int)] := (Roll.eval_new 13 rfl (by decide) (by decide) (by omega)).trans h13
      clear hp hlv hN
      unfold Roll.Goes
      simp only [Ldc2f, List.getD_cons_zero, List.getD_cons_succ]
      generalize Roll.putD Ddc2f vs [13] b0 = a1 at *
      refine Roll.goes_call 51 #[.agg #[.int .u8 (R : Int), .int .i64 (e : Int)]] p rfl (by have ec : ∀ x, a1.eval (.const x) = x := fun _ => rfl; have ef : ∀ x, a1.eval (.func x) = .func (.func x) #[] #[] := fun _ => rfl; generalize a1.eval = ρ at *; go_simp) ?_
      refine (sector_any R e HRB.out HEB.out p).mono ?_
      rintro y p2 ⟨x, rfl, hx, hbx, hbl⟩
      exact ⟨_, rfl, Roll.outw_pre (by decide) rfl ⟨hI.1.trans (hbl.mono hI.1.size), (Kept.of_below (fun _ => False) hbl).heap hI.2 (fun h => h)⟩ (Kept.of_below _ hbl), x, rfl, Nat.le_trans hI.1.size hx, hbx⟩
    · intro vs p hI0 hp
      have hI := Roll.inw_k0 rfl hI0
      clear hI0
      have h3 : (vs 3) = .pointer (some ⟨g, 0, none⟩) := hp 3 (by simp [Ldc2f])
      have h12 : (vs 12) = .int .i64 (K : Int) := hp 12 (by simp [Ldc2f])
      have h14 : ∃ x, (vs 14) = .slice (some ⟨x, 0, none⟩) 64 64 ∧ q1.heap.size ≤ x ∧ Bs (fun b => b = x) p (some ⟨x, 0, none⟩) 64 64 (desB R e) := hp 14 (by simp [Ldc2f])
      have e19 : (Roll.putD Ddc2f vs [3, 12, 14] b0).eval (.tmp 19) = .pointer (some ⟨g, 0, none⟩) := (Roll.eval_new 3 rfl (by decide) (by decide) (by omega)).trans h3
      have e28 : (Roll.putD Ddc2f vs [3, 12, 14] b0).eval (.tmp 28) = .int .i64 (K : Int) := (Roll.eval_new 12 rfl (by decide) (by decide) (by omega)).trans h12
      have e30 : (Roll.putD Ddc2f vs [3, 12, 14] b0).eval (.tmp 30) = vs 14 := (Roll.eval_new 14 rfl (by decide) (by decide) (by omega))
      clear hp hlv hN
      unfold Roll.Goes
      simp only [Ldc2f, List.getD_cons_zero, List.getD_cons_succ]
      generalize Roll.putD Ddc2f vs [3, 12, 14] b0 = a1 at *
      obtain ⟨x, hv14, hx, hbx⟩ := h14
      rw [hv14] at e30
      refine Roll.goes_call 49 #[.pointer (some ⟨g, 0, none⟩), .int .i64 (K : Int), .slice (some ⟨x, 0, none⟩) 64 64] p rfl (by have ec : ∀ x, a1.eval (.const x) = x := fun _ => rfl; have ef : ∀ x, a1.eval (.func x) = .func (.func x) #[] #[] := fun _ => rfl; generalize a1.eval = ρ at *; go_simp) ?_
      have hdp := HD.out.kept (Kept.of_below (fun _ => False) hI.1) (fun _ _ h => h)
      refine (write_off hdp (some ⟨x, 0, none⟩) 64 (K : Int) HKH.out HON.out).mono ?_
      rintro y p2 ⟨rfl, rfl⟩
      exact ⟨_, rfl, Roll.outw_k0 rfl hI (Kept.refl _ _), rfl⟩
  · intro vs p hI hR
    have h0 : (vs 0) = .pointer (some ⟨gl, 0, none⟩) := hR 0 (by omega)
    have h1 : (vs 1) = .pointer (some ⟨gl, 0, none⟩) := hR 1 (by omega)
    have h2 : (vs 2) = .pointer (some ⟨gl, 0, none⟩) := hR 2 (by omega)
    have h3 : (vs 3) = .pointer (some ⟨g, 0, none⟩) := hR 3 (by omega)
    have h4 : (vs 4) = .pointer (some ⟨gl, 0, none⟩) := hR 4 (by omega)
    have h5 : (vs 5) = .pointer (some ⟨gl, 0, none⟩) := hR 5 (by omega)
    have h6 : (vs 6) = .pointer (some ⟨gl, 1, none⟩) := hR 6 (by omega)
    have h7 : (vs 7) = .int .i64 (m.frm : Int) := hR 7 (by omega)
    have h8 : (vs 8) = .pointer (some ⟨g5, 0, none⟩) := hR 8 (by omega)
    have h9 : (vs 9) = .int .u8 (R : Int) := hR 9 (by omega)
    have h10 : (vs 10) = .int .u8 (P : Int) := hR 10 (by omega)
    have h11 : (vs 11) = .int .i64 (P : Int) := hR 11 (by omega)
    have h12 : (vs 12) = .int .i64 (K : Int) := hR 12 (by omega)
    have h13 : (vs 13) = .agg #[.int .u8 (R : Int), .int .i64 (e : Int)] := hR 13 (by omega)
    have h14 : ∃ x, (vs 14) = .slice (some ⟨x, 0, none⟩) 64 64 ∧ q1.heap.size ≤ x ∧ Bs (fun b => b = x) p (some ⟨x, 0, none⟩) 64 64 (desB R e) := hR 14 (by omega)
    have h15 : (vs 15) = .int .i64 10 := hR 15 (by omega)
    clear hR
    simp only [List.range_succ, List.range_zero, List.nil_append, List.cons_append, Roll.putD, Act.put, List.getD_cons_zero, List.getD_cons_succ, List.setIfInBounds_toArray, List.set_cons_zero, List.set_cons_succ, List.drop_succ_cons, List.drop_zero, Ddc2f]
    simp only [h0, h1, h2, h3, h4, h5, h6, h7, h8, h9, h10, h11, h12, h13, h15]
    clear h0 h1 h2 h3 h4 h5 h6 h7 h8 h9 h10 h11 h12 h13 h15
    have HBp := Lib.hid hI.1
    clear hI h14
    generalize vs 14 = v14 at *
    go_wp2_with fail
    go_ret
    exact ⟨rfl, HL.out.below (HBQ.out.trans (HBp.out.mono HBQ.out.size))⟩
/-- the next round -/
def LM.nxt (m : LM) : Nat := (m.rnd + 1) % 256
set_option maxRecDepth 100000 in
set_option maxHeartbeats 4000000 in
theorem describe_mid (h : Lv w0 w L) (hi : L[i]? = some (logO gl g m)) (hj : L[j]? = some (diskO g d)) (hij : i ≠ j) (e : Nat) (he : e < 16777216) (hr : m.rnd < 256) (hf : m.frm + 1 < d.S.length) (hN : d.Ok 100000) (ho : d.on = true) (ho1 : (d.write (m.frm + (m.rnd + 1) % 256 % 2) (desB ((m.rnd + 1) % 256) e)).on = false) :
    Calls Tryd.prog 30 #[.pointer (some ⟨gl, 0, none⟩), .int .i64 (e : Int)] w fun x w' => x = .returned (.int .i64 10) ∧ Lv w0 w' (L.set j (diskO g (d.write (m.frm + (m.rnd + 1) % 256 % 2) (desB ((m.rnd + 1) % 256) e)))) := by
  obtain ⟨a, c, h1, h2, hg, -, -, -, c3, -, -, -, -, f0⟩ := h.logFacts hi
  obtain ⟨R, hR⟩ : ∃ R, R = (m.rnd + 1) % 256 := ⟨_, rfl⟩
  obtain ⟨P, hP⟩ : ∃ P, P = R % 2 := ⟨_, rfl⟩
  obtain ⟨K, hK⟩ : ∃ K, K = m.frm + P := ⟨_, rfl⟩
  obtain ⟨q1, hq1⟩ : ∃ q1, q1 = (w.alloc (.cells #[.int .u8 0, .int .i64 0] 60)).setRow w.heap.size #[.int .u8 (R : Int), .int .i64 (e : Int)] := ⟨_, rfl⟩
  obtain ⟨g5, hg5⟩ : ∃ g5, g5 = w.heap.size := ⟨_, rfl⟩
  have hbq : Below w.heap.size w q1 := by rw [hq1]; exact below_setRow ((Below.refl _ _).alloc (Nat.le_refl _) _) (Nat.le_refl _) _
  have HZ5 : Hid (q1.heap[g5]? = some (.cells #[.int .u8 (R : Int), .int .i64 (e : Int)] 60 (0, 0))) := Lib.hid (by rw [hq1, hg5]; exact setRow_heap _ _ _ _ _ _ (heap_new rfl))
  have hlq : Lv w0 q1 (stateO g5 R e :: L) := h.cons hbq (B := fun x => x = g5) ⟨HZ5.out, rfl⟩ (fun x hx => by subst hx; exact ⟨by omega, (Array.getElem?_eq_some_iff.1 HZ5.out).1⟩)
  have hi2 : (stateO g5 R e :: L)[i + 1]? = some (logO gl g m) := by simpa using hi
  have hj2 : (stateO g5 R e :: L)[j + 1]? = some (diskO g d) := by simpa using hj
  obtain ⟨_, _, -, -, hgq, c0, c1, c2, -, c4, c5, c6, c7, -⟩ := hlq.logFacts hi2
  obtain ⟨B, ⟨gd, gm, row, N, hd, hBB⟩, hlt, hoth, hset⟩ := hlq.get hj2
  have hglB : ¬ B gl := by
    obtain ⟨B2, ⟨k2, Bf2, v2, _, hb2⟩, hne⟩ := hoth (i + 1) _ (by omega) hi2
    exact hne gl (hb2 gl (.inl rfl))
  have hg5B : ¬ B g5 := by
    obtain ⟨B2, ⟨_, hb2⟩, hne⟩ := hoth 0 (stateO g5 R e) (by omega) rfl
    exact hne g5 hb2
  have hS := hd.ok.2.1
  have hw1 : IntKind.u8.wrap ((m.rnd : Int) + 1) = (R : Int) := by rw [IntKind.wrap_u8]; omega
  have hpt : Int.tmod (R : Int) 2 = (P : Int) := by rw [Int.tmod_eq_emod_of_nonneg (by omega)]; omega
  have HPW : Hid (Int.tmod (R : Int) 2 = (P : Int) ∧ IntKind.u8.wrap (Int.tmod (R : Int) 2) = (P : Int)) := Lib.hid ⟨hpt, by rw [hpt, IntKind.wrap_u8]; omega⟩
  have HCW : Hid (IntKind.i64.wrap (P : Int) = (P : Int)) := Lib.hid (i64_id _ (by omega) (by omega))
  have HKW : Hid (IntKind.i64.wrap ((m.frm : Int) + (P : Int)) = (K : Int)) := Lib.hid (by rw [i64_id _ (by omega) (by omega)]; omega)
  have HRB : Hid (R < 256) := Lib.hid (by omega)
  have HEB : Hid (e < 16777216) := Lib.hid he
  have HKS : Hid (K < d.S.length) := Lib.hid (by omega)
  have HKH : Hid (hasB d (K : Int) = true) := Lib.hid (by unfold hasB; rw [decide_eq_true]; omega)
  have HN := Lib.hid hN
  have HON := Lib.hid ho
  have HD := Lib.hid hd
  have HBB := Lib.hid hBB
  have HSET := Lib.hid hset
  have HLT : Hid (∀ j, B j → j < q1.heap.size) := Lib.hid (fun j hj => (hlt j hj).2)
  have HGL : Hid (gl < q1.heap.size ∧ ¬ B gl) := Lib.hid ⟨hgq, hglB⟩
  have C0 := Lib.hid c0
  have C1 := Lib.hid c1
  have HL := Lib.hid h
  have HI := Lib.hid hi2
  have HJ := Lib.hid hj2
  have HIJ := Lib.hid hij
  have HJL := Lib.hid (List.getElem?_eq_some_iff.1 hj).1
  have hb := run_buildS
  have HBQ := Lib.hid hbq
  have HG5B := Lib.hid hg5B
  have HQ1 := Lib.hid hq1
  have HG5 := Lib.hid hg5
  have HR := Lib.hid hR
  have HK := Lib.hid hK
  have HP := Lib.hid hP
  clear hd hBB hlt hoth hset hglB hg5B hR hP hK hq1 hg5 h hi hj hi2 hj2 hlq hbq hN ho c0 c1 c2 c4 c5 c6 c7 f0 hpt hij hr he hf hS hgq
  go_enter Tryd.func30, Tryd.ntmps30
  go_wp2_with (first
    | (refine wpList_alloc_z rfl 60 rfl _ 60 run_allocS ?_)
    | (refine wpList_store_row rfl 60 (.tmp 5) (.tmp 15) rfl w.heap.size _ rfl rfl 60 _ (heap_new rfl) (sizeS _ _) rfl (oneS _ _) ?_))
  rw [← HQ1.out, ← HG5.out]
  refine Roll.region_w 16 47 Ddc2 Ldc2 [(0, .pointer (some ⟨gl, 0, none⟩)), (5, .pointer (some ⟨g5, 0, none⟩))] 15 [true, true, true, true, true, true, true, true, true, true, true, true, true, true, false, false] (fun p => Below q1.heap.size q1 p ∧ p.heap[g5]? = some (.cells #[.int .u8 (R : Int), .int .i64 (e : Int)] 60 (0, 0))) (fun vv p => Lv w0 p (stateO g5 R e :: L.set j (diskO g (d.write K (desB R e)))) ∧ Kept B q1 p ∧ p.heap[g5]? = some (.cells #[.int .u8 (R : Int), .int .i64 (e : Int)] 60 (0, 0))) (fun p => Kept B q1 p ∧ p.heap[g5]? = some (.cells #[.int .u8 (R : Int), .int .i64 (e : Int)] 60 (0, 0))) (fun p p2 => Kept B p p2) [fun vv p => (vv 0) = .pointer (some ⟨gl, 0, none⟩), fun vv p => (vv 1) = .pointer (some ⟨gl, 0, none⟩), fun vv p => (vv 2) = .pointer (some ⟨gl, 0, none⟩), fun vv p => (vv 3) = .pointer (some ⟨g, 0, none⟩), fun vv p => (vv 4) = .pointer (some ⟨gl, 0, none⟩), fun vv p => (vv 5) = .pointer (some ⟨gl, 0, none⟩), fun vv p => (vv 6) = .pointer (some ⟨gl, 1, none⟩), fun vv p => (vv 7) = .int .i64 (m.frm : Int), fun vv p => (vv 8) = .pointer (some ⟨g5, 0, none⟩), fun vv p => (vv 9) = .int .u8 (R : Int), fun vv p => (vv 10) = .int .u8 (P : Int), fun vv p => (vv 11) = .int .i64 (P : Int), fun vv p => (vv 12) = .int .i64 (K : Int), fun vv p => (vv 13) = .agg #[.int .u8 (R : Int), .int .i64 (e : Int)], fun vv p => ∃ x, (vv 14) = .slice (some ⟨x, 0, none⟩) 64 64 ∧ q1.heap.size ≤ x ∧ Bs (fun b => b = x) p (some ⟨x, 0, none⟩) 64 64 (desB R e), fun vv p => (vv 15) = .int .i64 0] (by kernel_rfl) (by kernel_rfl) rfl ⟨rfl, rfl, trivial⟩ (⟨(Below.refl _ _).drew, HZ5.out⟩) (by decide) (by kernel_rfl) (fun _ h => ⟨Kept.of_below _ h.1, h.2⟩) (fun _ _ h => h.2) (fun _ => Kept.refl _ _) ?_ ?_ ?_
  · exact ⟨fun _ _ _ _ h => h, fun _ _ _ _ h => h, fun _ _ _ _ h => h, fun _ _ _ _ h => h, fun _ _ _ _ h => h, fun _ _ _ _ h => h, fun _ _ _ _ h => h, fun _ _ _ _ h => h, fun _ _ _ _ h => h, fun _ _ _ _ h => h, fun _ _ _ _ h => h, fun _ _ _ _ h => h, fun _ _ _ _ h => h, fun _ _ _ _ h => h, fun _ _ _ hs h => by obtain ⟨x, e1, e2, e3⟩ := h; exact ⟨x, e1, e2, e3.kept hs (fun b _ hb hB => by subst hb; have := HLT.out b hB; omega)⟩, fun _ _ _ _ h => h, trivial⟩
  · intro b0 hN hlv
    refine ⟨?_, ?_, ?_, ?_, ?_, ?_, ?_, ?_, ?_, ?_, ?_, ?_, ?_, ?_, ?_, ?_, trivial⟩
    · intro vs p hI0 hp
      have hI := Roll.inw_pure (by decide) rfl hI0
      clear hI0
      have e0 : (Roll.putD Ddc2 vs [] b0).eval (.tmp 0) = .pointer (some ⟨gl, 0, none⟩) := (Roll.eval_old rfl).trans (hlv.at 0 (0, .pointer (some ⟨gl, 0, none⟩)) rfl)
      clear hp hlv hN
      unfold Roll.Goes
      simp only [Ldc2, List.getD_cons_zero, List.getD_cons_succ]
      generalize Roll.putD Ddc2 vs [] b0 = a1 at *
      refine Roll.goes_val (w' := p) (.pointer (some ⟨gl, 0, none⟩)) rfl ?_ ⟨(Roll.outw_pure (by decide) rfl), rfl⟩
      (have ec : ∀ x, a1.eval (.const x) = x := fun _ => rfl); (have ef : ∀ x, a1.eval (.func x) = .func (.func x) #[] #[] := fun _ => rfl); generalize a1.eval = ρ at *
      skip
      go_simp <;> (intros; first | (exfalso; omega) | rfl)
    · intro vs p hI0 hp
      have hI := Roll.inw_pure (by decide) rfl hI0
      clear hI0
      have h0 : (vs 0) = .pointer (some ⟨gl, 0, none⟩) := hp 0 (by simp [Ldc2])
      have e16 : (Roll.putD Ddc2 vs [0] b0).eval (.tmp 16) = .pointer (some ⟨gl, 0, none⟩) := (Roll.eval_new 0 rfl (by decide) (by decide) (by omega)).trans h0
      clear hp hlv hN
      unfold Roll.Goes
      simp only [Ldc2, List.getD_cons_zero, List.getD_cons_succ]
      generalize Roll.putD Ddc2 vs [0] b0 = a1 at *
      refine Roll.goes_val (w' := p) (.pointer (some ⟨gl, 0, none⟩)) rfl ?_ ⟨(Roll.outw_pure (by decide) rfl), rfl⟩
      (have ec : ∀ x, a1.eval (.const x) = x := fun _ => rfl); (have ef : ∀ x, a1.eval (.func x) = .func (.func x) #[] #[] := fun _ => rfl); generalize a1.eval = ρ at *
      clear h0
      go_simp <;> (intros; first | (exfalso; omega) | rfl)
    · intro vs p hI0 hp
      have hI := Roll.inw_pure (by decide) rfl hI0
      clear hI0
      have h1 : (vs 1) = .pointer (some ⟨gl, 0, none⟩) := hp 1 (by simp [Ldc2])
      have e17 : (Roll.putD Ddc2 vs [1] b0).eval (.tmp 17) = .pointer (some ⟨gl, 0, none⟩) := (Roll.eval_new 1 rfl (by decide) (by decide) (by omega)).trans h1
      clear hp hlv hN
      unfold Roll.Goes
      simp only [Ldc2, List.getD_cons_zero, List.getD_cons_succ]
      generalize Roll.putD Ddc2 vs [1] b0 = a1 at *
      refine Roll.goes_val (w' := p) (.pointer (some ⟨gl, 0, none⟩)) rfl ?_ ⟨(Roll.outw_pure (by decide) rfl), rfl⟩
      (have ec : ∀ x, a1.eval (.const x) = x := fun _ => rfl); (have ef : ∀ x, a1.eval (.func x) = .func (.func x) #[] #[] := fun _ => rfl); generalize a1.eval = ρ at *
      clear h1
      go_simp <;> (intros; first | (exfalso; omega) | rfl)
    · intro vs p hI0 hp
      have hI := Roll.inw_pure (by decide) rfl hI0
      clear hI0
      have h2 : (vs 2) = .pointer (some ⟨gl, 0, none⟩) := hp 2 (by simp [Ldc2])
      have e18 : (Roll.putD Ddc2 vs [2] b0).eval (.tmp 18) = .pointer (some ⟨gl, 0, none⟩) := (Roll.eval_new 2 rfl (by decide) (by decide) (by omega)).trans h2
      clear hp hlv hN
      unfold Roll.Goes
      simp only [Ldc2, List.getD_cons_zero, List.getD_cons_succ]
      generalize Roll.putD Ddc2 vs [2] b0 = a1 at *
      have cf : p.cell? ⟨gl, 0, none⟩ = some (.pointer (some ⟨g, 0, none⟩)) := (hI.1.cell (p := ⟨gl, 0, none⟩) HGL.out.1 HGL.out.2).trans C0.out
      refine Roll.goes_val (w' := p) (.pointer (some ⟨g, 0, none⟩)) rfl ?_ ⟨(Roll.outw_pure (by decide) rfl), rfl⟩
      (have ec : ∀ x, a1.eval (.const x) = x := fun _ => rfl); (have ef : ∀ x, a1.eval (.func x) = .func (.func x) #[] #[] := fun _ => rfl); generalize a1.eval = ρ at *
      clear h2
      go_simp <;> (intros; first | (exfalso; omega) | rfl)
    · intro vs p hI0 hp
      have hI := Roll.inw_pure (by decide) rfl hI0
      clear hI0
      have e0 : (Roll.putD Ddc2 vs [] b0).eval (.tmp 0) = .pointer (some ⟨gl, 0, none⟩) := (Roll.eval_old rfl).trans (hlv.at 0 (0, .pointer (some ⟨gl, 0, none⟩)) rfl)
      clear hp hlv hN
      unfold Roll.Goes
      simp only [Ldc2, List.getD_cons_zero, List.getD_cons_succ]
      generalize Roll.putD Ddc2 vs [] b0 = a1 at *
      refine Roll.goes_val (w' := p) (.pointer (some ⟨gl, 0, none⟩)) rfl ?_ ⟨(Roll.outw_pure (by decide) rfl), rfl⟩
      (have ec : ∀ x, a1.eval (.const x) = x := fun _ => rfl); (have ef : ∀ x, a1.eval (.func x) = .func (.func x) #[] #[] := fun _ => rfl); generalize a1.eval = ρ at *
      skip
      go_simp <;> (intros; first | (exfalso; omega) | rfl)
    · intro vs p hI0 hp
      have hI := Roll.inw_pure (by decide) rfl hI0
      clear hI0
      have h4 : (vs 4) = .pointer (some ⟨gl, 0, none⟩) := hp 4 (by simp [Ldc2])
      have e20 : (Roll.putD Ddc2 vs [4] b0).eval (.tmp 20) = .pointer (some ⟨gl, 0, none⟩) := (Roll.eval_new 4 rfl (by decide) (by decide) (by omega)).trans h4
      clear hp hlv hN
      unfold Roll.Goes
      simp only [Ldc2, List.getD_cons_zero, List.getD_cons_succ]
      generalize Roll.putD Ddc2 vs [4] b0 = a1 at *
      refine Roll.goes_val (w' := p) (.pointer (some ⟨gl, 0, none⟩)) rfl ?_ ⟨(Roll.outw_pure (by decide) rfl), rfl⟩
      (have ec : ∀ x, a1.eval (.const x) = x := fun _ => rfl); (have ef : ∀ x, a1.eval (.func x) = .func (.func x) #[] #[] := fun _ => rfl); generalize a1.eval = ρ at *
      clear h4
      go_simp <;> (intros; first | (exfalso; omega) | rfl)
    · intro vs p hI0 hp
      have hI := Roll.inw_pure (by decide) rfl hI0
      clear hI0
      have h5 : (vs 5) = .pointer (some ⟨gl, 0, none⟩) := hp 5 (by simp [Ldc2])
      have e21 : (Roll.putD Ddc2 vs [5] b0).eval (.tmp 21) = .pointer (some ⟨gl, 0, none⟩) := (Roll.eval_new 5 rfl (by decide) (by decide) (by omega)).trans h5
      clear hp hlv hN
      unfold Roll.Goes
      simp only [Ldc2, List.getD_cons_zero, List.getD_cons_succ]
      generalize Roll.putD Ddc2 vs [5] b0 = a1 at *
      refine Roll.goes_val (w' := p) (.pointer (some ⟨gl, 1, none⟩)) rfl ?_ ⟨(Roll.outw_pure (by decide) rfl), rfl⟩
      (have ec : ∀ x, a1.eval (.const x) = x := fun _ => rfl); (have ef : ∀ x, a1.eval (.func x) = .func (.func x) #[] #[] := fun _ => rfl); generalize a1.eval = ρ at *
      clear h5
      go_simp <;> (intros; first | (exfalso; omega) | rfl)
    · intro vs p hI0 hp
      have hI := Roll.inw_pure (by decide) rfl hI0
      clear hI0
      have h6 : (vs 6) = .pointer (some ⟨gl, 1, none⟩) := hp 6 (by simp [Ldc2])
      have e22 : (Roll.putD Ddc2 vs [6] b0).eval (.tmp 22) = .pointer (some ⟨gl, 1, none⟩) := (Roll.eval_new 6 rfl (by decide) (by decide) (by omega)).trans h6
      clear hp hlv hN
      unfold Roll.Goes
      simp only [Ldc2, List.getD_cons_zero, List.getD_cons_succ]
      generalize Roll.putD Ddc2 vs [6] b0 = a1 at *
      have cf : p.cell? ⟨gl, 1, none⟩ = some (.int .i64 (m.frm : Int)) := (hI.1.cell (p := ⟨gl, 1, none⟩) HGL.out.1 HGL.out.2).trans C1.out
      refine Roll.goes_val (w' := p) (.int .i64 (m.frm : Int)) rfl ?_ ⟨(Roll.outw_pure (by decide) rfl), rfl⟩
      (have ec : ∀ x, a1.eval (.const x) = x := fun _ => rfl); (have ef : ∀ x, a1.eval (.func x) = .func (.func x) #[] #[] := fun _ => rfl); generalize a1.eval = ρ at *
      clear h6
      go_simp <;> (intros; first | (exfalso; omega) | rfl)
    · intro vs p hI0 hp
      have hI := Roll.inw_pure (by decide) rfl hI0
      clear hI0
      have e5 : (Roll.putD Ddc2 vs [] b0).eval (.tmp 5) = .pointer (some ⟨g5, 0, none⟩) := (Roll.eval_old rfl).trans (hlv.at 1 (5, .pointer (some ⟨g5, 0, none⟩)) rfl)
      clear hp hlv hN
      unfold Roll.Goes
      simp only [Ldc2, List.getD_cons_zero, List.getD_cons_succ]
      generalize Roll.putD Ddc2 vs [] b0 = a1 at *
      refine Roll.goes_val (w' := p) (.pointer (some ⟨g5, 0, none⟩)) rfl ?_ ⟨(Roll.outw_pure (by decide) rfl), rfl⟩
      (have ec : ∀ x, a1.eval (.const x) = x := fun _ => rfl); (have ef : ∀ x, a1.eval (.func x) = .func (.func x) #[] #[] := fun _ => rfl); generalize a1.eval = ρ at *
      skip
      go_simp <;> (intros; first | (exfalso; omega) | rfl)
    · intro vs p hI0 hp
      have hI := Roll.inw_pure (by decide) rfl hI0
      clear hI0
      have h8 : (vs 8) = .pointer (some ⟨g5, 0, none⟩) := hp 8 (by simp [Ldc2])
      have e24 : (Roll.putD Ddc2 vs [8] b0).eval (.tmp 24) = .pointer (some ⟨g5, 0, none⟩) := (Roll.eval_new 8 rfl (by decide) (by decide) (by omega)).trans h8
      clear hp hlv hN
      unfold Roll.Goes
      simp only [Ldc2, List.getD_cons_zero, List.getD_cons_succ]
      generalize Roll.putD Ddc2 vs [8] b0 = a1 at *
      have cf : p.cell? ⟨g5, 0, none⟩ = some (.int .u8 (R : Int)) := by rw [cell_of_row p g5 0 _ _ _ hI.2]; rfl
      refine Roll.goes_val (w' := p) (.int .u8 (R : Int)) rfl ?_ ⟨(Roll.outw_pure (by decide) rfl), rfl⟩
      (have ec : ∀ x, a1.eval (.const x) = x := fun _ => rfl); (have ef : ∀ x, a1.eval (.func x) = .func (.func x) #[] #[] := fun _ => rfl); generalize a1.eval = ρ at *
      clear h8
      go_simp <;> (intros; first | (exfalso; omega) | rfl)
    · intro vs p hI0 hp
      have hI := Roll.inw_pure (by decide) rfl hI0
      clear hI0
      have h9 : (vs 9) = .int .u8 (R : Int) := hp 9 (by simp [Ldc2])
      have e25 : (Roll.putD Ddc2 vs [9] b0).eval (.tmp 25) = .int .u8 (R : Int) := (Roll.eval_new 9 rfl (by decide) (by decide) (by omega)).trans h9
      clear hp hlv hN
      unfold Roll.Goes
      simp only [Ldc2, List.getD_cons_zero, List.getD_cons_succ]
      generalize Roll.putD Ddc2 vs [9] b0 = a1 at *
      have hpw := HPW.out
      refine Roll.goes_val (w' := p) (.int .u8 (P : Int)) rfl ?_ ⟨(Roll.outw_pure (by decide) rfl), rfl⟩
      (have ec : ∀ x, a1.eval (.const x) = x := fun _ => rfl); (have ef : ∀ x, a1.eval (.func x) = .func (.func x) #[] #[] := fun _ => rfl); generalize a1.eval = ρ at *
      clear h9
      go_simp <;> (intros; first | (exfalso; omega) | rfl)
    · intro vs p hI0 hp
      have hI := Roll.inw_pure (by decide) rfl hI0
      clear hI0
      have h10 : (vs 10) = .int .u8 (P : Int) := hp 10 (by simp [Ldc2])
      have e26 : (Roll.putD Ddc2 vs [10] b0).eval (.tmp 26) = .int .u8 (P : Int) := (Roll.eval_new 10 rfl (by decide) (by decide) (by omega)).trans h10
      clear hp hlv hN
      unfold Roll.Goes
      simp only [Ldc2, List.getD_cons_zero, List.getD_cons_succ]
      generalize Roll.putD Ddc2 vs [10] b0 = a1 at *
      have hcw := HCW.out
      refine Roll.goes_val (w' := p) (.int .i64 (P : Int)) rfl ?_ ⟨(Roll.outw_pure (by decide) rfl), rfl⟩
      (have ec : ∀ x, a1.eval (.const x) = x := fun _ => rfl); (have ef : ∀ x, a1.eval (.func x) = .func (.func x) #[] #[] := fun _ => rfl); generalize a1.eval = ρ at *
      clear h10
      go_simp <;> (intros; first | (exfalso; omega) | rfl)
    · intro vs p hI0 hp
      have hI := Roll.inw_pure (by decide) rfl hI0
      clear hI0
      have h7 : (vs 7) = .int .i64 (m.frm : Int) := hp 7 (by simp [Ldc2])
      have h11 : (vs 11) = .int .i64 (P : Int) := hp 11 (by simp [Ldc2])
      have e23 : (Roll.putD Ddc2 vs [7, 11] b0).eval (.tmp 23) = .int .i64 (m.frm : Int) := (Roll.eval_new 7 rfl (by decide) (by decide) (by omega)).trans h7
      have e27 : (Roll.putD Ddc2 vs [7, 11] b0).eval (.tmp 27) = .int .i64 (P : Int) := (Roll.eval_new 11 rfl (by decide) (by decide) (by omega)).trans h11
      clear hp hlv hN
      unfold Roll.Goes
      simp only [Ldc2, List.getD_cons_zero, List.getD_cons_succ]
      generalize Roll.putD Ddc2 vs [7, 11] b0 = a1 at *
      have hkw := HKW.out
      refine Roll.goes_val (w' := p) (.int .i64 (K : Int)) rfl ?_ ⟨(Roll.outw_pure (by decide) rfl), rfl⟩
      (have ec : ∀ x, a1.eval (.const x) = x := fun _ => rfl); (have ef : ∀ x, a1.eval (.func x) = .func (.func x) #[] #[] := fun _ => rfl); generalize a1.eval = ρ at *
      clear h7 h11
      go_simp <;> (intros; first | (exfalso; omega) | rfl)
    · intro vs p hI0 hp
      have hI := Roll.inw_pure (by decide) rfl hI0
      clear hI0
      have e5 : (Roll.putD Ddc2 vs [] b0).eval (.tmp 5) = .pointer (some ⟨g5, 0, none⟩) := (Roll.eval_old rfl).trans (hlv.at 1 (5, .pointer (some ⟨g5, 0, none⟩)) rfl)
      clear hp hlv hN
      unfold Roll.Goes
      simp only [Ldc2, List.getD_cons_zero, List.getD_cons_succ]
      generalize Roll.putD Ddc2 vs [] b0 = a1 at *
      refine Roll.goes_load_row rfl 60 (.tmp 5) rfl g5 e5 60 _ (0, 0) _ hI.2 Tryd.underlying60 rfl (sizeS _ _) ⟨(Roll.outw_pure (by decide) rfl), rfl⟩
    · intro vs p hI0 hp
      have hI := Roll.inw_pre (by decide) rfl hI0
      clear hI0
      have h13 : (vs 13) = .agg #[.int .u8 (R : Int), .int .i64 (e : Int)] := hp 13 (by simp [Ldc2])
      have e29 : (Roll.putD Ddc2 vs [13] b0).eval (.tmp 29) = .agg #[.int .u8 (R : Int), .int .i64 (e : Int)] := (Roll.eval_new 13 rfl (by decide) (by decide) (by omega)).trans h13
      clear hp hlv hN
      unfold Roll.Goes
      simp only [Ldc2, List.getD_cons_zero, List.getD_cons_succ]
      generalize Roll.putD Ddc2 vs [13] b0 = a1 at *
      refine Roll.goes_call 51 #[.agg #[.int .u8 (R : Int), .int .i64 (e : Int)]] p rfl (by have ec : ∀ x, a1.eval (.const x) = x := fun _ => rfl; have ef : ∀ x, a1.eval (.func x) = .func (.func x) #[] #[] := fun _ => rfl; generalize a1.eval = ρ at *; go_simp) ?_
      refine (sector_any R e HRB.out HEB.out p).mono ?_
      rintro y p2 ⟨x, rfl, hx, hbx, hbl⟩
      exact ⟨_, rfl, Roll.outw_pre (by decide) rfl ⟨hI.1.trans (hbl.mono hI.1.size), (Kept.of_below (fun _ => False) hbl).heap hI.2 (fun h => h)⟩ (Kept.of_below _ hbl), x, rfl, Nat.le_trans hI.1.size hx, hbx⟩
    · intro vs p hI0 hp
      have hI := Roll.inw_k0 rfl hI0
      clear hI0
      have h3 : (vs 3) = .pointer (some ⟨g, 0, none⟩) := hp 3 (by simp [Ldc2])
      have h12 : (vs 12) = .int .i64 (K : Int) := hp 12 (by simp [Ldc2])
      have h14 : ∃ x, (vs 14) = .slice (some ⟨x, 0, none⟩) 64 64 ∧ q1.heap.size ≤ x ∧ Bs (fun b => b = x) p (some ⟨x, 0, none⟩) 64 64 (desB R e) := hp 14 (by simp [Ldc2])
      have e19 : (Roll.putD Ddc2 vs [3, 12, 14] b0).eval (.tmp 19) = .pointer (some ⟨g, 0, none⟩) := (Roll.eval_new 3 rfl (by decide) (by decide) (by omega)).trans h3
      have e28 : (Roll.putD Ddc2 vs [3, 12, 14] b0).eval (.tmp 28) = .int .i64 (K : Int) := (Roll.eval_new 12 rfl (by decide) (by decide) (by omega)).trans h12
      have e30 : (Roll.putD Ddc2 vs [3, 12, 14] b0).eval (.tmp 30) = vs 14 := (Roll.eval_new 14 rfl (by decide) (by decide) (by omega))
      clear hp hlv hN
      unfold Roll.Goes
      simp only [Ldc2, List.getD_cons_zero, List.getD_cons_succ]
      generalize Roll.putD Ddc2 vs [3, 12, 14] b0 = a1 at *
      obtain ⟨x, hv14, hx, hbx⟩ := h14
      rw [hv14] at e30
      refine Roll.goes_call 49 #[.pointer (some ⟨g, 0, none⟩), .int .i64 (K : Int), .slice (some ⟨x, 0, none⟩) 64 64] p rfl (by have ec : ∀ x, a1.eval (.const x) = x := fun _ => rfl; have ef : ∀ x, a1.eval (.func x) = .func (.func x) #[] #[] := fun _ => rfl; generalize a1.eval = ρ at *; go_simp) ?_
      have hdp := HD.out.kept (Kept.of_below (fun _ => False) hI.1) (fun _ _ h => h)
      refine (write_ok (hdp.bound HN.out) hbx K HKS.out HON.out (Nat.le_refl _)).mono ?_
      rintro y p2 ⟨rfl, row', hd2, hk2, hf2⟩
      have KB : Kept B p p2 := hk2.mono (fun j _ hj => HBB.out j hj)
      have KQ : Kept B q1 p2 := (Kept.of_below B hI.1).trans KB (fun _ _ h => h)
      exact ⟨_, rfl, Roll.outw_k0 rfl ⟨HSET.out p2 _ (Blk g gd gm row') ⟨gd, gm, row', _, hd2, fun _ h => h⟩ KQ (fun j hj => (hf2 j hj).imp (HBB.out j) (fun e => Nat.le_trans hI.1.size e)) (fun j hj => hd2.lt j hj), KQ, KB.heap hI.2 (fun e => HG5B.out e)⟩ KB, rfl⟩
  · intro vs p hI hR
    have h0 : (vs 0) = .pointer (some ⟨gl, 0, none⟩) := hR 0 (by omega)
    have h1 : (vs 1) = .pointer (some ⟨gl, 0, none⟩) := hR 1 (by omega)
    have h2 : (vs 2) = .pointer (some ⟨gl, 0, none⟩) := hR 2 (by omega)
    have h3 : (vs 3) = .pointer (some ⟨g, 0, none⟩) := hR 3 (by omega)
    have h4 : (vs 4) = .pointer (some ⟨gl, 0, none⟩) := hR 4 (by omega)
    have h5 : (vs 5) = .pointer (some ⟨gl, 0, none⟩) := hR 5 (by omega)
    have h6 : (vs 6) = .pointer (some ⟨gl, 1, none⟩) := hR 6 (by omega)
    have h7 : (vs 7) = .int .i64 (m.frm : Int) := hR 7 (by omega)
    have h8 : (vs 8) = .pointer (some ⟨g5, 0, none⟩) := hR 8 (by omega)
    have h9 : (vs 9) = .int .u8 (R : Int) := hR 9 (by omega)
    have h10 : (vs 10) = .int .u8 (P : Int) := hR 10 (by omega)
    have h11 : (vs 11) = .int .i64 (P : Int) := hR 11 (by omega)
    have h12 : (vs 12) = .int .i64 (K : Int) := hR 12 (by omega)
    have h13 : (vs 13) = .agg #[.int .u8 (R : Int), .int .i64 (e : Int)] := hR 13 (by omega)
    have h14 : ∃ x, (vs 14) = .slice (some ⟨x, 0, none⟩) 64 64 ∧ q1.heap.size ≤ x ∧ Bs (fun b => b = x) p (some ⟨x, 0, none⟩) 64 64 (desB R e) := hR 14 (by omega)
    have h15 : (vs 15) = .int .i64 0 := hR 15 (by omega)
    clear hR
    simp only [List.range_succ, List.range_zero, List.nil_append, List.cons_append, Roll.putD, Act.put, List.getD_cons_zero, List.getD_cons_succ, List.setIfInBounds_toArray, List.set_cons_zero, List.set_cons_succ, List.drop_succ_cons, List.drop_zero, Ddc2]
    simp only [h0, h1, h2, h3, h4, h5, h6, h7, h8, h9, h10, h11, h12, h13, h15]
    clear h0 h1 h2 h3 h4 h5 h6 h7 h8 h9 h10 h11 h12 h13 h15
    have HL1 := Lib.hid hI.1
    clear hI h14
    generalize vs 14 = v14 at *
    obtain ⟨D1, hD1⟩ : ∃ D1, D1 = d.write K (desB R e) := ⟨_, rfl⟩
    rw [← hD1] at HL1
    have HD1 := Lib.hid hD1
    have hi1 : (stateO g5 R e :: L.set j (diskO g D1))[i + 1]? = some (logO gl g m) := by
      rw [List.getElem?_cons_succ, List.getElem?_set_ne (fun e => HIJ.out e.symm)]
      simpa using HI.out
    have hj1 : (stateO g5 R e :: L.set j (diskO g D1))[j + 1]? = some (diskO g D1) := by rw [List.getElem?_cons_succ, List.getElem?_set_self HJL.out]
    obtain ⟨_, _, -, -, hg1, d0, -, -, -, -, -, -, -, fz⟩ := HL1.out.logFacts hi1
    have HI1 := Lib.hid hi1
    have HJ1 := Lib.hid hj1
    have HO1 : Hid (D1.on = false) := Lib.hid (by rw [HD1.out, HK.out, HP.out, HR.out]; exact ho1)
    clear hD1 hi1 hj1 ho1
    go_wp2_with (first
      | (go_at_call 29; refine (flush_lv_off HL1.out HJ1.out HO1.out).mono ?_; rintro e w1 ⟨rfl, rfl⟩))
    go_ret
    refine ⟨rfl, ?_⟩
    have := HL1.out.tail
    rw [HD1.out, HK.out, HP.out, HR.out] at this
    exact this
set_option maxRecDepth 100000 in
set_option maxHeartbeats 4000000 in
theorem describe_ok (h : Lv w0 w L) (hi : L[i]? = some (logO gl g m)) (hj : L[j]? = some (diskO g d)) (hij : i ≠ j) (e : Nat) (he : e < 16777216) (hr : m.rnd < 256) (hf : m.frm + 1 < d.S.length) (hN : d.Ok 100000) (ho : d.on = true) (ho1 : (d.write (m.frm + (m.rnd + 1) % 256 % 2) (desB ((m.rnd + 1) % 256) e)).on = true) :
    Calls Tryd.prog 30 #[.pointer (some ⟨gl, 0, none⟩), .int .i64 (e : Int)] w fun x w' => x = .returned (.int .i64 0) ∧ Lv w0 w' ((L.set j (diskO g (d.write (m.frm + (m.rnd + 1) % 256 % 2) (desB ((m.rnd + 1) % 256) e)).flush)).set i (logO gl g {m with rnd := (m.rnd + 1) % 256, en := e})) := by
  obtain ⟨a, c, h1, h2, hg, -, -, -, c3, -, -, -, -, f0⟩ := h.logFacts hi
  obtain ⟨R, hR⟩ : ∃ R, R = (m.rnd + 1) % 256 := ⟨_, rfl⟩
  obtain ⟨P, hP⟩ : ∃ P, P = R % 2 := ⟨_, rfl⟩
  obtain ⟨K, hK⟩ : ∃ K, K = m.frm + P := ⟨_, rfl⟩
  obtain ⟨q1, hq1⟩ : ∃ q1, q1 = (w.alloc (.cells #[.int .u8 0, .int .i64 0] 60)).setRow w.heap.size #[.int .u8 (R : Int), .int .i64 (e : Int)] := ⟨_, rfl⟩
  obtain ⟨g5, hg5⟩ : ∃ g5, g5 = w.heap.size := ⟨_, rfl⟩
  have hbq : Below w.heap.size w q1 := by rw [hq1]; exact below_setRow ((Below.refl _ _).alloc (Nat.le_refl _) _) (Nat.le_refl _) _
  have HZ5 : Hid (q1.heap[g5]? = some (.cells #[.int .u8 (R : Int), .int .i64 (e : Int)] 60 (0, 0))) := Lib.hid (by rw [hq1, hg5]; exact setRow_heap _ _ _ _ _ _ (heap_new rfl))
  have hlq : Lv w0 q1 (stateO g5 R e :: L) := h.cons hbq (B := fun x => x = g5) ⟨HZ5.out, rfl⟩ (fun x hx => by subst hx; exact ⟨by omega, (Array.getElem?_eq_some_iff.1 HZ5.out).1⟩)
  have hi2 : (stateO g5 R e :: L)[i + 1]? = some (logO gl g m) := by simpa using hi
  have hj2 : (stateO g5 R e :: L)[j + 1]? = some (diskO g d) := by simpa using hj
  obtain ⟨_, _, -, -, hgq, c0, c1, c2, -, c4, c5, c6, c7, -⟩ := hlq.logFacts hi2
  obtain ⟨B, ⟨gd, gm, row, N, hd, hBB⟩, hlt, hoth, hset⟩ := hlq.get hj2
  have hglB : ¬ B gl := by
    obtain ⟨B2, ⟨k2, Bf2, v2, _, hb2⟩, hne⟩ := hoth (i + 1) _ (by omega) hi2
    exact hne gl (hb2 gl (.inl rfl))
  have hg5B : ¬ B g5 := by
    obtain ⟨B2, ⟨_, hb2⟩, hne⟩ := hoth 0 (stateO g5 R e) (by omega) rfl
    exact hne g5 hb2
  have hS := hd.ok.2.1
  have hw1 : IntKind.u8.wrap ((m.rnd : Int) + 1) = (R : Int) := by rw [IntKind.wrap_u8]; omega
  have hpt : Int.tmod (R : Int) 2 = (P : Int) := by rw [Int.tmod_eq_emod_of_nonneg (by omega)]; omega
  have HPW : Hid (Int.tmod (R : Int) 2 = (P : Int) ∧ IntKind.u8.wrap (Int.tmod (R : Int) 2) = (P : Int)) := Lib.hid ⟨hpt, by rw [hpt, IntKind.wrap_u8]; omega⟩
  have HCW : Hid (IntKind.i64.wrap (P : Int) = (P : Int)) := Lib.hid (i64_id _ (by omega) (by omega))
  have HKW : Hid (IntKind.i64.wrap ((m.frm : Int) + (P : Int)) = (K : Int)) := Lib.hid (by rw [i64_id _ (by omega) (by omega)]; omega)
  have HRB : Hid (R < 256) := Lib.hid (by omega)
  have HEB : Hid (e < 16777216) := Lib.hid he
  have HKS : Hid (K < d.S.length) := Lib.hid (by omega)
  have HKH : Hid (hasB d (K : Int) = true) := Lib.hid (by unfold hasB; rw [decide_eq_true]; omega)
  have HN := Lib.hid hN
  have HON := Lib.hid ho
  have HD := Lib.hid hd
  have HBB := Lib.hid hBB
  have HSET := Lib.hid hset
  have HLT : Hid (∀ j, B j → j < q1.heap.size) := Lib.hid (fun j hj => (hlt j hj).2)
  have HGL : Hid (gl < q1.heap.size ∧ ¬ B gl) := Lib.hid ⟨hgq, hglB⟩
  have C0 := Lib.hid c0
  have C1 := Lib.hid c1
  have HL := Lib.hid h
  have HI := Lib.hid hi2
  have HJ := Lib.hid hj2
  have HIJ := Lib.hid hij
  have HJL := Lib.hid (List.getElem?_eq_some_iff.1 hj).1
  have hb := run_buildS
  have HBQ := Lib.hid hbq
  have HG5B := Lib.hid hg5B
  have HQ1 := Lib.hid hq1
  have HG5 := Lib.hid hg5
  have HR := Lib.hid hR
  have HK := Lib.hid hK
  have HP := Lib.hid hP
  clear hd hBB hlt hoth hset hglB hg5B hR hP hK hq1 hg5 h hi hj hi2 hj2 hlq hbq hN ho c0 c1 c2 c4 c5 c6 c7 f0 hpt hij hr he hf hS hgq
  go_enter Tryd.func30, Tryd.ntmps30
  go_wp2_with (first
    | (refine wpList_alloc_z rfl 60 rfl _ 60 run_allocS ?_)
    | (refine wpList_store_row rfl 60 (.tmp 5) (.tmp 15) rfl w.heap.size _ rfl rfl 60 _ (heap_new rfl) (sizeS _ _) rfl (oneS _ _) ?_))
  rw [← HQ1.out, ← HG5.out]
  refine Roll.region_w 16 47 Ddc2 Ldc2 [(0, .pointer (some ⟨gl, 0, none⟩)), (5, .pointer (some ⟨g5, 0, none⟩))] 15 [true, true, true, true, true, true, true, true, true, true, true, true, true, true, false, false] (fun p => Below q1.heap.size q1 p ∧ p.heap[g5]? = some (.cells #[.int .u8 (R : Int), .int .i64 (e : Int)] 60 (0, 0))) (fun vv p => Lv w0 p (stateO g5 R e :: L.set j (diskO g (d.write K (desB R e)))) ∧ Kept B q1 p ∧ p.heap[g5]? = some (.cells #[.int .u8 (R : Int), .int .i64 (e : Int)] 60 (0, 0))) (fun p => Kept B q1 p ∧ p.heap[g5]? = some (.cells #[.int .u8 (R : Int), .int .i64 (e : Int)] 60 (0, 0))) (fun p p2 => Kept B p p2) [fun vv p => (vv 0) = .pointer (some ⟨gl, 0, none⟩), fun vv p => (vv 1) = .pointer (some ⟨gl, 0, none⟩), fun vv p => (vv 2) = .pointer (some ⟨gl, 0, none⟩), fun vv p => (vv 3) = .pointer (some ⟨g, 0, none⟩), fun vv p => (vv 4) = .pointer (some ⟨gl, 0, none⟩), fun vv p => (vv 5) = .pointer (some ⟨gl, 0, none⟩), fun vv p => (vv 6) = .pointer (some ⟨gl, 1, none⟩), fun vv p => (vv 7) = .int .i64 (m.frm : Int), fun vv p => (vv 8) = .pointer (some ⟨g5, 0, none⟩), fun vv p => (vv 9) = .int .u8 (R : Int), fun vv p => (vv 10) = .int .u8 (P : Int), fun vv p => (vv 11) = .int .i64 (P : Int), fun vv p => (vv 12) = .int .i64 (K : Int), fun vv p => (vv 13) = .agg #[.int .u8 (R : Int), .int .i64 (e : Int)], fun vv p => ∃ x, (vv 14) = .slice (some ⟨x, 0, none⟩) 64 64 ∧ q1.heap.size ≤ x ∧ Bs (fun b => b = x) p (some ⟨x, 0, none⟩) 64 64 (desB R e), fun vv p => (vv 15) = .int .i64 0] (by kernel_rfl) (by kernel_rfl) rfl ⟨rfl, rfl, trivial⟩ (⟨(Below.refl _ _).drew, HZ5.out⟩) (by decide) (by kernel_rfl) (fun _ h => ⟨Kept.of_below _ h.1, h.2⟩) (fun _ _ h => h.2) (fun _ => Kept.refl _ _) ?_ ?_ ?_
  · exact ⟨fun _ _ _ _ h => h, fun _ _ _ _ h => h, fun _ _ _ _ h => h, fun _ _ _ _ h => h, fun _ _ _ _ h => h, fun _ _ _ _ h => h, fun _ _ _ _ h => h, fun _ _ _ _ h => h, fun _ _ _ _ h => h, fun _ _ _ _ h => h, fun _ _ _ _ h => h, fun _ _ _ _ h => h, fun _ _ _ _ h => h, fun _ _ _ _ h => h, fun _ _ _ hs h => by obtain ⟨x, e1, e2, e3⟩ := h; exact ⟨x, e1, e2, e3.kept hs (fun b _ hb hB => by subst hb; have := HLT.out b hB; omega)⟩, fun _ _ _ _ h => h, trivial⟩
  · intro b0 hN hlv
    refine ⟨?_, ?_, ?_, ?_, ?_, ?_, ?_, ?_, ?_, ?_, ?_, ?_, ?_, ?_, ?_, ?_, trivial⟩
    · intro vs p hI0 hp
      have hI := Roll.inw_pure (by decide) rfl hI0
      clear hI0
      have e0 : (Roll.putD Ddc2 vs [] b0).eval (.tmp 0) = .pointer (some ⟨gl, 0, none⟩) := (Roll.eval_old rfl).trans (hlv.at 0 (0, .pointer (some ⟨gl, 0, none⟩)) rfl)
      clear hp hlv hN
      unfold Roll.Goes
      simp only [Ldc2, List.getD_cons_zero, List.getD_cons_succ]
      generalize Roll.putD Ddc2 vs [] b0 = a1 at *
      refine Roll.goes_val (w' := p) (.pointer (some ⟨gl, 0, none⟩)) rfl ?_ ⟨(Roll.outw_pure (by decide) rfl), rfl⟩
      (have ec : ∀ x, a1.eval (.const x) = x := fun _ => rfl); (have ef : ∀ x, a1.eval (.func x) = .func (.func x) #[] #[] := fun _ => rfl); generalize a1.eval = ρ at *
      skip
      go_simp <;> (intros; first | (exfalso; omega) | rfl)
    · intro vs p hI0 hp
      have hI := Roll.inw_pure (by decide) rfl hI0
      clear hI0
      have h0 : (vs 0) = .pointer (some ⟨gl, 0, none⟩) := hp 0 (by simp [Ldc2])
      have e16 : (Roll.putD Ddc2 vs [0] b0).eval (.tmp 16) = .pointer (some ⟨gl, 0, none⟩) := (Roll.eval_new 0 rfl (by decide) (by decide) (by omega)).trans h0
      clear hp hlv hN
      unfold Roll.Goes
      simp only [Ldc2, List.getD_cons_zero, List.getD_cons_succ]
      generalize Roll.putD Ddc2 vs [0] b0 = a1 at *
      refine Roll.goes_val (w' := p) (.pointer (some ⟨gl, 0, none⟩)) rfl ?_ ⟨(Roll.outw_pure (by decide) rfl), rfl⟩
      (have ec : ∀ x, a1.eval (.const x) = x := fun _ => rfl); (have ef : ∀ x, a1.eval (.func x) = .func (.func x) #[] #[] := fun _ => rfl); generalize a1.eval = ρ at *
      clear h0
      go_simp <;> (intros; first | (exfalso; omega) | rfl)
    · intro vs p hI0 hp
      have hI := Roll.inw_pure (by decide) rfl hI0
      clear hI0
      have h1 : (vs 1) = .pointer (some ⟨gl, 0, none⟩) := hp 1 (by simp [Ldc2])
      have e17 : (Roll.putD Ddc2 vs [1] b0).eval (.tmp 17) = .pointer (some ⟨gl, 0, none⟩) := (Roll.eval_new 1 rfl (by decide) (by decide) (by omega)).trans h1
      clear hp hlv hN
      unfold Roll.Goes
      simp only [Ldc2, List.getD_cons_zero, List.getD_cons_succ]
      generalize Roll.putD Ddc2 vs [1] b0 = a1 at *
      refine Roll.goes_val (w' := p) (.pointer (some ⟨gl, 0, none⟩)) rfl ?_ ⟨(Roll.outw_pure (by decide) rfl), rfl⟩
      (have ec : ∀ x, a1.eval (.const x) = x := fun _ => rfl); (have ef : ∀ x, a1.eval (.func x) = .func (.func x) #[] #[] := fun _ => rfl); generalize a1.eval = ρ at *
      clear h1
      go_simp <;> (intros; first | (exfalso; omega) | rfl)
    · intro vs p hI0 hp
      have hI := Roll.inw_pure (by decide) rfl hI0
      clear hI0
      have h2 : (vs 2) = .pointer (some ⟨gl, 0, none⟩) := hp 2 (by simp [Ldc2])
      have e18 : (Roll.putD Ddc2 vs [2] b0).eval (.tmp 18) = .pointer (some ⟨gl, 0, none⟩) := (Roll.eval_new 2 rfl (by decide) (by decide) (by omega)).trans h2
      clear hp hlv hN
      unfold Roll.Goes
      simp only [Ldc2, List.getD_cons_zero, List.getD_cons_succ]
      generalize Roll.putD Ddc2 vs [2] b0 = a1 at *
      have cf : p.cell? ⟨gl, 0, none⟩ = some (.pointer (some ⟨g, 0, none⟩)) := (hI.1.cell (p := ⟨gl, 0, none⟩) HGL.out.1 HGL.out.2).trans C0.out
      refine Roll.goes_val (w' := p) (.pointer (some ⟨g, 0, none⟩)) rfl ?_ ⟨(Roll.outw_pure (by decide) rfl), rfl⟩
      (have ec : ∀ x, a1.eval (.const x) = x := fun _ => rfl); (have ef : ∀ x, a1.eval (.func x) = .func (.func x) #[] #[] := fun _ => rfl); generalize a1.eval = ρ at *
      clear h2
      go_simp <;> (intros; first | (exfalso; omega) | rfl)
    · intro vs p hI0 hp
      have hI := Roll.inw_pure (by decide) rfl hI0
      clear hI0
      have e0 : (Roll.putD Ddc2 vs [] b0).eval (.tmp 0) = .pointer (some ⟨gl, 0, none⟩) := (Roll.eval_old rfl).trans (hlv.at 0 (0, .pointer (some ⟨gl, 0, none⟩)) rfl)
      clear hp hlv hN
      unfold Roll.Goes
      simp only [Ldc2, List.getD_cons_zero, List.getD_cons_succ]
      generalize Roll.putD Ddc2 vs [] b0 = a1 at *
      refine Roll.goes_val (w' := p) (.pointer (some ⟨gl, 0, none⟩)) rfl ?_ ⟨(Roll.outw_pure (by decide) rfl), rfl⟩
      (have ec : ∀ x, a1.eval (.const x) = x := fun _ => rfl); (have ef : ∀ x, a1.eval (.func x) = .func (.func x) #[] #[] := fun _ => rfl); generalize a1.eval = ρ at *
      skip
      go_simp <;> (intros; first | (exfalso; omega) | rfl)
    · intro vs p hI0 hp
      have hI := Roll.inw_pure (by decide) rfl hI0
      clear hI0
      have h4 : (vs 4) = .pointer (some ⟨gl, 0, none⟩) := hp 4 (by simp [Ldc2])
      have e20 : (Roll.putD Ddc2 vs [4] b0).eval (.tmp 20) = .pointer (some ⟨gl, 0, none⟩) := (Roll.eval_new 4 rfl (by decide) (by decide) (by omega)).trans h4
      clear hp hlv hN
      unfold Roll.Goes
      simp only [Ldc2, List.getD_cons_zero, List.getD_cons_succ]
      generalize Roll.putD Ddc2 vs [4] b0 = a1 at *
      refine Roll.goes_val (w' := p) (.pointer (some ⟨gl, 0, none⟩)) rfl ?_ ⟨(Roll.outw_pure (by decide) rfl), rfl⟩
      (have ec : ∀ x, a1.eval (.const x) = x := fun _ => rfl); (have ef : ∀ x, a1.eval (.func x) = .func (.func x) #[] #[] := fun _ => rfl); generalize a1.eval = ρ at *
      clear h4
      go_simp <;> (intros; first | (exfalso; omega) | rfl)
    · intro vs p hI0 hp
      have hI := Roll.inw_pure (by decide) rfl hI0
      clear hI0
      have h5 : (vs 5) = .pointer (some ⟨gl, 0, none⟩) := hp 5 (by simp [Ldc2])
      have e21 : (Roll.putD Ddc2 vs [5] b0).eval (.tmp 21) = .pointer (some ⟨gl, 0, none⟩) := (Roll.eval_new 5 rfl (by decide) (by decide) (by omega)).trans h5
      clear hp hlv hN
      unfold Roll.Goes
      simp only [Ldc2, List.getD_cons_zero, List.getD_cons_succ]
      generalize Roll.putD Ddc2 vs [5] b0 = a1 at *
      refine Roll.goes_val (w' := p) (.pointer (some ⟨gl, 1, none⟩)) rfl ?_ ⟨(Roll.outw_pure (by decide) rfl), rfl⟩
      (have ec : ∀ x, a1.eval (.const x) = x := fun _ => rfl); (have ef : ∀ x, a1.eval (.func x) = .func (.func x) #[] #[] := fun _ => rfl); generalize a1.eval = ρ at *
      clear h5
      go_simp <;> (intros; first | (exfalso; omega) | rfl)
    · intro vs p hI0 hp
      have hI := Roll.inw_pure (by decide) rfl hI0
      clear hI0
      have h6 : (vs 6) = .pointer (some ⟨gl, 1, none⟩) := hp 6 (by simp [Ldc2])
      have e22 : (Roll.putD Ddc2 vs [6] b0).eval (.tmp 22) = .pointer (some ⟨gl, 1, none⟩) := (Roll.eval_new 6 rfl (by decide) (by decide) (by omega)).trans h6
      clear hp hlv hN
      unfold Roll.Goes
      simp only [Ldc2, List.getD_cons_zero, List.getD_cons_succ]
      generalize Roll.putD Ddc2 vs [6] b0 = a1 at *
      have cf : p.cell? ⟨gl, 1, none⟩ = some (.int .i64 (m.frm : Int)) := (hI.1.cell (p := ⟨gl, 1, none⟩) HGL.out.1 HGL.out.2).trans C1.out
      refine Roll.goes_val (w' := p) (.int .i64 (m.frm : Int)) rfl ?_ ⟨(Roll.outw_pure (by decide) rfl), rfl⟩
      (have ec : ∀ x, a1.eval (.const x) = x := fun _ => rfl); (have ef : ∀ x, a1.eval (.func x) = .func (.func x) #[] #[] := fun _ => rfl); generalize a1.eval = ρ at *
      clear h6
      go_simp <;> (intros; first | (exfalso; omega) | rfl)
    · intro vs p hI0 hp
      have hI := Roll.inw_pure (by decide) rfl hI0
      clear hI0
      have e5 : (Roll.putD Ddc2 vs [] b0).eval (.tmp 5) = .pointer (some ⟨g5, 0, none⟩) := (Roll.eval_old rfl).trans (hlv.at 1 (5, .pointer (some ⟨g5, 0, none⟩)) rfl)
      clear hp hlv hN
      unfold Roll.Goes
      simp only [Ldc2, List.getD_cons_zero, List.getD_cons_succ]
      generalize Roll.putD Ddc2 vs [] b0 = a1 at *
      refine Roll.goes_val (w' := p) (.pointer (some ⟨g5, 0, none⟩)) rfl ?_ ⟨(Roll.outw_pure (by decide) rfl), rfl⟩
      (have ec : ∀ x, a1.eval (.const x) = x := fun _ => rfl); (have ef : ∀ x, a1.eval (.func x) = .func (.func x) #[] #[] := fun _ => rfl); generalize a1.eval = ρ at *
      skip
      go_simp <;> (intros; first | (exfalso; omega) | rfl)
    · intro vs p hI0 hp
      have hI := Roll.inw_pure (by decide) rfl hI0
      clear hI0
      have h8 : (vs 8) = .pointer (some ⟨g5, 0, none⟩) := hp 8 (by simp [Ldc2])
      have e24 : (Roll.putD Ddc2 vs [8] b0).eval (.tmp 24) = .pointer (some ⟨g5, 0, none⟩) := (Roll.eval_new 8 rfl (by decide) (by decide) (by omega)).trans h8
      clear hp hlv hN
      unfold Roll.Goes
      simp only [Ldc2, List.getD_cons_zero, List.getD_cons_succ]
      generalize Roll.putD Ddc2 vs [8] b0 = a1 at *
      have cf : p.cell? ⟨g5, 0, none⟩ = some (.int .u8 (R : Int)) := by rw [cell_of_row p g5 0 _ _ _ hI.2]; rfl
      refine Roll.goes_val (w' := p) (.int .u8 (R : Int)) rfl ?_ ⟨(Roll.outw_pure (by decide) rfl), rfl⟩
      (have ec : ∀ x, a1.eval (.const x) = x := fun _ => rfl); (have ef : ∀ x, a1.eval (.func x) = .func (.func x) #[] #[] := fun _ => rfl); generalize a1.eval = ρ at *
      clear h8
      go_simp <;> (intros; first | (exfalso; omega) | rfl)
    · intro vs p hI0 hp
      have hI := Roll.inw_pure (by decide) rfl hI0
      clear hI0
      have h9 : (vs 9) = .int .u8 (R : Int) := hp 9 (by simp [Ldc2])
      have e25 : (Roll.putD Ddc2 vs [9] b0).eval (.tmp 25) = .int .u8 (R : Int) := (Roll.eval_new 9 rfl (by decide) (by decide) (by omega)).trans h9
      clear hp hlv hN
      unfold Roll.Goes
      simp only [Ldc2, List.getD_cons_zero, List.getD_cons_succ]
      generalize Roll.putD Ddc2 vs [9] b0 = a1 at *
      have hpw := HPW.out
      refine Roll.goes_val (w' := p) (.int .u8 (P : Int)) rfl ?_ ⟨(Roll.outw_pure (by decide) rfl), rfl⟩
      (have ec : ∀ x, a1.eval (.const x) = x := fun _ => rfl); (have ef : ∀ x, a1.eval (.func x) = .func (.func x) #[] #[] := fun _ => rfl); generalize a1.eval = ρ at *
      clear h9
      go_simp <;> (intros; first | (exfalso; omega) | rfl)
    · intro vs p hI0 hp
      have hI := Roll.inw_pure (by decide) rfl hI0
      clear hI0
      have h10 : (vs 10) = .int .u8 (P : Int) := hp 10 (by simp [Ldc2])
      have e26 : (Roll.putD Ddc2 vs [10] b0).eval (.tmp 26) = .int .u8 (P : Int) := (Roll.eval_new 10 rfl (by decide) (by decide) (by omega)).trans h10
      clear hp hlv hN
      unfold Roll.Goes
      simp only [Ldc2, List.getD_cons_zero, List.getD_cons_succ]
      generalize Roll.putD Ddc2 vs [10] b0 = a1 at *
      have hcw := HCW.out
      refine Roll.goes_val (w' := p) (.int .i64 (P : Int)) rfl ?_ ⟨(Roll.outw_pure (by decide) rfl), rfl⟩
      (have ec : ∀ x, a1.eval (.const x) = x := fun _ => rfl); (have ef : ∀ x, a1.eval (.func x) = .func (.func x) #[] #[] := fun _ => rfl); generalize a1.eval = ρ at *
      clear h10
      go_simp <;> (intros; first | (exfalso; omega) | rfl)
    · intro vs p hI0 hp
      have hI := Roll.inw_pure (by decide) rfl hI0
      clear hI0
      have h7 : (vs 7) = .int .i64 (m.frm : Int) := hp 7 (by simp [Ldc2])
      have h11 : (vs 11) = .int .i64 (P : Int) := hp 11 (by simp [Ldc2])
      have e23 : (Roll.putD Ddc2 vs [7, 11] b0).eval (.tmp 23) = .int .i64 (m.frm : Int) := (Roll.eval_new 7 rfl (by decide) (by decide) (by omega)).trans h7
      have e27 : (Roll.putD Ddc2 vs [7, 11] b0).eval (.tmp 27) = .int .i64 (P : Int) := (Roll.eval_new 11 rfl (by decide) (by decide) (by omega)).trans h11
      clear hp hlv hN
      unfold Roll.Goes
      simp only [Ldc2, List.getD_cons_zero, List.getD_cons_succ]
      generalize Roll.putD Ddc2 vs [7, 11] b0 = a1 at *
      have hkw := HKW.out
      refine Roll.goes_val (w' := p) (.int .i64 (K : Int)) rfl ?_ ⟨(Roll.outw_pure (by decide) rfl), rfl⟩
      (have ec : ∀ x, a1.eval (.const x) = x := fun _ => rfl); (have ef : ∀ x, a1.eval (.func x) = .func (.func x) #[] #[] := fun _ => rfl); generalize a1.eval = ρ at *
      clear h7 h11
      go_simp <;> (intros; first | (exfalso; omega) | rfl)
    · intro vs p hI0 hp
      have hI := Roll.inw_pure (by decide) rfl hI0
      clear hI0
      have e5 : (Roll.putD Ddc2 vs [] b0).eval (.tmp 5) = .pointer (some ⟨g5, 0, none⟩) := (Roll.eval_old rfl).trans (hlv.at 1 (5, .pointer (some ⟨g5, 0, none⟩)) rfl)
      clear hp hlv hN
      unfold Roll.Goes
      simp only [Ldc2, List.getD_cons_zero, List.getD_cons_succ]
      generalize Roll.putD Ddc2 vs [] b0 = a1 at *
      refine Roll.goes_load_row rfl 60 (.tmp 5) rfl g5 e5 60 _ (0, 0) _ hI.2 Tryd.underlying60 rfl (sizeS _ _) ⟨(Roll.outw_pure (by decide) rfl), rfl⟩
    · intro vs p hI0 hp
      have hI := Roll.inw_pre (by decide) rfl hI0
      clear hI0
      have h13 : (vs 13) = .agg #[.int .u8 (R : Int), .int .i64 (e : Int)] := hp 13 (by simp [Ldc2])
      have e29 : (Roll.putD Ddc2 vs [13] b0).eval (.tmp 29) = .agg #[.int .u8 (R : Int), .int .i64 (e : Int)] := (Roll.eval_new 13 rfl (by decide) (by decide) (by omega)).trans h13
      clear hp hlv hN
      unfold Roll.Goes
      simp only [Ldc2, List.getD_cons_zero, List.getD_cons_succ]
      generalize Roll.putD Ddc2 vs [13] b0 = a1 at *
      refine Roll.goes_call 51 #[.agg #[.int .u8 (R : Int), .int .i64 (e : Int)]] p rfl (by have ec : ∀ x, a1.eval (.const x) = x := fun _ => rfl; have ef : ∀ x, a1.eval (.func x) = .func (.func x) #[] #[] := fun _ => rfl; generalize a1.eval = ρ at *; go_simp) ?_
      refine (sector_any R e HRB.out HEB.out p).mono ?_
      rintro y p2 ⟨x, rfl, hx, hbx, hbl⟩
      exact ⟨_, rfl, Roll.outw_pre (by decide) rfl ⟨hI.1.trans (hbl.mono hI.1.size), (Kept.of_below (fun _ => False) hbl).heap hI.2 (fun h => h)⟩ (Kept.of_below _ hbl), x, rfl, Nat.le_trans hI.1.size hx, hbx⟩
    · intro vs p hI0 hp
      have hI := Roll.inw_k0 rfl hI0
      clear hI0
      have h3 : (vs 3) = .pointer (some ⟨g, 0, none⟩) := hp 3 (by simp [Ldc2])
      have h12 : (vs 12) = .int .i64 (K : Int) := hp 12 (by simp [Ldc2])
      have h14 : ∃ x, (vs 14) = .slice (some ⟨x, 0, none⟩) 64 64 ∧ q1.heap.size ≤ x ∧ Bs (fun b => b = x) p (some ⟨x, 0, none⟩) 64 64 (desB R e) := hp 14 (by simp [Ldc2])
      have e19 : (Roll.putD Ddc2 vs [3, 12, 14] b0).eval (.tmp 19) = .pointer (some ⟨g, 0, none⟩) := (Roll.eval_new 3 rfl (by decide) (by decide) (by omega)).trans h3
      have e28 : (Roll.putD Ddc2 vs [3, 12, 14] b0).eval (.tmp 28) = .int .i64 (K : Int) := (Roll.eval_new 12 rfl (by decide) (by decide) (by omega)).trans h12
      have e30 : (Roll.putD Ddc2 vs [3, 12, 14] b0).eval (.tmp 30) = vs 14 := (Roll.eval_new 14 rfl (by decide) (by decide) (by omega))
      clear hp hlv hN
      unfold Roll.Goes
      simp only [Ldc2, List.getD_cons_zero, List.getD_cons_succ]
      generalize Roll.putD Ddc2 vs [3, 12, 14] b0 = a1 at *
      obtain ⟨x, hv14, hx, hbx⟩ := h14
      rw [hv14] at e30
      refine Roll.goes_call 49 #[.pointer (some ⟨g, 0, none⟩), .int .i64 (K : Int), .slice (some ⟨x, 0, none⟩) 64 64] p rfl (by have ec : ∀ x, a1.eval (.const x) = x := fun _ => rfl; have ef : ∀ x, a1.eval (.func x) = .func (.func x) #[] #[] := fun _ => rfl; generalize a1.eval = ρ at *; go_simp) ?_
      have hdp := HD.out.kept (Kept.of_below (fun _ => False) hI.1) (fun _ _ h => h)
      refine (write_ok (hdp.bound HN.out) hbx K HKS.out HON.out (Nat.le_refl _)).mono ?_
      rintro y p2 ⟨rfl, row', hd2, hk2, hf2⟩
      have KB : Kept B p p2 := hk2.mono (fun j _ hj => HBB.out j hj)
      have KQ : Kept B q1 p2 := (Kept.of_below B hI.1).trans KB (fun _ _ h => h)
      exact ⟨_, rfl, Roll.outw_k0 rfl ⟨HSET.out p2 _ (Blk g gd gm row') ⟨gd, gm, row', _, hd2, fun _ h => h⟩ KQ (fun j hj => (hf2 j hj).imp (HBB.out j) (fun e => Nat.le_trans hI.1.size e)) (fun j hj => hd2.lt j hj), KQ, KB.heap hI.2 (fun e => HG5B.out e)⟩ KB, rfl⟩
  · intro vs p hI hR
    have h0 : (vs 0) = .pointer (some ⟨gl, 0, none⟩) := hR 0 (by omega)
    have h1 : (vs 1) = .pointer (some ⟨gl, 0, none⟩) := hR 1 (by omega)
    have h2 : (vs 2) = .pointer (some ⟨gl, 0, none⟩) := hR 2 (by omega)
    have h3 : (vs 3) = .pointer (some ⟨g, 0, none⟩) := hR 3 (by omega)
    have h4 : (vs 4) = .pointer (some ⟨gl, 0, none⟩) := hR 4 (by omega)
    have h5 : (vs 5) = .pointer (some ⟨gl, 0, none⟩) := hR 5 (by omega)
    have h6 : (vs 6) = .pointer (some ⟨gl, 1, none⟩) := hR 6 (by omega)
    have h7 : (vs 7) = .int .i64 (m.frm : Int) := hR 7 (by omega)
    have h8 : (vs 8) = .pointer (some ⟨g5, 0, none⟩) := hR 8 (by omega)
    have h9 : (vs 9) = .int .u8 (R : Int) := hR 9 (by omega)
    have h10 : (vs 10) = .int .u8 (P : Int) := hR 10 (by omega)
    have h11 : (vs 11) = .int .i64 (P : Int) := hR 11 (by omega)
    have h12 : (vs 12) = .int .i64 (K : Int) := hR 12 (by omega)
    have h13 : (vs 13) = .agg #[.int .u8 (R : Int), .int .i64 (e : Int)] := hR 13 (by omega)
    have h14 : ∃ x, (vs 14) = .slice (some ⟨x, 0, none⟩) 64 64 ∧ q1.heap.size ≤ x ∧ Bs (fun b => b = x) p (some ⟨x, 0, none⟩) 64 64 (desB R e) := hR 14 (by omega)
    have h15 : (vs 15) = .int .i64 0 := hR 15 (by omega)
    clear hR
    simp only [List.range_succ, List.range_zero, List.nil_append, List.cons_append, Roll.putD, Act.put, List.getD_cons_zero, List.getD_cons_succ, List.setIfInBounds_toArray, List.set_cons_zero, List.set_cons_succ, List.drop_succ_cons, List.drop_zero, Ddc2]
    simp only [h0, h1, h2, h3, h4, h5, h6, h7, h8, h9, h10, h11, h12, h13, h15]
    clear h0 h1 h2 h3 h4 h5 h6 h7 h8 h9 h10 h11 h12 h13 h15
    have HL1 := Lib.hid hI.1
    clear hI h14
    generalize vs 14 = v14 at *
    obtain ⟨D1, hD1⟩ : ∃ D1, D1 = d.write K (desB R e) := ⟨_, rfl⟩
    rw [← hD1] at HL1
    have HD1 := Lib.hid hD1
    have hi1 : (stateO g5 R e :: L.set j (diskO g D1))[i + 1]? = some (logO gl g m) := by
      rw [List.getElem?_cons_succ, List.getElem?_set_ne (fun e => HIJ.out e.symm)]
      simpa using HI.out
    have hj1 : (stateO g5 R e :: L.set j (diskO g D1))[j + 1]? = some (diskO g D1) := by rw [List.getElem?_cons_succ, List.getElem?_set_self HJL.out]
    obtain ⟨_, _, -, -, hg1, d0, -, -, -, -, -, -, -, fz⟩ := HL1.out.logFacts hi1
    have HI1 := Lib.hid hi1
    have HJ1 := Lib.hid hj1
    have HO1 : Hid (D1.on = true) := Lib.hid (by rw [HD1.out, HK.out, HP.out, HR.out]; exact ho1)
    clear hD1 hi1 hj1 ho1
    go_upto_region 8 with (first
      | (have x1 := HL1.out; go_at_call 29; refine (flush_lv x1 HJ1.out HO1.out).mono ?_; rintro e w1 ⟨rfl, hl2⟩; have HL2 : Hid (Lv w0 w1 (stateO g5 R e :: (L.set j (diskO g D1)).set j (diskO g D1.flush))) := Lib.hid hl2; clear hl2 x1 HL1))
    obtain ⟨_, ⟨hz5, -⟩, -, -, -⟩ := HL2.out.get (i := 0) rfl
    have hi3 : (stateO g5 R e :: (L.set j (diskO g D1)).set j (diskO g D1.flush))[i + 1]? = some (logO gl g m) := by
      rw [List.getElem?_cons_succ, List.getElem?_set_ne (fun e => HIJ.out e.symm), List.getElem?_set_ne (fun e => HIJ.out e.symm)]
      simpa using HI.out
    obtain ⟨_, _, -, -, hg3, d0, d1, d2, d3, d4, -, -, -, fz⟩ := HL2.out.logFacts hi3
    have HTH : Hid (w1.there gl 3 2) := Lib.hid (fun j hj => by
      have : j = 0 ∨ j = 1 := by omega
      rcases this with rfl | rfl
      · exact ⟨by rw [d3]; rfl, fz _⟩
      · exact ⟨by rw [d4]; rfl, fz _⟩)
    have HL3 := Lib.hid (HL2.out.logState hi3 R e)
    have HZ5w := Lib.hid hz5
    clear hz5 d1 d2 d3 d4 hi3
    go_wp2_with (first
      | (refine wpList_load_row rfl 60 (.tmp 5) rfl g5 rfl 60 _ (0, 0) _ HZ5w.out Tryd.underlying60 rfl (sizeS _ _) ?_)
      | (refine wpList_store_mid rfl 60 (.tmp 46) (.tmp 44) rfl gl 3 _ rfl rfl HTH.out (sizeS _ _) (oneS _ _) ?_))
    go_ret
    refine ⟨rfl, ?_⟩
    have := HL3.out.tail
    rw [HD1.out, HK.out, HP.out, HR.out] at this
    rw [HR.out]
    simpa [List.set_set] using this
end
end Go.Proofs.YthffegfcgmhppaaDoor
namespace Go.Proofs.YthffegfcgmhppaaDoor
open Go.RowKit
set_option linter.unusedSimpArgs false
set_option linter.unusedVariables false
/-- new bytes in a block of their own -/
def NewBh (w : World) (l : List UInt8) (v : Value) (w' : World) : Prop := ∃ g, v = .slice (some ⟨g, 0, none⟩) l.length l.length ∧ w.heap.size ≤ g ∧ w'.heap[g]? = some (.cells (vals l).toArray 76 (0, 0)) ∧ Below w.heap.size w w'
section
variable {w : World} {g gd gm : Nat} {row : Nat → Option Nat} {N : Nat} {d : DM}
set_option maxRecDepth 100000 in
set_option maxHeartbeats 1000000 in
theorem read_okh (h : Dk w g gd gm row N d) (k : Nat) (hk : k < d.S.length) (ho : d.on = true) :
    Calls Tryd.prog 48 #[.pointer (some ⟨g, 0, none⟩), .int .i64 (k : Int)] w fun e w' => ∃ v, e = .returned (.tuple #[v, .int .i64 0]) ∧ NewBh w (lastB d.S[k]) v w' := by
  have hC := has_dk h (k : Int)
  rw [show hasB d (k : Int) = true by unfold hasB; rw [decide_eq_true]; omega] at hC
  have HC := Lib.hid hC
  obtain ⟨cap, h1, h2, c0, c1, c2, c3, f0⟩ := h.facts
  rw [ho] at c2
  obtain ⟨hd, hd64⟩ := h.durAt k hk
  have Hd := Lib.hid hd
  have Hd64 := Lib.hid hd64
  obtain ⟨hne, hsl, hs64⟩ := h.ok.2.2.2 _ (List.getElem_mem hk)
  have hn4 := h.ok.2.1
  obtain ⟨M, f, hm, hf, hr⟩ := h.map
  have hr := hr k hk
  have Hm := Lib.hid hm
  generalize d.S[k] = s at *
  have hlt := h.lt
  have hgm : gm < w.heap.size := hlt gm (.inr (.inr (.inl rfl)))
  have hg : g < w.heap.size := hlt g (.inl rfl)
  -- the world behind the copy of the durable bytes
  obtain ⟨w1, hw1⟩ : ∃ w1, w1 = (w.alloc (.cells Z64 76)).setRow w.heap.size (vals (dur s)).toArray := ⟨_, rfl⟩
  have hb1 : Below w.heap.size w w1 := by rw [hw1]; exact below_setRow ((Below.refl _ _).alloc (Nat.le_refl _) _) (Nat.le_refl _) _
  have hn1 : w1.heap[w.heap.size]? = some (.cells (vals (dur s)).toArray 76 (0, 0)) := by rw [hw1]; exact setRow_heap _ _ _ _ _ _ (heap_new rfl)
  have b0 := (hb1.cell (p := ⟨g, 1, none⟩) hg).trans c1
  have wfk : (Lit.int .i64 (k : Int)).wf = true := by exact WalkArith.wf_i64 (by omega)
  have hz : (zeroValue 55).run Tryd.prog w1 = .ok (.slice none 0 0) w1 := by kernel_rfl
  have hlk := (hm.kept (Kept.of_below (fun _ => False) hb1) (fun h => h)).look (P := Tryd.prog) (t := 56) (kt := 3) (et := 55) Tryd.underlying56 Tryd.underlying3 hz (k : Int) wfk false
  have Hb1 := Lib.hid hb1
  have Hn1 := Lib.hid hn1
  have Hw1 := Lib.hid hw1
  rcases hr with ⟨hp, hfk, hrow⟩ | ⟨hp, gk, v, hrow, hfk, hown⟩
  · rw [hfk] at hlk
    simp only [Bool.false_eq_true, if_false] at hlk
    have HL : Hid (lastB s = dur s) := Lib.hid (by
      match s, hp with
      | [x], _ => rfl
      | [], _ => exact absurd rfl hne)
    clear h hC ho hd hd64 hne hsl hs64 hm hf hlt hb1 hn1 hw1 hp hfk hrow hz wfk
    go_enter Tryd.func48, Tryd.ntmps48
    go_upto_region 6 with (first
      | (go_at_call 61; refine HC.out.mono ?_; rintro e w1 ⟨rfl, rfl⟩)
      | (refine wpList_alloc_z rfl 76 rfl Z64 76 run_alloc94 ?_)
      | (refine wpList_load_mid rfl 76 (.tmp 22) rfl gd (k * 64) rfl _ _ Hd.out Tryd.underlying76 rfl (size64v Hd64.out) ?_)
      | (refine wpList_store_row rfl 76 (.tmp 6) (.tmp 23) rfl w.heap.size _ rfl rfl 76 Z64 (heap_new rfl) (size64a Hd64.out) (by rw [cells64, List.size_toArray, vals_len, Hd64.out]) (one64 _) ?_))
    rw [← Hw1.out]
    go_wp2_with fail
    go_ret2
    refine ⟨_, rfl, w.heap.size, ?_, Nat.le_refl _, ?_, Hb1.out⟩
    · rw [HL.out, Hd64.out]; rfl
    · rw [HL.out]; exact Hn1.out
  · rw [hfk] at hlk
    simp only [Bool.false_eq_true, if_false] at hlk
    have hpl : 0 < s.tail.length := List.length_pos_iff.2 hp
    have ht64 : ∀ b ∈ s.tail, b.length = 64 := fun b hb => hs64 b (List.mem_of_mem_tail hb)
    obtain ⟨c, rfl, hc1, hc2, hat⟩ := (hown.kept (Kept.of_below (fun _ => False) hb1) (fun _ _ h => h)).secs ht64 rfl
    have hr2 := hat (s.tail.length - 1) (by omega)
    have hlast : s.tail[s.tail.length - 1] = lastB s := tail_last s hp (by omega)
    have hl64 : (lastB s).length = 64 := hs64 _ (lastB_mem hne)
    rw [hlast] at hr2
    have Hr2 := Lib.hid hr2
    have Hl64 := Lib.hid hl64
    have hb2 : Below w.heap.size w (w1.setRow w.heap.size (vals (lastB s)).toArray) := below_setRow hb1 (Nat.le_refl _) _
    have hn2 : (w1.setRow w.heap.size (vals (lastB s)).toArray).heap[w.heap.size]? = some (.cells (vals (lastB s)).toArray 76 (0, 0)) := setRow_heap _ _ _ _ _ _ hn1
    have Hb2 := Lib.hid hb2
    have Hn2 := Lib.hid hn2
    have hml : s.tail.length ≤ 9223372036854775807 := by omega
    have hpos : (0 : Int) < (s.tail.length : Int) := by omega
    clear h hC ho hd hd64 hne hsl hs64 hm hf hlt hb1 hn1 hw1 hfk hrow hz wfk hr hown hr2 hl64 hlast hb2 hn2 hat ht64 hp
    generalize s.tail.length = m at *
    go_enter Tryd.func48, Tryd.ntmps48
    go_upto_region 6 with (first
      | (go_at_call 61; refine HC.out.mono ?_; rintro e w1 ⟨rfl, rfl⟩)
      | (refine wpList_alloc_z rfl 76 rfl Z64 76 run_alloc94 ?_)
      | (refine wpList_load_mid rfl 76 (.tmp 22) rfl gd (k * 64) rfl _ _ Hd.out Tryd.underlying76 rfl (size64v Hd64.out) ?_)
      | (refine wpList_store_row rfl 76 (.tmp 6) (.tmp 23) rfl w.heap.size _ rfl rfl 76 Z64 (heap_new rfl) (size64a Hd64.out) (by rw [cells64, List.size_toArray, vals_len, Hd64.out]) (one64 _) ?_))
    rw [← Hw1.out]
    go_wp2_with (first
      | (refine wpList_load_mid rfl 76 (.tmp 37) rfl gk ((m - 1) * 64) rfl _ _ Hr2.out Tryd.underlying76 rfl (size64v Hl64.out) ?_)
      | (refine wpList_store_row rfl 76 (.tmp 6) (.tmp 38) rfl w.heap.size _ rfl rfl 76 _ Hn1.out (size64a Hl64.out) (by rw [List.size_toArray, List.size_toArray, vals_len, vals_len, Hd64.out, Hl64.out]) (one64 _) ?_))
    go_ret2
    refine ⟨_, rfl, w.heap.size, ?_, Nat.le_refl _, ?_, Hb2.out⟩
    · rw [Hl64.out]; rfl
    · exact Hn2.out
end
end Go.Proofs.YthffegfcgmhppaaDoor
namespace Go.Proofs.YthffegfcgmhppaaDoor
open Go.RowKit
set_option linter.unusedSimpArgs false
set_option linter.unusedVariables false
/-- bytes are written into a sector from a place on -/
def putB (s b : List UInt8) (o : Nat) : List UInt8 := s.take o ++ (b.take (64 - o) ++ s.drop (o + (b.take (64 - o)).length))
theorem putB_len (s b : List UInt8) (o : Nat) (hs : s.length = 64) (ho : o < 64) : (putB s b o).length = 64 := by
  simp only [putB, List.length_append, List.length_take, List.length_drop]; omega
/-- bytes are written into a region from a place on -/
def wrD (frm : Nat) : Nat → DM → Nat → List UInt8 → Int × DM
  | 0, d, _, _ => (0, d)
  | f + 1, d, at', b => if b = [] then (0, d) else if d.on then wrD frm f (d.write (frm + at' / 64) (putB (lastB (d.S.getD (frm + at' / 64) [])) b (at' % 64))) (at' + (b.take (64 - at' % 64)).length) (b.drop (b.take (64 - at' % 64)).length) else (10, d)
theorem wrD_nil (frm f : Nat) (d : DM) (a : Nat) : wrD frm f d a [] = (0, d) := by
  cases f with
  | zero => rfl
  | succ f => simp [wrD]
section
variable {w0 w : World} {L : List Obj} {gl g i j t : Nat} {m : LM} {d : DM}
set_option maxRecDepth 100000 in
set_option maxHeartbeats 4000000 in
theorem write_log (h : Lv w0 w L) (hi : L[i]? = some (logO gl g m)) (hj : L[j]? = some (diskO g d)) (hij : i ≠ j) {a : Option Addr} {n c : Nat} {b : List UInt8} (ht : L[t]? = some (bytesO (.slice a n c) b)) (htj : t ≠ j) (A0 : Nat) (hA : A0 ≤ 1000000) (hn : n ≤ 50000) (hr : m.frm * 64 + A0 + n ≤ d.S.length * 64) (hN : d.Ok 40000) :
    Calls Tryd.prog 28 #[.pointer (some ⟨gl, 0, none⟩), .int .i64 (A0 : Int), .slice a n c] w fun x w' => x = .returned (.int .i64 (wrD m.frm n d A0 b).1) ∧ Lv w0 w' (L.set j (diskO g (wrD m.frm n d A0 b).2)) := by
  have hS := (h.ok hj).2.1
  obtain ⟨_, ⟨a1, c1, e1, hb1⟩, -, -, -⟩ := h.get ht
  have hbl : b.length = n := by injection e1 with _ e _; exact e.symm
  rw [hbl] at e1 hb1
  cases e1
  have hc1 : n ≤ c := hb1.2.2.1
  have hc2 : c ≤ 9223372036854775807 := hb1.2.2.2.1
  have HBL := Lib.hid hbl
  have HR := Lib.hid hr
  have HN := Lib.hid hN
  have HL0 := Lib.hid h
  have HI := Lib.hid hi
  have HJ := Lib.hid hj
  have HT := Lib.hid ht
  have HIJ := Lib.hid hij
  have HTJ := Lib.hid htj
  have HS := Lib.hid hS
  have HJL := Lib.hid (List.getElem?_eq_some_iff.1 hj).1
  have HSelf : Hid (L.set j (diskO g d) = L) := Lib.hid (by
    obtain ⟨hlt, he⟩ := List.getElem?_eq_some_iff.1 hj
    rw [← he]; exact List.set_getElem_self hlt)
  clear hi hj ht hij htj hr hN hS hb1 h hbl
  go_enter Tryd.func28, Tryd.ntmps28
  go_wp2_with fail
  go_loopw [1, 2] (fun u v wr => ∃ (p : Nat) (d' : DM) (f : Nat) (a' : Option Addr), p ≤ n ∧ u = .int .i64 ((A0 + p : Nat) : Int) ∧ v = .slice a' (n - p) (c - p) ∧ (∀ (D : Nat → Prop) (W : World), Bs D W a n c b → Bs D W a' (n - p) (c - p) (b.drop p)) ∧ Lv w0 wr (L.set j (diskO g d')) ∧ wrD m.frm f d' (A0 + p) (b.drop p) = wrD m.frm n d A0 b ∧ n - p ≤ f ∧ d'.S.length = d.S.length ∧ d'.Ok (40000 + p)) (fun _ v _ => sliceLen v)
  case atStart => exact ⟨0, d, n, a, Nat.zero_le _, rfl, rfl, fun D W hb => hb, by rw [HSelf.out]; exact HL0.out, rfl, by omega, rfl, HN.out⟩
  case round =>
    obtain ⟨p, d', f, a', hp, rfl, rfl, hT, hL, hwr, hf, hlen, hok⟩ := hrel
    obtain ⟨at0, hat⟩ : ∃ at0, at0 = A0 + p := ⟨_, rfl⟩
    rw [← hat] at hwr ⊢
    obtain ⟨n1, hn1⟩ : ∃ n1, n1 = n - p := ⟨_, rfl⟩
    obtain ⟨c1, hc1'⟩ : ∃ c1, c1 = c - p := ⟨_, rfl⟩
    rw [← hn1] at hf hT
    rw [← hc1'] at hT
    rw [← hn1, ← hc1']
    obtain ⟨b1, hb1⟩ : ∃ b1, b1 = b.drop p := ⟨_, rfl⟩
    rw [← hb1] at hwr hT
    have hb1l : b1.length = n1 := by rw [hb1, List.length_drop, HBL.out, hn1]
    by_cases hlt : 0 < n1
    · have hpos : (0 : Int) < (n1 : Int) := by omega
      have hjL : (L.set j (diskO g d'))[j]? = some (diskO g d') := List.getElem?_set_self HJL.out
      have hiL : (L.set j (diskO g d'))[i]? = some (logO gl g m) := by rw [List.getElem?_set_ne (fun e => HIJ.out e.symm)]; exact HI.out
      have htL : (L.set j (diskO g d'))[t]? = some (bytesO (.slice a n c) b) := by rw [List.getElem?_set_ne (fun e => HTJ.out e.symm)]; exact HT.out
      obtain ⟨_, _, -, -, hgl, q0, q1, -, -, -, -, -, -, -⟩ := hL.logFacts hiL
      obtain ⟨BD, ⟨gd, gm, row, NN, hd, hBB⟩, -, -, -⟩ := hL.get hjL
      obtain ⟨BT, ⟨a2, c2', e2, hbt⟩, -, -, -⟩ := hL.get htL
      rw [HBL.out] at e2 hbt
      cases e2
      have hbs := hT _ _ hbt
      obtain ⟨K, hK⟩ : ∃ K, K = m.frm + at0 / 64 := ⟨_, rfl⟩
      obtain ⟨Q, hQ⟩ : ∃ Q, Q = at0 / 64 := ⟨_, rfl⟩
      obtain ⟨O, hO⟩ : ∃ O, O = at0 % 64 := ⟨_, rfl⟩
      have hKl : K < d'.S.length := by rw [hlen]; have := HR.out; omega
      have hO64 : O < 64 := by omega
      have hS' := HS.out
      have hqt : Int.tdiv (at0 : Int) 64 = (Q : Int) := by rw [Int.tdiv_eq_ediv_of_nonneg (by omega)]; omega
      have hqw : IntKind.i64.wrap (Q : Int) = (Q : Int) := i64_id _ (by omega) (by omega)
      have hkw : IntKind.i64.wrap ((m.frm : Int) + (Q : Int)) = (K : Int) := by rw [i64_id _ (by omega) (by omega)]; omega
      have hot : Int.tmod (at0 : Int) 64 = (O : Int) := by rw [Int.tmod_eq_emod_of_nonneg (by omega)]; omega
      have how : IntKind.i64.wrap (O : Int) = (O : Int) := i64_id _ (by omega) (by omega)
      have HJ1 := Lib.hid hjL
      have HI1 := Lib.hid hiL
      have HT1 := Lib.hid htL
      have HL := Lib.hid hL
      have HD := Lib.hid hd
      have HBS := Lib.hid hbs
      have HTT := Lib.hid hT
      have HWR := Lib.hid hwr
      have HKl := Lib.hid hKl
      have HOK := Lib.hid hok
      have HLEN := Lib.hid hlen
      have HB1 := Lib.hid hb1
      have HB1L := Lib.hid hb1l
      have HKH : Hid (hasB d' (K : Int) = true) := Lib.hid (by unfold hasB; rw [decide_eq_true]; omega)
      have HKE := Lib.hid hK
      have HQE := Lib.hid hQ
      have HOE := Lib.hid hO
      have HAT := Lib.hid hat
      have HN1 := Lib.hid hn1
      have HC1 := Lib.hid hc1'
      cases hon : d'.on with
      | false =>
        have HON := Lib.hid hon
        clear hL hd hbs hT hwr hok hlen hjL hiL htL hbt hBB hK hQ hO hat hn1 hc1' hb1 hb1l hon hKl
        go_wp2_with (first
          | (go_at_call 48; refine (read_lv_off HL.out HJ1.out (K : Int) HKH.out HON.out).mono ?_; rintro e w2 ⟨rfl, rfl⟩))
        go_ret
        have hne : b1 ≠ [] := by intro e; have := HB1L.out; rw [e] at this; simp at this; omega
        have hw2 := HWR.out
        obtain ⟨f', rfl⟩ : ∃ f', f = f' + 1 := ⟨f - 1, by omega⟩
        rw [wrD, if_neg hne, HON.out] at hw2
        rw [← hw2]
        exact ⟨rfl, HL.out⟩
      | true =>
        have HON := Lib.hid hon
        obtain ⟨bb, bo, -, hbw, rfl, hcell⟩ := hbs.cells (by omega)
        obtain ⟨bi, hbi⟩ : ∃ bi, bi = b1.take (64 - O) := ⟨_, rfl⟩
        obtain ⟨CN, hCN⟩ : ∃ CN, CN = bi.length := ⟨_, rfl⟩
        have hCN1 : CN = Nat.min n1 (64 - O) := by
          rw [hCN, hbi, List.length_take, hb1l]
          show min (64 - O) n1 = min n1 (64 - O)
          omega
        have hCN2 : CN ≤ n1 := by rw [hCN1]; exact Nat.min_le_left _ _
        have hCN3 : CN ≤ 64 - O := by rw [hCN1]; exact Nat.min_le_right _ _
        have hCN4 : 0 < CN := by rw [hCN1]; show 0 < min n1 (64 - O); omega
        have HVL : Hid ((vals bi).length = CN) := Lib.hid (by rw [vals_len, hCN])
        have HCN1 : Hid ((vals bi).length = Nat.min n1 (64 - O)) := Lib.hid (by rw [vals_len, ← hCN, hCN1])
        have HSRC : Hid (∀ j v, (vals bi)[j]? = some v → wr.cell? ((⟨bb, bo, none⟩ : Addr).add j) = some v) := Lib.hid (fun j v hv => by
          have hjl : j < bi.length := by have := (List.getElem?_eq_some_iff.1 hv).1; rwa [vals_len] at this
          have hjb : j < b1.length := by rw [hb1l]; omega
          rw [Addr.add_mid, hcell j hjb]
          have e2 : (vals bi)[j]? = some (.int .u8 (bi[j].toNat : Int)) := by simp [vals, hjl]
          rw [e2] at hv
          have e3 : bi[j] = b1[j] := by simp only [hbi, List.getElem_take]
          rw [← e3]; exact hv)
        obtain ⟨sb, hsb⟩ : ∃ sb, sb = lastB (d'.S[K]'hKl) := ⟨_, rfl⟩
        have hd64 := (hL.ok hjL).2.2.2 _ (List.getElem_mem hKl)
        have hsl : sb.length = 64 := by rw [hsb]; exact hd64.2 _ (lastB_mem hd64.1)
        have HSB : Hid (∀ h, lastB (d'.S[K]'h) = sb) := Lib.hid (fun _ => hsb.symm)
        have HSG : Hid (lastB (d'.S.getD K []) = sb) := Lib.hid (by rw [List.getD_eq_getElem?_getD, List.getElem?_eq_getElem hKl, Option.getD_some, hsb])
        have HSL := Lib.hid hsl
        have HPL : Hid ((putB sb b1 O).length = 64) := Lib.hid (putB_len _ _ _ hsl hO64)
        have HFIT : Hid (O + (vals bi).length ≤ (vals sb).toArray.size) := Lib.hid (by rw [List.size_toArray, vals_len, vals_len, hsl, ← hCN]; omega)
        have HPUT : Hid (((vals sb).toArray.toList.take O ++ (vals bi ++ (vals sb).toArray.toList.drop (O + (vals bi).length))) = vals (putB sb b1 O)) := Lib.hid (by
          rw [vals_len]
          unfold putB
          rw [vals_app, vals_app, vals_take, vals_drop, ← hbi])
        have hne64 : ¬ (64 = O) := by omega
        have hO2 : (O : Int) ≤ 64 := by omega
        have hwa : IntKind.i64.wrap ((at0 : Int) + (CN : Int)) = ((at0 + CN : Nat) : Int) := by rw [i64_id _ (by omega) (by omega)]; omega
        have hCNi : (CN : Int) ≤ (n1 : Int) := by omega
        have hCNc : (CN : Int) ≤ (c1 : Int) := by omega
        have HBW := Lib.hid hbw
        have HCN := Lib.hid hCN
        have HBI := Lib.hid hbi
        clear hL hd hbs hT hwr hok hlen hjL hiL htL hbt hBB hK hQ hO hat hn1 hc1' hb1 hb1l hon hcell hbw hCN hCN1 hbi hsb hd64 hsl
        go_upto_region 6 with (first
          | (go_at_call 48; refine (read_okh HD.out K HKl.out HON.out).mono ?_; rintro e w2 ⟨v2, rfl, x, rfl, hx, hhx, hb2⟩; rw [HSB.out] at hhx ⊢; rw [HSL.out]; have HX := Lib.hid hx; have HHX := Lib.hid hhx; have HB2 := Lib.hid hb2; clear hx hhx hb2))
        have HS2 : Hid (∀ j v, (vals bi)[j]? = some v → w2.cell? ((⟨bb, bo, none⟩ : Addr).add j) = some v) := Lib.hid (fun j v hv => by
          have := HSRC.out j v hv
          rw [Addr.add_mid] at this ⊢
          exact (HB2.out.cell (p := ⟨bb, bo + j, none⟩) HBW.out).trans this)
        go_upto_region 7 with (first
          | (refine wpList_copy_own rfl (.tmp 37) (.tmp 38) 34 34 rfl 5 Tryd.underlying34 (by kernel_rfl) x O (64 - O) (64 - O) ⟨bb, bo, none⟩ n1 c1 rfl rfl (vals sb).toArray 76 HHX.out (vals bi) HCN1.out HS2.out HFIT.out (vals_one bi) ?_; rw [HPUT.out, HVL.out]; change wpList _ _ _ _ (Act.put _ _ (.int .i64 (CN : Int))) _))
        obtain ⟨w3, hw3⟩ : ∃ w3, w3 = w2.setRow x (vals (putB sb b1 O)).toArray := ⟨_, rfl⟩
        rw [← hw3]
        have hb3 : Below wr.heap.size wr w3 := by rw [hw3]; exact below_setRow HB2.out HX.out _
        have HL3 : Hid (Lv w0 w3 (L.set j (diskO g d'))) := Lib.hid (HL.out.below hb3)
        have HBX : Hid (Bs (fun b => b = x) w3 (some ⟨x, 0, none⟩) 64 64 (putB sb b1 O)) := Lib.hid (by
          have h3 : w3.heap[x]? = some (.cells (vals (putB sb b1 O)).toArray 76 (0, 0)) := by rw [hw3]; exact setRow_heap _ _ _ _ _ _ HHX.out
          have := bs_block h3 (by rw [HPL.out]; decide)
          rw [HPL.out] at this
          exact this)
        obtain ⟨_, _, -, -, hgl3, q0', q1', -, -, -, -, -, -, -⟩ := HL3.out.logFacts HI1.out
        obtain ⟨AU, hAU⟩ : ∃ AU : Option Addr, AU = if c1 = CN then some ⟨bb, bo, none⟩ else some ⟨bb, bo + CN, none⟩ := ⟨_, rfl⟩
        have HAU : Hid (∀ (D : Nat → Prop) (W : World), Bs D W a n c b → Bs D W AU (n1 - CN) (c1 - CN) (b1.drop CN)) := Lib.hid (fun D W hb => by
          have hx := HTT.out D W hb
          have hcl := hx.2.2.2.1
          have hnc := hx.2.2.1
          rw [hAU]
          split
          · rename_i e
            have : b1.drop CN = [] := List.drop_of_length_le (by have := HB1L.out; omega)
            rw [this, show n1 - CN = 0 by omega]
            exact Bs.empty _ _ _ _ (by omega) (fun h => by cases h)
          · exact hx.past CN (by omega))
        have HAUE := Lib.hid hAU
        clear hw3 hb3 hAU HB2 HHX HS2 HSRC HFIT HPUT HL
        go_upto_region 10 with (first
          | (have x1 := HL3.out; go_at_call 49; refine (write_lv x1 HJ1.out HBX.out K HKl.out HON.out (HOK.out.mono (by omega))).mono ?_; rintro e w4 ⟨rfl, hl4⟩; have HL4 := Lib.hid hl4; clear x1 hl4 HL3))
        go_quiet (fail)
        go_wp2_with fail
        rw [← HAUE.out]
        go_roundw
        case rel =>
          have e1 := HAT.out; have e2 := HN1.out; have e3 := HC1.out
          refine ⟨p + CN, d'.write K (putB sb b1 O), f - 1, AU, by omega, by go_num, ?_, fun D W hb => ?_, ?_, ?_, by omega, ?_, ?_⟩
          · rw [show n - (p + CN) = n1 - CN by omega, show c - (p + CN) = c1 - CN by omega]
          · have := HAU.out D W hb
            rw [show n - (p + CN) = n1 - CN by omega, show c - (p + CN) = c1 - CN by omega, ← List.drop_drop, ← HB1.out]
            exact this
          · have := HL4.out.below (below_drewN' _ nq)
            rwa [List.set_set] at this
          · have hne : b1 ≠ [] := by intro e; have := HB1L.out; rw [e] at this; simp at this; omega
            have hw2 := HWR.out
            obtain ⟨f', rfl⟩ : ∃ f', f = f' + 1 := ⟨f - 1, by omega⟩
            rw [wrD, if_neg hne, if_pos HON.out, ← HKE.out, ← HOE.out, HSG.out, ← HBI.out, ← HCN.out] at hw2
            rw [Nat.add_sub_cancel, ← hw2, ← List.drop_drop, ← HB1.out, show A0 + (p + CN) = at0 + CN by omega]
          · rw [write_len]; exact HLEN.out
          · exact (DM.write_ok HOK.out HPL.out).mono (by omega)
        case measure => first | (simp [sliceLen]; omega) | (simp only [sliceLen]; omega)
    · have hp0 : n1 = 0 := by omega
      have hb0 : b1 = [] := List.eq_nil_of_length_eq_zero (by omega)
      rw [hb0, wrD_nil] at hwr
      have HWR := Lib.hid hwr
      have HL := Lib.hid hL
      subst hp0
      clear hT hL hwr hf hlen hok hb1 hb1l hb0 hn1 hc1' hat hlt
      go_wp2_with fail
      go_ret
      rw [← HWR.out]
      exact ⟨rfl, HL.out⟩
end
end Go.Proofs.YthffegfcgmhppaaDoor
namespace Go.Proofs.YthffegfcgmhppaaDoor
open Go.RowKit
set_option linter.unusedSimpArgs false
set_option linter.unusedVariables false
theorem set_self_of {L : List Obj} {j : Nat} {o : Obj} (h : L[j]? = some o) : L.set j o = L := by
  obtain ⟨hlt, he⟩ := List.getElem?_eq_some_iff.1 h
  rw [← he]; exact List.set_getElem_self hlt
/-- describe: error, log, disk -/
def desR (m : LM) (d : DM) (e : Nat) : Int × LM × DM :=
  if d.on = true then
    if (d.write (m.frm + (m.rnd + 1) % 256 % 2) (desB ((m.rnd + 1) % 256) e)).on = true then (0, { m with rnd := (m.rnd + 1) % 256, en := e }, (d.write (m.frm + (m.rnd + 1) % 256 % 2) (desB ((m.rnd + 1) % 256) e)).flush)
    else (10, m, d.write (m.frm + (m.rnd + 1) % 256 % 2) (desB ((m.rnd + 1) % 256) e))
  else (10, m, d)
theorem desR_err (m : LM) (d : DM) (e : Nat) : (desR m d e).1 = 0 ∨ (desR m d e).1 = 10 := by
  unfold desR
  split
  · split
    · exact .inl rfl
    · exact .inr rfl
  · exact .inr rfl
theorem desR_bad (m : LM) (d : DM) (e : Nat) (h : (desR m d e).1 ≠ 0) : (desR m d e).2.1 = m := by
  unfold desR at *
  split at h
  · split at h
    · exact absurd rfl h
    · rename_i a b; rw [if_pos a, if_neg b]
  · rename_i a; rw [if_neg a]
theorem desR_ok (m : LM) (d : DM) (e : Nat) (h : (desR m d e).1 = 0) : (desR m d e).2.1 = { m with rnd := (m.rnd + 1) % 256, en := e } := by
  unfold desR at *
  split at h
  · split at h
    · rename_i a b; rw [if_pos a, if_pos b]
    · simp at h
  · simp at h
section
variable {w0 w : World} {L : List Obj} {gl g i j : Nat} {m : LM} {d : DM}
theorem describe_lv (h : Lv w0 w L) (hi : L[i]? = some (logO gl g m)) (hj : L[j]? = some (diskO g d)) (hij : i ≠ j) (e : Nat) (he : e < 16777216) (hr : m.rnd < 256) (hf : m.frm + 1 < d.S.length) (hN : d.Ok 100000) :
    Calls Tryd.prog 30 #[.pointer (some ⟨gl, 0, none⟩), .int .i64 (e : Int)] w fun x w' => x = .returned (.int .i64 (desR m d e).1) ∧ Lv w0 w' ((L.set j (diskO g (desR m d e).2.2)).set i (logO gl g (desR m d e).2.1)) := by
  unfold desR
  cases ho : d.on with
  | false =>
    simp only [Bool.false_eq_true, if_false]
    refine (describe_off h hi hj hij e he hr hf hN ho).mono ?_
    rintro x w' ⟨rfl, hl⟩
    exact ⟨rfl, by rw [set_self_of hj, set_self_of hi]; exact hl⟩
  | true =>
    simp only [if_true]
    cases ho1 : (d.write (m.frm + (m.rnd + 1) % 256 % 2) (desB ((m.rnd + 1) % 256) e)).on with
    | false =>
      simp only [Bool.false_eq_true, if_false]
      refine (describe_mid h hi hj hij e he hr hf hN ho ho1).mono ?_
      rintro x w' ⟨rfl, hl⟩
      refine ⟨rfl, ?_⟩
      have : (L.set j (diskO g (d.write (m.frm + (m.rnd + 1) % 256 % 2) (desB ((m.rnd + 1) % 256) e))))[i]? = some (logO gl g m) := by rw [List.getElem?_set_ne (fun e => hij e.symm)]; exact hi
      rw [set_self_of this]; exact hl
    | true =>
      simp only [if_true]
      exact describe_ok h hi hj hij e he hr hf hN ho ho1
theorem Lg.putReset {k : Option Nat} {Bf : Nat → Prop} {v : Value} (h : Lg w gl g k Bf v m) : Lg (((w.setCell ⟨gl, 5, none⟩ (.slice none 0 0)).setCell ⟨gl, 6, none⟩ (.int .i64 0)).setCell ⟨gl, 7, none⟩ (.int .i64 0)) gl g none (fun _ => False) (.slice none 0 0) { m with recs := [], syn := 0, tak := 0 } := by
  refine ⟨?_, Recs.nil _, ⟨(fun h => by cases h), (fun h => h), (fun _ h => by cases h)⟩, fun _ h => h.elim⟩
  rw [heap_setCell_same _ gl 7 _ _ _ (heap_setCell_same _ gl 6 _ _ _ (heap_setCell_same w gl 5 _ _ _ h.self))]
  rfl
theorem Lv.logReset (h : Lv w0 w L) (hi : L[i]? = some (logO gl g m)) : Lv w0 (((w.setCell ⟨gl, 5, none⟩ (.slice none 0 0)).setCell ⟨gl, 6, none⟩ (.int .i64 0)).setCell ⟨gl, 7, none⟩ (.int .i64 0)) (L.set i (logO gl g { m with recs := [], syn := 0, tak := 0 })) := by
  obtain ⟨k, Bf, v, B, h1, h2, h3, h4⟩ := h.log hi
  have hB : B gl := h2 gl (.inl rfl)
  refine h4 _ none (fun _ => False) _ _ h1.putReset ((((Kept.refl B w).setCell (p := ⟨gl, 5, none⟩) (fun _ => hB) _).setCell (p := ⟨gl, 6, none⟩) (fun _ => hB) _).setCell (p := ⟨gl, 7, none⟩) (fun _ => hB) _) ?_
  rintro x (rfl | hx | hx)
  · exact .inl hB
  · cases hx
  · exact hx.elim
theorem Lg.putSyn {k : Option Nat} {Bf : Nat → Prop} {v : Value} (h : Lg w gl g k Bf v m) (y : Nat) : Lg (w.setCell ⟨gl, 6, none⟩ (.int .i64 (y : Int))) gl g k Bf v { m with syn := y } := by
  refine h.put rfl ?_ ((Kept.refl (fun x => x = gl) w).setCell (fun _ => rfl) _)
  rw [heap_setCell_same w gl 6 _ _ _ h.self]
  rfl
theorem Lv.logSyn (h : Lv w0 w L) (hi : L[i]? = some (logO gl g m)) (y : Nat) : Lv w0 (w.setCell ⟨gl, 6, none⟩ (.int .i64 (y : Int))) (L.set i (logO gl g { m with syn := y })) := by
  obtain ⟨k, Bf, v, B, h1, h2, h3, h4⟩ := h.log hi
  exact h4 _ k Bf v _ (h1.putSyn y) ((Kept.refl B w).setCell (p := ⟨gl, 6, none⟩) (fun _ => h2 gl (.inl rfl)) _) (fun x hx => .inl (h2 x hx))
theorem Lg.putTak {k : Option Nat} {Bf : Nat → Prop} {v : Value} (h : Lg w gl g k Bf v m) (y : Nat) : Lg (w.setCell ⟨gl, 7, none⟩ (.int .i64 (y : Int))) gl g k Bf v { m with tak := y } := by
  refine h.put rfl ?_ ((Kept.refl (fun x => x = gl) w).setCell (fun _ => rfl) _)
  rw [heap_setCell_same w gl 7 _ _ _ h.self]
  rfl
theorem Lv.logTak (h : Lv w0 w L) (hi : L[i]? = some (logO gl g m)) (y : Nat) : Lv w0 (w.setCell ⟨gl, 7, none⟩ (.int .i64 (y : Int))) (L.set i (logO gl g { m with tak := y })) := by
  obtain ⟨k, Bf, v, B, h1, h2, h3, h4⟩ := h.log hi
  exact h4 _ k Bf v _ (h1.putTak y) ((Kept.refl B w).setCell (p := ⟨gl, 7, none⟩) (fun _ => h2 gl (.inl rfl)) _) (fun x hx => .inl (h2 x hx))
/-- Reset: error, log, disk -/
def resetR (m : LM) (d : DM) : Int × LM × DM := ((desR m d 128).1, if (desR m d 128).1 = 0 then { (desR m d 128).2.1 with recs := [], syn := 0, tak := 0 } else m, (desR m d 128).2.2)
/-- Sync: error, log, disk -/
def addB (m : LM) : List UInt8 := joinB (m.recs.drop m.syn)
def wrR (m : LM) (d : DM) : Int × DM := wrD m.frm (addB m).length d m.en (addB m)
def syncR (m : LM) (d : DM) : Int × LM × DM :=
  if (wrR m d).1 = 0 then
    if (wrR m d).2.on = true then
      ((desR m (wrR m d).2.flush (m.en + (addB m).length)).1, if (desR m (wrR m d).2.flush (m.en + (addB m).length)).1 = 0 then { (desR m (wrR m d).2.flush (m.en + (addB m).length)).2.1 with syn := m.recs.length } else m, (desR m (wrR m d).2.flush (m.en + (addB m).length)).2.2)
    else (10, m, (wrR m d).2)
  else (10, m, (wrR m d).2)
theorem wrD_err (frm : Nat) : ∀ (f : Nat) (d : DM) (a : Nat) (b : List UInt8), (wrD frm f d a b).1 = 0 ∨ (wrD frm f d a b).1 = 10
  | 0, _, _, _ => .inl rfl
  | f + 1, d, a, b => by
    rw [wrD]
    split
    · exact .inl rfl
    · split
      · exact wrD_err frm f _ _ _
      · exact .inr rfl
theorem wrD_len (frm : Nat) : ∀ (f : Nat) (d : DM) (a : Nat) (b : List UInt8), (wrD frm f d a b).2.S.length = d.S.length
  | 0, _, _, _ => rfl
  | f + 1, d, a, b => by
    rw [wrD]
    split
    · rfl
    · split
      · rw [wrD_len frm f, write_len]
      · rfl
theorem lenB_drop (rs : List (List UInt8)) (i : Nat) : lenB (rs.drop i) ≤ lenB rs := by
  induction rs generalizing i with
  | nil => simp [lenB]
  | cons r rs ih =>
    cases i with
    | zero => exact Nat.le_refl _
    | succ i =>
      have := ih i
      simp only [lenB, List.drop_succ_cons, List.map_cons, List.sum_cons] at this ⊢
      omega
set_option maxRecDepth 100000 in
set_option maxHeartbeats 4000000 in
theorem sync_lv (h : Lv w0 w L) (hi : L[i]? = some (logO gl g m)) (hj : L[j]? = some (diskO g d)) (hij : i ≠ j) (hr : m.rnd < 256) (hf : m.frm + 1 < d.S.length) (hN : d.Ok 40000) (hsy : m.syn ≤ m.recs.length) (h64 : ∀ r ∈ m.recs, r.length < 65536) (hb : lenB m.recs ≤ 50000) (he : m.en ≤ 1000000) (hrg : m.frm * 64 + m.en + (addB m).length ≤ d.S.length * 64) :
    Calls Tryd.prog 12 #[.pointer (some ⟨gl, 0, none⟩)] w fun x w' => x = .returned (.int .i64 (syncR m d).1) ∧ Lv w0 w' ((L.set j (diskO g (syncR m d).2.2)).set i (logO gl g (syncR m d).2.1)) := by
  obtain ⟨kl, Bl, vl, BL, hlg, hlB, -, -⟩ := h.log hi
  obtain ⟨a, c, rfl, h1, h2, hg, c0, c1, c2, c3, c4, c5, c6, c7, f0⟩ := hlg.facts
  have hil := (List.getElem?_eq_some_iff.1 hi).1
  have hjl := (List.getElem?_eq_some_iff.1 hj).1
  have HRD : Hid (RdR BL w.drew (if c = m.syn then a else Option.map (fun x => x.add m.syn) a) (m.recs.length - m.syn) (c - m.syn) (m.recs.drop m.syn)) := Lib.hid (((hlg.recs.rd (D := BL) (fun x hx => hlB x (.inr (.inl hx))) (fun x hx => hlB x (.inr (.inr hx)))).from m.syn hsy).below (Below.refl _ _).drew)
  obtain ⟨AS, hAS⟩ : ∃ AS : Option Addr, AS = if c = m.syn then a else Option.map (fun x => x.add m.syn) a := ⟨_, rfl⟩
  rw [← hAS] at HRD
  have HAS := Lib.hid hAS
  clear hAS
  have H64 : Hid (∀ r ∈ m.recs.drop m.syn, r.length < 65536) := Lib.hid (fun r hr => h64 r (List.mem_of_mem_drop hr))
  have HLB : Hid (lenB (m.recs.drop m.syn) ≤ 50000) := Lib.hid (Nat.le_trans (lenB_drop _ _) hb)
  have HL0 := Lib.hid (h.below (Below.refl _ _).drew)
  obtain ⟨b, hbb⟩ : ∃ b, b = addB m := ⟨_, rfl⟩
  obtain ⟨bn, hbn⟩ : ∃ bn, bn = b.length := ⟨_, rfl⟩
  have hbn5 : bn ≤ 50000 := by rw [hbn, hbb]; unfold addB; rw [joinB_len]; exact HLB.out
  have hsy2 : (m.syn : Int) ≤ (m.recs.length : Int) := by omega
  have hsy3 : (m.syn : Int) ≤ (c : Int) := by omega
  have hwe : IntKind.i64.wrap ((m.en : Int) + (bn : Int)) = ((m.en + bn : Nat) : Int) := by rw [i64_id _ (by omega) (by omega)]; omega
  have HBB := Lib.hid hbb
  have HBN := Lib.hid hbn
  have HI := Lib.hid hi
  have HJ := Lib.hid hj
  have HIJ := Lib.hid hij
  have HIL := Lib.hid hil
  have HJL := Lib.hid hjl
  have HF := Lib.hid hf
  have HRN := Lib.hid hr
  have HN := Lib.hid hN
  have HE := Lib.hid he
  have HRG : Hid (m.frm * 64 + m.en + bn ≤ d.S.length * 64) := Lib.hid (by rw [hbn, hbb]; exact hrg)
  have hrl : m.recs.length ≤ 9223372036854775807 := by omega
  have hWD : wrR m d = wrD m.frm bn d m.en b := by unfold wrR; rw [← hbb, ← hbn]
  have hwerr : (wrR m d).1 = 0 ∨ (wrR m d).1 = 10 := wrD_err _ _ _ _ _
  have hwlen : (wrR m d).2.S.length = d.S.length := wrD_len _ _ _ _ _
  have hAB : (addB m).length = bn := by rw [hbn, hbb]
  obtain ⟨W, hW⟩ : ∃ W, W = wrR m d := ⟨_, rfl⟩
  rw [← hW] at hwerr hwlen hWD
  obtain ⟨we, wd⟩ := W
  simp only at hwerr hwlen
  have HAB := Lib.hid hAB
  have HWW := Lib.hid hW
  have HWD := Lib.hid hWD
  have HWL := Lib.hid hwlen
  clear hlg hlB h1 c1 c2 c3 c4 c7 f0 hi hj hij hil hjl hb h64 hrg he hf hr hN h hbb hbn hW hWD hwlen hAB
  go_enter Tryd.func12, Tryd.ntmps12
  go_wp2_with fail
  go_still_tail 9, (by kernel_rfl)
  change wpList _ _ _ _ _ w.drew
  rw [← HAS.out]
  go_upto_region 2 with (first
    | (go_at_call 27; refine (join_any BL _ _ _ _ _ HRD.out H64.out (Nat.le_trans HLB.out (by omega))).mono ?_; rintro e w1 ⟨v, rfl, hm⟩; have HM := Lib.hid hm; clear hm HRD))
  have hl1 := HL0.out.made HM.out
  rw [show joinB (m.recs.drop m.syn) = b from HBB.out.symm] at hl1
  obtain ⟨_, ⟨a3, c3, rfl, hb3⟩, -, -, -⟩ := hl1.get (i := 0) rfl
  rw [← HBN.out] at hl1 hb3
  rw [← HBN.out]
  have hc31 : bn ≤ c3 := hb3.2.2.1
  have hc32 : c3 ≤ 9223372036854775807 := hb3.2.2.2.1
  have hi1 : (bytesO (.slice a3 bn c3) b :: L)[i + 1]? = some (logO gl g m) := by simpa using HI.out
  have hj1 : (bytesO (.slice a3 bn c3) b :: L)[j + 1]? = some (diskO g d) := by simpa using HJ.out
  obtain ⟨_, _, -, -, hgl, q0, -, -, -, q4, -, -, -, -⟩ := hl1.logFacts hi1
  have HL1 := Lib.hid hl1
  have HI1 := Lib.hid hi1
  have HJ1 := Lib.hid hj1
  clear hl1 hb3 hi1 hj1 HM HL0 c0 c5 c6
  go_upto_region 3 with (first
    | (have x1 := HL1.out; go_at_call 28; refine (write_log x1 HI1.out HJ1.out (by have := HIJ.out; omega) (t := 0) rfl (by omega) m.en HE.out hbn5 HRG.out HN.out).mono ?_; rintro e w2 ⟨rfl, hl2⟩; rw [← HWD.out] at hl2 ⊢; have HL2 : Hid (Lv w0 w2 (bytesO (.slice a3 bn c3) b :: L.set j (diskO g wd))) := Lib.hid hl2; clear x1 hl2 HL1))
  have hi2 : (bytesO (.slice a3 bn c3) b :: L.set j (diskO g wd))[i + 1]? = some (logO gl g m) := by rw [List.getElem?_cons_succ, List.getElem?_set_ne (fun e => HIJ.out e.symm)]; exact HI.out
  have hj2 : (bytesO (.slice a3 bn c3) b :: L.set j (diskO g wd))[j + 1]? = some (diskO g wd) := by rw [List.getElem?_cons_succ, List.getElem?_set_self HJL.out]
  have hi2' : (L.set j (diskO g wd))[i]? = some (logO gl g m) := by simpa using hi2
  have HS2 : Hid ((L.set j (diskO g wd)).set i (logO gl g m) = L.set j (diskO g wd)) := Lib.hid (set_self_of hi2')
  obtain ⟨_, _, -, -, hgl2, r0, -, -, -, -, -, -, -, -⟩ := HL2.out.logFacts hi2
  have HI2 := Lib.hid hi2
  have HJ2 := Lib.hid hj2
  clear hi2 hj2 hi2' q0 q4 hgl
  rcases hwerr with rfl | rfl
  · cases hon : wd.on with
    | false =>
      have HON := Lib.hid hon
      clear hon
      go_wp2_with (first
        | (go_at_call 29; refine (flush_lv_off HL2.out HJ2.out HON.out).mono ?_; rintro e w3 ⟨rfl, rfl⟩))
      go_ret
      unfold syncR
      rw [HAB.out, ← HWW.out]
      simp only [if_true, HON.out, Bool.false_eq_true, if_false]
      exact ⟨rfl, by rw [HS2.out]; exact HL2.out.tail⟩
    | true =>
      have HON := Lib.hid hon
      have hde := desR_err m wd.flush (m.en + bn)
      have hdb := desR_bad m wd.flush (m.en + bn)
      have hdo := desR_ok m wd.flush (m.en + bn)
      clear hon
      go_upto_region 6 with (first
        | (have x1 := HL2.out; go_at_call 29; refine (flush_lv x1 HJ2.out HON.out).mono ?_; rintro e w3 ⟨rfl, hl3⟩; have HL3 : Hid (Lv w0 w3 (bytesO (.slice a3 bn c3) b :: (L.set j (diskO g wd)).set j (diskO g wd.flush))) := Lib.hid hl3; clear x1 hl3))
      have hl3 := HL3.out
      rw [List.set_set] at hl3
      have hi3 : (bytesO (.slice a3 bn c3) b :: L.set j (diskO g wd.flush))[i + 1]? = some (logO gl g m) := by rw [List.getElem?_cons_succ, List.getElem?_set_ne (fun e => HIJ.out e.symm)]; exact HI.out
      have hj3 : (bytesO (.slice a3 bn c3) b :: L.set j (diskO g wd.flush))[j + 1]? = some (diskO g wd.flush) := by rw [List.getElem?_cons_succ, List.getElem?_set_self HJL.out]
      have hi3' : (L.set j (diskO g wd.flush))[i]? = some (logO gl g m) := by simpa using hi3
      have hj3' : (L.set j (diskO g wd.flush))[j]? = some (diskO g wd.flush) := List.getElem?_set_self HJL.out
      have hok3 : wd.flush.Ok 100000 := by
        obtain ⟨B9, ⟨gd9, gm9, row9, N9, hd9, _⟩, -, -, -⟩ := HL2.out.get HJ2.out
        exact (DM.flush_ok hd9.ok).mono (by omega)
      have hlt9 : m.en + bn < 16777216 := by have := HE.out; omega
      have HDC : Hid (Calls Tryd.prog 30 #[.pointer (some ⟨gl, 0, none⟩), .int .i64 ((m.en + bn : Nat) : Int)] w3 fun x w' => x = .returned (.int .i64 (desR m wd.flush (m.en + bn)).1) ∧ Lv w0 w' (((bytesO (.slice a3 bn c3) b :: L.set j (diskO g wd.flush)).set (j + 1) (diskO g (desR m wd.flush (m.en + bn)).2.2)).set (i + 1) (logO gl g (desR m wd.flush (m.en + bn)).2.1))) := Lib.hid (describe_lv hl3 hi3 hj3 (by have := HIJ.out; omega) (m.en + bn) hlt9 HRN.out (by rw [flush_len, HWL.out]; exact HF.out) hok3)
      obtain ⟨_, _, -, -, hgl3, -, -, -, -, s4, -, -, -, -⟩ := hl3.logFacts hi3
      obtain ⟨Q, hQ⟩ : ∃ Q, Q = desR m wd.flush (m.en + bn) := ⟨_, rfl⟩
      rw [← hQ] at hde hdb hdo HDC
      have HQ := Lib.hid hQ
      obtain ⟨qe, qm, qd⟩ := Q
      simp only at hde hdb hdo HDC
      have HIQ : Hid ((((L.set j (diskO g wd.flush)).set j (diskO g qd)).set i (logO gl g qm))[i]? = some (logO gl g qm)) := Lib.hid (List.getElem?_set_self (by rw [List.length_set, List.length_set]; exact HIL.out))
      have HIQ1 : Hid ((bytesO (.slice a3 bn c3) b :: ((L.set j (diskO g wd.flush)).set j (diskO g qd)).set i (logO gl g qm))[i + 1]? = some (logO gl g qm)) := Lib.hid (by rw [List.getElem?_cons_succ]; exact HIQ.out)
      clear hQ hl3 hi3 hj3 hi3' hj3' hok3 hlt9
      rcases hde with rfl | rfl
      · have hqm := hdo rfl
        have HQR : Hid (qm.recs = m.recs) := Lib.hid (by rw [hqm])
        clear hdb hdo hqm
        go_upto_region 11 with (first
          | (go_at_call 30; refine HDC.out.mono ?_; rintro x w4 ⟨rfl, hl4⟩; have HL4 : Hid (Lv w0 w4 (bytesO (.slice a3 bn c3) b :: ((L.set j (diskO g wd.flush)).set j (diskO g qd)).set i (logO gl g qm))) := Lib.hid hl4; clear hl4 HDC))
        obtain ⟨_, _, -, -, hgl4, t0, -, -, -, -, t5, t6, -, fz⟩ := HL4.out.logFacts HIQ1.out
        have z6 := fz 6
        rw [HQR.out] at t5
        have HF5 := Lib.hid (HL4.out.logSyn HIQ1.out m.recs.length)
        go_wp2_with fail
        go_ret
        unfold syncR
        rw [HAB.out, ← HWW.out]
        simp only [if_true, HON.out]
        rw [← HQ.out]
        simp only [if_true]
        refine ⟨rfl, ?_⟩
        have := HF5.out.tail
        rw [List.set_set, List.set_set] at this
        exact this
      · have hqm := hdb (by omega)
        subst hqm
        clear hdb hdo
        go_wp2_with (first
          | (go_at_call 30; refine HDC.out.mono ?_; rintro x w4 ⟨rfl, hl4⟩; have HL4 : Hid (Lv w0 w4 (bytesO (.slice a3 bn c3) b :: ((L.set j (diskO g wd.flush)).set j (diskO g qd)).set i (logO gl g qm))) := Lib.hid hl4; clear hl4 HDC))
        go_ret
        unfold syncR
        rw [HAB.out, ← HWW.out]
        simp only [if_true, HON.out]
        rw [← HQ.out]
        simp only [show ¬ ((10 : Int) = 0) by omega, if_false]
        refine ⟨rfl, ?_⟩
        have := HL4.out.tail
        rw [List.set_set] at this
        exact this
  · have h10 : ¬ ((10 : Int) = 0) := by omega
    have H10 := Lib.hid h10
    clear h10
    go_wp2_with fail
    go_ret
    unfold syncR
    rw [HAB.out, ← HWW.out]
    simp only [H10.out, if_false]
    exact ⟨rfl, by rw [HS2.out]; exact HL2.out.tail⟩
end
end Go.Proofs.YthffegfcgmhppaaDoor
namespace Go.Proofs.YthffegfcgmhppaaDoor.Roll
variable {P : Program} {ops : Array Oper} {Q : Exit → Act → World → Prop}
/-- the operations from n on come last, each behind the one before it -/
def tailOk2 (ops : Array Oper) (n : Nat) : Bool := (List.range ops.size).all fun k => decide (k < n) || match ops[k]? with | none => true | some o => ((List.range n).all fun i => (ahead o).contains i) && (decide (k ≤ n) || (ahead o).contains (k - 1))
theorem tail_ahead2 {n k : Nat} {o : Oper} (h : tailOk2 ops n = true) (ho : ops[k]? = some o) (hk : n ≤ k) : (∀ i, i < n → i ∈ ahead o) ∧ (n < k → k - 1 ∈ ahead o) := by
  have hlt : k < ops.size := (Array.getElem?_eq_some_iff.1 ho).1
  have h1 := List.all_eq_true.1 h k (List.mem_range.2 hlt)
  simp only [ho, Bool.or_eq_true, Bool.and_eq_true, decide_eq_true_eq] at h1
  have h2 := h1.resolve_left (by omega)
  refine ⟨fun i hi => by simpa using List.all_eq_true.1 h2.1 i (List.mem_range.2 hi), fun hk2 => ?_⟩
  have h3 := h2.2.resolve_left (by omega)
  simpa using h3
theorem wpAny_tail2 (hb : backOk ops = true) {n : Nat} (ht : tailOk2 ops n = true) : ∀ (fuel m : Nat) (listed : Array Bool) (a : Act) (w : World), n ≤ m → m ≤ ops.size → ops.size - m ≤ fuel → listed.size = ops.size →
    (∀ j : Nat, j < m → listed[j]? = some true) → (∀ j : Nat, m ≤ j → j < ops.size → listed[j]? = some false) → wpList P ops Q (ops.toList.drop m) a w → wpAny P .any ops Q fuel listed a w := by
  intro fuel
  induction fuel with
  | zero =>
    intro m listed a w hn hm hf hl h1 h2 h
    have : m = ops.size := by omega
    subst this
    rw [List.drop_of_length_le (by simp)] at h
    refine ⟨?_, h⟩
    cases hr : Region.ready .any ops listed with
    | nil => rfl
    | cons x r =>
      have hx : x ∈ Region.ready .any ops listed := by rw [hr]; exact List.mem_cons_self
      obtain ⟨hu, o, ho, _⟩ := mem_ready.1 hx
      have := h1 x (Array.getElem?_eq_some_iff.1 ho).1
      rw [unlisted_of_getD hu] at this
      cases this
  | succ fuel ih =>
    intro m listed a w hn hm hf hl h1 h2 h
    by_cases hms : m = ops.size
    · subst hms
      rw [List.drop_of_length_le (by simp)] at h
      refine ⟨fun _ => h, fun x hx => ?_⟩
      obtain ⟨hu, o, ho, _⟩ := mem_ready.1 hx
      have := h1 x (Array.getElem?_eq_some_iff.1 ho).1
      rw [unlisted_of_getD hu] at this
      cases this
    · have hlt : m < ops.size := by omega
      have hom : ops[m]? = some ops[m] := Array.getElem?_eq_getElem hlt
      refine ⟨fun hr => ?_, fun k hk => ?_⟩
      · have := ready_least rfl hb hl hr m hlt
        rw [h2 m (Nat.le_refl _) hlt] at this
        cases this
      · obtain ⟨hu, o, ho, hedge⟩ := mem_ready.1 hk
        have hku := unlisted_of_getD hu
        have hklt : k < ops.size := (Array.getElem?_eq_some_iff.1 ho).1
        have hkm : m ≤ k := by
          rcases Nat.lt_or_ge k m with hx | hx
          · rw [h1 k hx] at hku; cases hku
          · exact hx
        have hk : k = m := by
          rcases Nat.lt_or_ge m k with hx | hx
          · obtain ⟨e, he, hbd, hon⟩ := ahead_of_edge ((tail_ahead2 ht ho (by omega)).2 (by omega))
            have := listed_of_getD (hedge e he hbd)
            rw [hon, h2 (k - 1) (by omega) (by omega)] at this
            cases this
          · omega
        subst hk
        rw [List.drop_eq_getElem_cons (by simpa using hlt)] at h
        unfold wpList at h
        unfold wpOp
        simp only [hom]
        simp only [Array.getElem_toList] at h
        have next : ∀ a' w', wpList P ops Q (ops.toList.drop (k + 1)) a' w' → wpAny P .any ops Q fuel (listed.setIfInBounds k true) a' w' := by
          intro a' w' h'
          refine ih (k + 1) _ a' w' (by omega) hlt (by omega) (by rw [Array.size_setIfInBounds]; exact hl) ?_ ?_ h'
          · intro j hj
            rw [set_get hku]
            split
            · rfl
            · exact h1 j (by omega)
          · intro j hj hjs
            rw [set_get hku, if_neg (by omega)]
            exact h2 j (by omega) hjs
        split
        · rename_i hw
          rw [if_pos hw] at h
          exact h.imp (Oper.wp_mono next) id
        · rename_i hw
          rw [if_neg hw] at h
          exact next _ _ h
theorem wpAny_heldv (hb : backOk ops = true) (hap : apartB ops = true) {L : List (List Nat)} (hlo : looksOk ops L = true) {n : Nat} (hnle : n ≤ ops.size) (htl : tailOk2 ops n = true) {I0 : World → Prop} {I1 : Value → World → Prop} {J : World → Prop} {k0 : Nat} {PL : List Bool} {S : World → World → Prop} {R : Nat → (Nat → Value) → World → Prop} {a0 : Act}
    (hsz : ∀ j t, slot ops j = some t → t < a0.tmps.size)
    (hS : ∀ j v w w', S w w' → R j v w → R j v w') (hC : ∀ j v v' w, (∀ i, i = j ∨ i ∈ L.getD j [] → v i = v' i) → R j v w → R j v' w) (hk0 : k0 < n) (hPL : ∀ (o : Oper) (k : Nat), ops[k0]? = some o → k < n → k ≠ k0 → PL.getD k false = true ∨ aheadB ops 12 k0 k = true) (hJ0 : ∀ w, I0 w → J w) (hJ1 : ∀ u w, I1 u w → J w) (hS0 : ∀ w, S w w)
    (hop : ∀ (k : Nat) (o : Oper), k < n → ops[k]? = some o → Doesw P ops L I0 I1 J k0 PL S R a0 k o)
    (hend : ∀ (vals : Nat → Value) (w : World), I1 (vals k0) w → (∀ j : Nat, j < n → R j vals w) → wpList P ops Q (ops.toList.drop n) (putOf ops vals (List.range n) a0) w) :
    ∀ (fuel : Nat) (listed : Array Bool) (vals : Nat → Value) (a : Act) (w : World), listed.toList.count false ≤ fuel → (∀ j : Nat, n ≤ j → j < ops.size → listed[j]? = some false) → Heldw ops I0 I1 k0 R a0 vals listed a w → wpAny P .any ops Q fuel listed a w := by
  have slot_lt : ∀ {j t : Nat}, slot ops j = some t → j < ops.size := by
    intro j t hj
    unfold slot at hj
    cases hk : ops[j]? with
    | none => rw [hk] at hj; cases hj
    | some o => exact (Array.getElem?_eq_some_iff.1 hk).1
  have fin : ∀ (fuel : Nat) (listed : Array Bool) (vals : Nat → Value) (a : Act) (w : World), listed.toList.count false ≤ fuel → (∀ j : Nat, n ≤ j → j < ops.size → listed[j]? = some false) → Heldw ops I0 I1 k0 R a0 vals listed a w → (∀ j : Nat, j < n → listed[j]? = some true) → wpAny P .any ops Q fuel listed a w := by
    intro fuel listed vals a w hc hun h hall
    have e : a = putOf ops vals (List.range n) a0 := by
      have et : a.tmps = (putOf ops vals (List.range n) a0).tmps := by
        refine Array.ext_getElem? fun t => ?_
        by_cases hx : ∃ j : Nat, j < n ∧ slot ops j = some t
        · obtain ⟨j, hjn, hj⟩ := hx
          rw [h.new j t (hall j hjn) hj, putOf_mem hap vals _ _ j t (List.mem_range.2 hjn) hj (hsz j t hj)]
        · rw [h.old t (fun j hj e => ?_), putOf_other ops vals _ _ t (fun j hj e => hx ⟨j, List.mem_range.1 hj, e⟩)]
          rcases Nat.lt_or_ge j n with hjn | hjn
          · exact hx ⟨j, hjn, e⟩
          · rw [hun j hjn (slot_lt e)] at hj; cases hj
      have ed : a.defers = (putOf ops vals (List.range n) a0).defers := by rw [putOf_defers]; exact h.defers
      cases a
      generalize putOf ops vals (List.range n) a0 = b at *
      cases b
      simp_all
    have hcnt : ops.size - n ≤ fuel := by
      refine Nat.le_trans ?_ hc
      have h1 : (listed.toList.drop n).count false = ops.size - n := by
        rw [List.count_eq_length.2]
        · simp [h.len]
        · intro b hb'
          obtain ⟨i, hi, rfl⟩ := List.mem_iff_getElem.1 hb'
          simp only [List.length_drop, Array.length_toList] at hi
          have := hun (n + i) (by omega) (by rw [← h.len]; omega)
          rw [Array.getElem?_eq_getElem (by omega)] at this
          simpa using (Option.some.inj this).symm
      rw [← h1]
      exact (List.drop_sublist n _).count_le false
    exact wpAny_tail2 hb htl fuel n listed a w (Nat.le_refl _) hnle hcnt h.len hall hun (e ▸ hend vals w (h.inv.1 (hall k0 hk0)) (fun j hj => h.got j (hall j hj)))
  intro fuel
  induction fuel with
  | zero =>
    intro listed vals a w hc hun h
    refine fin 0 listed vals a w hc hun h fun j hj => ?_
    have hjl : j < listed.size := by rw [h.len]; omega
    rw [Array.getElem?_eq_getElem hjl]
    have h0 : listed.toList.count false = 0 := by omega
    have := List.count_eq_zero.1 h0
    cases hv : listed[j] with
    | true => rfl
    | false => exact (this (hv ▸ (by simp))).elim
  | succ fuel ih =>
    intro listed vals a w hc hun h
    by_cases hall : ∀ j : Nat, j < n → listed[j]? = some true
    · exact fin _ listed vals a w hc hun h hall
    refine ⟨fun hr => (hall fun j hj => ready_least rfl hb h.len hr j (by omega)).elim, fun k hk => ?_⟩
    obtain ⟨hu, o, ho, hedge⟩ := mem_ready.1 hk
    have hku := unlisted_of_getD hu
    have hklt : k < ops.size := (Array.getElem?_eq_some_iff.1 ho).1
    have hkn : k < n := by
      rcases Nat.lt_or_ge k n with hx | hx
      · exact hx
      · exact (hall fun j hj => by
          obtain ⟨e, he, hbd, hon⟩ := ahead_of_edge ((tail_ahead2 htl ho hx).1 j hj)
          exact hon ▸ listed_of_getD (hedge e he hbd)).elim
    have hah : ∀ i ∈ ahead o, listed[i]? = some true := by
      intro i hi
      obtain ⟨e, he, rfl⟩ := List.mem_map.1 hi
      obtain ⟨h1, h2⟩ := List.mem_filter.1 he
      exact listed_of_getD (hedge e (by simpa using h1) h2)
    have hlk := List.all_eq_true.1 hlo k (List.mem_range.2 hklt)
    simp only [ho, Bool.and_eq_true] at hlk
    obtain ⟨⟨hsel, hpre⟩, hlk⟩ := hlk
    have hpre' : ∀ i ∈ L.getD k [], i ∈ ahead o := fun i hi => by simpa using List.all_eq_true.1 hpre i hi
    have hsame : ∀ t ∈ o.looksAt ops, a.tmps[t]? = (putOf ops vals (L.getD k []) a0).tmps[t]? := by
      intro t ht
      have h1 := List.all_eq_true.1 hlk t ht
      by_cases hx : ∃ j : Nat, listed[j]? = some true ∧ slot ops j = some t
      · obtain ⟨j, hj, hjt⟩ := hx
        have hjlt : j < ops.size := by rw [← h.len]; exact (Array.getElem?_eq_some_iff.1 hj).1
        have h2 := List.all_eq_true.1 h1 j (List.mem_range.2 hjlt)
        have hoj : ops[j]? = some ops[j] := Array.getElem?_eq_getElem hjlt
        simp only [hoj, Bool.or_eq_true, bne_iff_ne, ne_eq, List.contains_eq_mem, decide_eq_true_eq] at h2
        have hjin : j ∈ L.getD k [] := by
          rcases h2 with (h2 | h2) | h2
          · exact (h2 hjt).elim
          · exact h2
          · have := h.closed j _ hoj hj k h2
            rw [hku] at this; cases this
        rw [h.new j t hj hjt, putOf_mem hap vals _ _ j t hjin hjt (hsz j t hjt)]
      · rw [h.old t (fun j hj e => hx ⟨j, hj, e⟩), putOf_other ops vals _ _ t (fun j hj e => hx ⟨j, hah j (hpre' j hj), e⟩)]
    have hk0l : k0 < listed.size := by rw [h.len]; omega
    have hsd := Array.getElem?_eq_getElem hk0l
    have hJ : J w := by
      cases hv : listed[k0] with
      | true => rw [hv] at hsd; exact hJ1 _ _ (h.inv.1 hsd)
      | false => rw [hv] at hsd; exact hJ0 _ (h.inv.2 hsd)
    have hph : k = k0 ∨ PL.getD k false = true ∨ listed[k0]? = some false := by
      by_cases e : k = k0
      · exact .inl e
      · have hok0 : ops[k0]? = some ops[k0] := Array.getElem?_eq_getElem (by omega)
        rcases hPL _ k hok0 hkn e with hp | hp
        · exact .inr (.inl hp)
        · refine .inr (.inr ?_)
          cases hv : listed[k0] with
          | false => rw [hsd, hv]
          | true =>
            rw [hv] at hsd
            have := closedB h.closed 12 k0 k hp hsd
            rw [hku] at this; cases this
    have hd := hop k o hkn ho vals w (by
      unfold Inw
      by_cases e : k = k0
      · rw [if_pos e]; subst e; exact h.inv.2 hku
      · rw [if_neg e]
        split
        · exact hJ
        · rename_i hnp
          rcases hph with hp | hp | hp
          · exact (e hp).elim
          · exact (hnp hp).elim
          · exact h.inv.2 hp) (fun j hj => h.got j (hah j (hpre' j hj)))
    have hdst : slot ops k = o.dst := by unfold slot; rw [ho]; rfl
    refine wpOp_mono ?_ (wpOp_of_list (Q := Q) (a := a) ho ?_ ?_ (exec_congr (fun cs c e => ?_) hsame) (wanted_congr hsame) hd)
    · rintro a' w' ⟨v, rfl, hO, hR⟩
      have hSw : S w w' := by
        unfold Outw at hO
        split at hO
        · exact hO.2
        · split at hO
          · rw [hO]; exact hS0 w
          · exact hO.2
      refine ih (listed.setIfInBounds k true) (upd vals k (if o.dst.isSome then v else undef)) _ w' (by have := count_set hku; omega) (fun j hj hjs => by rw [set_get hku, if_neg (by omega)]; exact hun j hj hjs) ?_
      refine ⟨?_, ?_, ?_, ?_, ?_, ?_, ?_, ?_⟩
      · by_cases e : k = k0
        · subst e
          unfold Outw at hO
          rw [if_pos rfl] at hO
          refine ⟨fun _ => ?_, fun hf => ?_⟩
          · rw [upd_same]; exact hO.1
          · rw [set_get hku, if_pos rfl] at hf; cases hf
        · unfold Outw at hO
          rw [if_neg e] at hO
          have e2 : k0 ≠ k := fun h => e h.symm
          refine ⟨fun ht => ?_, fun hf => ?_⟩
          · rw [set_get hku, if_neg e2] at ht
            rw [upd_other e2]
            split at hO
            · rw [hO]; exact h.inv.1 ht
            · rename_i hnp
              rcases hph with hp | hp | hp
              · exact (e hp).elim
              · exact (hnp hp).elim
              · rw [ht] at hp; cases hp
          · rw [set_get hku, if_neg e2] at hf
            split at hO
            · rw [hO]; exact h.inv.2 hf
            · exact hO.1
      · rw [Array.size_setIfInBounds]; exact h.len
      · rw [← h.defers]; cases o.dst <;> rfl
      · rw [← h.size]; cases o.dst <;> simp [Act.put]
      · intro j oj hoj hj i hi
        rw [set_get hku] at hj ⊢
        by_cases ei : i = k
        · rw [if_pos ei]
        · rw [if_neg ei]
          by_cases ej : j = k
          · subst ej
            rw [ho] at hoj; cases hoj
            exact hah i hi
          · rw [if_neg ej] at hj
            exact h.closed j oj hoj hj i hi
      · intro t ht
        have hne : o.dst ≠ some t := by rw [← hdst]; exact ht k (by rw [set_get hku, if_pos rfl])
        rw [put_get_ne hne]
        refine h.old t fun j hj => ht j ?_
        rw [set_get hku]; split <;> first | rfl | exact hj
      · intro j t hj hjt
        rw [set_get hku] at hj
        by_cases ej : j = k
        · subst ej
          rw [hdst] at hjt
          rw [hjt, put_get_eq (by rw [h.size]; exact hsz j t (by rw [hdst]; exact hjt)), upd_same]
          simp
        · rw [if_neg ej] at hj
          rw [upd_other ej]
          have hne : o.dst ≠ some t := by
            intro e
            exact ej (apart_inj hap hjt (by rw [hdst]; exact e))
          rw [put_get_ne hne]
          exact h.new j t hj hjt
      · intro j hj
        rw [set_get hku] at hj
        by_cases ej : j = k
        · subst ej
          exact hR
        · rw [if_neg ej] at hj
          have hjlt : j < ops.size := by rw [← h.len]; exact (Array.getElem?_eq_some_iff.1 hj).1
          have hoj : ops[j]? = some ops[j] := Array.getElem?_eq_getElem hjlt
          have hlj := List.all_eq_true.1 hlo j (List.mem_range.2 hjlt)
          simp only [hoj, Bool.and_eq_true] at hlj
          refine hC j vals _ w' (fun i hi => ?_) (hS j _ w w' hSw (h.got j hj))
          have hik : i ≠ k := by
            rcases hi with rfl | hi
            · exact ej
            · intro e
              have h1 : i ∈ ahead ops[j] := by simpa using List.all_eq_true.1 hlj.1.2 i hi
              have h2 := h.closed j _ hoj hj i h1
              rw [e, hku] at h2; cases h2
          rw [upd_other hik]
    · intro hnone v u w'
      unfold resg
      rw [hnone]
      exact id
    · intro t ht
      rw [putOf_size]
      exact hsz k t (by rw [hdst]; exact ht)
    · rw [e] at hsel; cases hsel
/-- the checks -/
def regOk2 (ops : Array Oper) (D : List (Option Tmp)) (L : List (List Nat)) (n N : Nat) : Bool := decide (n ≤ ops.size) && tailOk2 ops n && backOk ops && apartB ops && looksOk ops L &&
  ((List.range ops.size).all fun j => match slot ops j with | some t => decide (t < N) | none => true) && ((List.range ops.size).all fun j => slot ops j == D.getD j none) &&
  (List.range ops.size).all fun k => match (ops[k]?).bind (·.guard) with | none => true | some (g, _) => (L.getD k []).contains g && (D.getD g none).isSome
theorem region_anyv {id : Nat} {l : List Oper} {a0 : Act} {w0 : World} (n : Nat) (D : List (Option Tmp)) (L : List (List Nat)) (I0 : World → Prop) (I1 : Value → World → Prop) (J : World → Prop) (k0 : Nat) (PL : List Bool) (S : World → World → Prop) (R : Nat → (Nat → Value) → World → Prop) (hm : P.follows .mixedOrders = true)
    (hok : regOk2 l.toArray D L n a0.tmps.size = true) (h0 : I0 w0.drew) (hk0 : k0 < n) (hPL : (List.range n).all (fun k => k == k0 || PL.getD k false || aheadB l.toArray 12 k0 k) = true) (hJ0 : ∀ w, I0 w → J w) (hJ1 : ∀ u w, I1 u w → J w) (hS0 : ∀ w, S w w)
    (hS : ∀ j v w w', S w w' → R j v w → R j v w') (hC : ∀ j v v' w, (∀ i, i = j ∨ i ∈ L.getD j [] → v i = v' i) → R j v w → R j v' w)
    (hop : OwesAllw P D L I0 I1 J k0 PL S R a0 0 n l)
    (hend : ∀ (vals : Nat → Value) (w : World), I1 (vals k0) w → (∀ j : Nat, j < n → R j vals w) → wpList P l.toArray Q (l.drop n) (putD D vals (List.range n) a0) w) :
    (Code.region id l.toArray true).wp P Q a0 w0 := by
  simp only [regOk2, Bool.and_eq_true] at hok
  obtain ⟨⟨⟨⟨⟨⟨⟨hnle, htl⟩, hb⟩, hap⟩, hlo⟩, hsz⟩, hD⟩, hgd⟩ := hok
  have hnle' := of_decide_eq_true hnle
  have slot_lt : ∀ {j t : Nat}, slot l.toArray j = some t → j < l.toArray.size := by
    intro j t hj
    unfold slot at hj
    cases hk : l.toArray[j]? with
    | none => rw [hk] at hj; cases hj
    | some o => exact (Array.getElem?_eq_some_iff.1 hk).1
  have hsz' : ∀ j t, slot l.toArray j = some t → t < a0.tmps.size := by
    intro j t hj
    have h1 := List.all_eq_true.1 hsz j (List.mem_range.2 (slot_lt hj))
    simp only [hj] at h1
    exact of_decide_eq_true h1
  have hD' : ∀ j, j < l.toArray.size → slot l.toArray j = D.getD j none := fun j hj => by simpa using List.all_eq_true.1 hD j (List.mem_range.2 hj)
  refine wp_region_any hm ?_
  refine wpAny_heldv hb hap hlo hnle' htl (I0 := I0) (I1 := I1) (J := J) (k0 := k0) (PL := PL) (S := S) (R := R) (a0 := a0) hsz' hS hC hk0 (fun o k ho hk hne => ?_) hJ0 hJ1 hS0 (fun k o hk ho => ?_) (fun vals w hI hR => ?_) _ _ (fun _ => undef) a0 _ ?_ ?_ ?_
  · have h1 := List.all_eq_true.1 hPL k (List.mem_range.2 hk)
    simp only [Bool.or_eq_true, beq_iff_eq] at h1
    rcases h1 with (h1 | h1) | h1
    · exact (hne h1).elim
    · exact .inl h1
    · exact .inr h1
  · have hklt : k < l.toArray.size := (Array.getElem?_eq_some_iff.1 ho).1
    have h1 := owes_of_allw l 0 n hop k o hk (by simpa using ho)
    rw [Nat.zero_add] at h1
    have hlk := List.all_eq_true.1 hlo k (List.mem_range.2 hklt)
    simp only [ho, Bool.and_eq_true] at hlk
    refine does_of_owesw hD' (fun j hj => ?_) hap hsz' (fun g want hg => ?_) h1
    · have h2 : j ∈ ahead o := by simpa using List.all_eq_true.1 hlk.1.2 j hj
      have h3 := List.all_eq_true.1 hb k (List.mem_range.2 hklt)
      simp only [ho] at h3
      have := of_decide_eq_true (List.all_eq_true.1 h3 j h2)
      omega
    · have h2 := List.all_eq_true.1 hgd k (List.mem_range.2 hklt)
      simp only [ho, Option.bind_some, hg, Bool.and_eq_true] at h2
      have hgl : g ∈ L.getD k [] := by simpa using h2.1
      refine ⟨hgl, ?_⟩
      have h4 : g ∈ ahead o := by simpa using List.all_eq_true.1 hlk.1.2 g hgl
      have h3 := List.all_eq_true.1 hb k (List.mem_range.2 hklt)
      simp only [ho] at h3
      have := of_decide_eq_true (List.all_eq_true.1 h3 g h4)
      rw [hD' g (by omega)]; exact h2.2
  · rw [putD_eq hD' vals _ _ (fun j hj => by have := List.mem_range.1 hj; omega)]
    exact hend vals w hI hR
  · simp
  · intro j _ hj
    rw [Array.getElem?_replicate, if_pos hj]
  · refine ⟨⟨fun hf => ?_, fun _ => h0⟩, by simp, rfl, rfl, ?_, fun _ _ => rfl, ?_, ?_⟩
    · rw [Array.getElem?_replicate] at hf
      split at hf <;> simp at hf
    · intro j o _ hj
      rw [Array.getElem?_replicate] at hj
      split at hj <;> simp at hj
    · intro j t hj
      rw [Array.getElem?_replicate] at hj
      split at hj <;> simp at hj
    · intro j hj
      rw [Array.getElem?_replicate] at hj
      split at hj <;> simp at hj
/-- A REGION THAT DRAWS ITS ORDER, in which operation k0 alone writes what others may see. I0: what holds ahead of it; I1: behind it, of its result; J: throughout. -/
theorem region_v {id : Nat} {l : List Oper} {a0 : Act} {w0 : World} (n N : Nat) (D : List (Option Tmp)) (L : List (List Nat)) (LV : List (Nat × Value)) (k0 : Nat) (PL : List Bool) (I0 : World → Prop) (I1 : Value → World → Prop) (J : World → Prop) (S : World → World → Prop) (RL : List ((Nat → Value) → World → Prop)) (hm : P.follows .mixedOrders = true)
    (hok : regOk2 l.toArray D L n N = true) (hN : a0.tmps.size = N) (hLV : Lives a0 LV) (h0 : I0 w0.drew) (hk0 : k0 < n)
    (hPL : (List.range n).all (fun k => k == k0 || PL.getD k false || aheadB l.toArray 12 k0 k) = true) (hJ0 : ∀ w, I0 w → J w) (hJ1 : ∀ u w, I1 u w → J w) (hS0 : ∀ w, S w w) (hS : Stabg S RL)
    (hop : ∀ b0 : Act, b0.tmps.size = N → Lives b0 LV → OwesAllw P D L I0 I1 J k0 PL S (atg L RL) b0 0 n l)
    (hend : ∀ (vals : Nat → Value) (w : World), I1 (vals k0) w → (∀ j : Nat, j < n → atg L RL j vals w) → wpList P l.toArray Q (l.drop n) (putD D vals (List.range n) a0) w) :
    (Code.region id l.toArray true).wp P Q a0 w0 := by
  refine region_anyv n D L I0 I1 J k0 PL S (atg L RL) hm (hN ▸ hok) h0 hk0 hPL hJ0 hJ1 hS0 (fun j v w w' hs h => hS.get j _ w w' hs h) (fun j v v' w hv h => ?_) (hop a0 hN hLV) hend
  unfold atg at *
  have e : rs L j v = rs L j v' := by
    funext i
    unfold rs
    split
    · rename_i hi
      exact hv i (by simpa using hi)
    · rfl
  rw [← e]; exact h
end Go.Proofs.YthffegfcgmhppaaDoor.Roll
namespace Go.Proofs.YthffegfcgmhppaaDoor
open Go.RowKit
set_option linter.unusedSimpArgs false
set_option linter.unusedVariables false
def Dap7 : List (Option Tmp) := [some 19, some 20, some 21, some 22, some 23, some 24, some 25, some 26, some 27, some 28, some 29, none]
def Lap7 : List (List Nat) := [[], [], [1], [2], [3], [], [5], [6], [4, 7], [0], [9], [10, 8]]
/-- Append: error, log -/
def appE (m : LM) (on : Bool) (n : Nat) : Int := if 4000 < n then 2 else if roomZ m.n m.tak < n then 9 else if on then 0 else 10
def appM (m : LM) (on : Bool) (r : List UInt8) : LM := if appE m on r.length = 0 then { m with recs := m.recs ++ [r], tak := m.tak + (r.length + 12) } else m
section
variable {w0 w : World} {L : List Obj} {gl g i j : Nat} {m : LM} {d : DM}
set_option maxRecDepth 100000 in
set_option maxHeartbeats 4000000 in
theorem append_lv (h : Lv w0 w L) (hi : L[i]? = some (logO gl g m)) (hj : L[j]? = some (diskO g d)) {Z : Nat → Prop} {a : Option Addr} {n c : Nat} {r : List UInt8} (hB : Bs Z w a n c r) (hn : m.n ≤ 4096) (ht : m.tak ≤ 1000000) (hn2 : n ≤ 1000000) (hrl : m.recs.length ≤ 100000) :
    Calls Tryd.prog 11 #[.pointer (some ⟨gl, 0, none⟩), .slice a n c] w fun x w' => x = .returned (.int .i64 (appE m d.on n)) ∧ Lv w0 w' (L.set i (logO gl g (appM m d.on r))) := by
  have hrn := hB.1
  have hc1 := hB.2.2.1
  have hc2 : c ≤ 9223372036854775807 := hB.2.2.2.1
  obtain ⟨_, _, -, -, hg, c0, -, -, -, -, -, -, -, -⟩ := h.logFacts hi
  have HSI := Lib.hid (set_self_of hi)
  have HI := Lib.hid hi
  have HJ := Lib.hid hj
  have HMN := Lib.hid hn
  have HMT := Lib.hid ht
  have HN6 := Lib.hid hn2
  have HRL := Lib.hid hrn
  have HRLB := Lib.hid hrl
  have HIL := Lib.hid (List.getElem?_eq_some_iff.1 hi).1
  obtain ⟨E, hE⟩ : ∃ E, E = appE m d.on n := ⟨_, rfl⟩
  obtain ⟨M, hM⟩ : ∃ M, M = appM m d.on r := ⟨_, rfl⟩
  rw [← hE, ← hM]
  have hME : M = if E = 0 then { m with recs := m.recs ++ [r], tak := m.tak + (n + 12) } else m := by rw [hM, hE]; unfold appM; rw [hrn]
  have HL := Lib.hid h
  by_cases a1 : 4000 < n
  · have a1' : (4000 : Int) < (n : Int) := by omega
    have HE0 : Hid (E = 2) := Lib.hid (by rw [hE]; unfold appE; rw [if_pos a1])
    have HM0 : Hid (M = m) := Lib.hid (by rw [hME, HE0.out]; rfl)
    clear h hi hj hB hE hM hME a1
    go_enter Tryd.func11, Tryd.ntmps11
    go_wp2_with fail
    go_ret
    exact ⟨by rw [HE0.out]; rfl, by rw [HM0.out, HSI.out]; exact HL.out⟩
  · have a1' : (n : Int) ≤ 4000 := by omega
    obtain ⟨RM, hRM⟩ : ∃ RM, RM = roomZ m.n m.tak := ⟨_, rfl⟩
    by_cases a2 : RM < (n : Int)
    · have HE0 : Hid (E = 9) := Lib.hid (by rw [hE]; unfold appE; rw [if_neg a1, ← hRM, if_pos a2])
      have HM0 : Hid (M = m) := Lib.hid (by rw [hME, HE0.out]; rfl)
      have HRM := Lib.hid hRM
      clear h hi hj hB hE hM hME a1 hRM
      go_enter Tryd.func11, Tryd.ntmps11
      go_wp2_with (first
        | (have x1 := HL.out; go_at_call 9; refine (room_lv x1 HI.out HMN.out HMT.out).mono ?_; rintro e q ⟨rfl, hbq⟩; rw [← HRM.out]; have HLq := Lib.hid (HL.out.below hbq); clear x1 hbq HL))
      go_ret
      exact ⟨by rw [HE0.out]; rfl, by rw [HM0.out, HSI.out]; exact HLq.out⟩
    · have a2' : (n : Int) ≤ RM := by omega
      have HRM := Lib.hid hRM
      have HB0 := Lib.hid hB
      cases hon : d.on with
      | false =>
        have HE0 : Hid (E = 10) := Lib.hid (by rw [hE]; unfold appE; rw [if_neg a1, ← hRM, if_neg a2, hon]; rfl)
        have HM0 : Hid (M = m) := Lib.hid (by rw [hME, HE0.out]; rfl)
        have HON := Lib.hid hon
        clear h hi hj hB hE hM hME a1 hRM hon a2 c0
        go_enter Tryd.func11, Tryd.ntmps11
        go_upto_region 5 with (first
          | (have x1 := HL.out; go_at_call 9; refine (room_lv x1 HI.out HMN.out HMT.out).mono ?_; rintro e q ⟨rfl, hbq⟩; rw [← HRM.out]; have HLq := Lib.hid (HL.out.below hbq); clear x1 hbq HL))
        obtain ⟨_, _, -, -, hgq, c0, -, -, -, -, -, -, -, -⟩ := HLq.out.logFacts HI.out
        go_wp2_with (first
          | (have x1 := HLq.out; go_at_call 7; refine (on_lv x1 HJ.out).mono ?_; rintro e q2 ⟨rfl, rfl⟩; rw [HON.out]; clear x1))
        go_ret
        exact ⟨by rw [HE0.out]; rfl, by rw [HM0.out, HSI.out]; exact HLq.out⟩
      | true =>
        have HE0 : Hid (E = 0) := Lib.hid (by rw [hE]; unfold appE; rw [if_neg a1, ← hRM, if_neg a2, hon]; rfl)
        have HM0 : Hid (M = { m with recs := m.recs ++ [r], tak := m.tak + (n + 12) }) := Lib.hid (by rw [hME, HE0.out]; rfl)
        have HON := Lib.hid hon
        have HTK : Hid (m.tak + (n + 12) = m.tak + (n + 12)) := Lib.hid rfl
        have hw1 : IntKind.i64.wrap ((n : Int) + 12) = (n : Int) + 12 := i64_id _ (by omega) (by omega)
        have hw2 : IntKind.i64.wrap ((m.tak : Int) + ((n : Int) + 12)) = ((m.tak + (n + 12) : Nat) : Int) := by rw [i64_id _ (by omega) (by omega)]; omega
        clear h hi hj hB hE hM hME a1 hRM hon a2 c0
        go_enter Tryd.func11, Tryd.ntmps11
        go_upto_region 5 with (first
          | (have x1 := HL.out; go_at_call 9; refine (room_lv x1 HI.out HMN.out HMT.out).mono ?_; rintro e q ⟨rfl, hbq⟩; rw [← HRM.out]; have HLq := Lib.hid (HL.out.below hbq); have HB := Lib.hid (HB0.out.kept (Kept.of_below (fun _ => False) hbq) (fun _ _ _ h => h)); clear x1 hbq HL))
        obtain ⟨kl, Bl, vl, BL, hlg, hlB, hBlt, hset⟩ := HLq.out.log HI.out
        obtain ⟨al, cl, rfl, h1, h2, hgq, c0, -, -, -, -, c5, -, -, -⟩ := hlg.facts
        go_upto_region 7 with (first
          | (have x1 := HLq.out; go_at_call 7; refine (on_lv x1 HJ.out).mono ?_; rintro e q2 ⟨rfl, rfl⟩; rw [HON.out]; clear x1))
        obtain ⟨ys, hys, hyj⟩ := hlg.recs
        obtain ⟨rl, hrle⟩ : ∃ rl, rl = m.recs.length := ⟨_, rfl⟩
        rw [← hrle] at c5 hys HRLB hlg
        have HYS := Lib.hid hys
        have HYJ : Hid (∀ j (hj : j < m.recs.length), ∃ a c, ys[j]? = some (.slice a m.recs[j].length c) ∧ Bs Bl q a m.recs[j].length c m.recs[j]) := Lib.hid hyj
        have HLG := Lib.hid hlg
        have HRLE := Lib.hid hrle.symm
        have HBB := Lib.hid hlB
        have HSET := Lib.hid hset
        have HSELF := Lib.hid hlg.self
        have HKG := Lib.hid hlg.ap.1
        have HKL : Hid (∀ x, kl = some x → x < q.heap.size) := Lib.hid hlg.recs.lt
        have HGL : Hid (gl < q.heap.size ∧ ¬ kl = some gl) := Lib.hid ⟨hgq, hlg.ap.1⟩
        have C5 := Lib.hid c5
        clear hlg hlB hBlt hset hys hyj hrle c5 c0 h1 h2
        refine Roll.region_v 9 40 Dap7 Lap7 [(0, .pointer (some ⟨gl, 0, none⟩)), (1, .slice a n c)] 8 [true, true, true, true, true, true, false, false, false] (fun p => Below q.heap.size q p) (fun vv p => ∃ k' a3 c3, Rw p 34 k' vv (rl + 1) (ys ++ [.slice a3 n c3]) ∧ (∀ j, k' = some j → kl = some j ∨ q.heap.size ≤ j) ∧ Bs (fun y => q.heap.size ≤ y ∧ k' ≠ some y) p a3 n c3 r ∧ Kept (fun j => kl = some j) q p) (fun p => Kept (fun j => kl = some j) q p) (fun p p2 => Kept (fun j => kl = some j) p p2) [fun vv p => (vv 0) = .pointer (some ⟨gl, 0, none⟩), fun vv p => (vv 1) = .pointer (some ⟨gl, 0, none⟩), fun vv p => (vv 2) = .pointer (some ⟨gl, 0, none⟩), fun vv p => (vv 3) = .pointer (some ⟨gl, 5, none⟩), fun vv p => (vv 4) = .slice al rl cl, fun vv p => (vv 5) = .slice a n c, fun vv p => ∃ a3 c3, (vv 6) = .slice a3 n c3 ∧ Bs (fun x => q.heap.size ≤ x) p a3 n c3 r, fun vv p => ∃ x a3 c3, (vv 7) = .slice (some ⟨x, 0, none⟩) 1 1 ∧ q.heap.size ≤ x ∧ p.heap[x]? = some (.cells #[.slice a3 n c3] 34 (0, 0)) ∧ Bs (fun y => q.heap.size ≤ y ∧ y < x) p a3 n c3 r, fun vv p => True] (by kernel_rfl) (by kernel_rfl) rfl ⟨rfl, rfl, trivial⟩ ((Below.refl _ _).drew) (by decide) (by kernel_rfl) (fun _ h => Kept.of_below _ h) (fun _ _ h => by obtain ⟨_, _, _, _, _, _, h⟩ := h; exact h) (fun _ => Kept.refl _ _) ?_ ?_ ?_
        · exact ⟨fun _ _ _ _ h => h, fun _ _ _ _ h => h, fun _ _ _ _ h => h, fun _ _ _ _ h => h, fun _ _ _ _ h => h, fun _ _ _ _ h => h, fun _ _ _ hs h => by obtain ⟨a3, c3, e1, e2⟩ := h; exact ⟨a3, c3, e1, e2.kept hs (fun x _ hx e => by have := HKL.out _ e; omega)⟩, fun _ _ _ hs h => by obtain ⟨x, a3, c3, e1, e2, e3, e4⟩ := h; exact ⟨x, a3, c3, e1, e2, hs.heap e3 (fun e => by have := HKL.out _ e; omega), e4.kept hs (fun x _ hx e => by have := HKL.out _ e; omega)⟩, fun _ _ _ _ h => h, trivial⟩
        · intro b0 hN hlv
          refine ⟨?_, ?_, ?_, ?_, ?_, ?_, ?_, ?_, ?_, trivial⟩
          · intro vs p hI0 hp
            have hI := Roll.inw_pure (by decide) rfl hI0
            clear hI0
            have e0 : (Roll.putD Dap7 vs [] b0).eval (.tmp 0) = .pointer (some ⟨gl, 0, none⟩) := (Roll.eval_old rfl).trans (hlv.at 0 (0, .pointer (some ⟨gl, 0, none⟩)) rfl)
            clear hp hlv hN
            unfold Roll.Goes
            simp only [Lap7, List.getD_cons_zero, List.getD_cons_succ]
            generalize Roll.putD Dap7 vs [] b0 = a1 at *
            refine Roll.goes_val (w' := p) (.pointer (some ⟨gl, 0, none⟩)) rfl ?_ ⟨(Roll.outw_pure (by decide) rfl), rfl⟩
            (have ec : ∀ x, a1.eval (.const x) = x := fun _ => rfl); (have ef : ∀ x, a1.eval (.func x) = .func (.func x) #[] #[] := fun _ => rfl); generalize a1.eval = ρ at *
            skip
            go_simp <;> (intros; first | (exfalso; omega) | rfl)
          · intro vs p hI0 hp
            have hI := Roll.inw_pure (by decide) rfl hI0
            clear hI0
            have e0 : (Roll.putD Dap7 vs [] b0).eval (.tmp 0) = .pointer (some ⟨gl, 0, none⟩) := (Roll.eval_old rfl).trans (hlv.at 0 (0, .pointer (some ⟨gl, 0, none⟩)) rfl)
            clear hp hlv hN
            unfold Roll.Goes
            simp only [Lap7, List.getD_cons_zero, List.getD_cons_succ]
            generalize Roll.putD Dap7 vs [] b0 = a1 at *
            refine Roll.goes_val (w' := p) (.pointer (some ⟨gl, 0, none⟩)) rfl ?_ ⟨(Roll.outw_pure (by decide) rfl), rfl⟩
            (have ec : ∀ x, a1.eval (.const x) = x := fun _ => rfl); (have ef : ∀ x, a1.eval (.func x) = .func (.func x) #[] #[] := fun _ => rfl); generalize a1.eval = ρ at *
            skip
            go_simp <;> (intros; first | (exfalso; omega) | rfl)
          · intro vs p hI0 hp
            have hI := Roll.inw_pure (by decide) rfl hI0
            clear hI0
            have h1 : (vs 1) = .pointer (some ⟨gl, 0, none⟩) := hp 1 (by simp [Lap7])
            have e20 : (Roll.putD Dap7 vs [1] b0).eval (.tmp 20) = .pointer (some ⟨gl, 0, none⟩) := (Roll.eval_new 1 rfl (by decide) (by decide) (by omega)).trans h1
            clear hp hlv hN
            unfold Roll.Goes
            simp only [Lap7, List.getD_cons_zero, List.getD_cons_succ]
            generalize Roll.putD Dap7 vs [1] b0 = a1 at *
            refine Roll.goes_val (w' := p) (.pointer (some ⟨gl, 0, none⟩)) rfl ?_ ⟨(Roll.outw_pure (by decide) rfl), rfl⟩
            (have ec : ∀ x, a1.eval (.const x) = x := fun _ => rfl); (have ef : ∀ x, a1.eval (.func x) = .func (.func x) #[] #[] := fun _ => rfl); generalize a1.eval = ρ at *
            clear h1
            go_simp <;> (intros; first | (exfalso; omega) | rfl)
          · intro vs p hI0 hp
            have hI := Roll.inw_pure (by decide) rfl hI0
            clear hI0
            have h2 : (vs 2) = .pointer (some ⟨gl, 0, none⟩) := hp 2 (by simp [Lap7])
            have e21 : (Roll.putD Dap7 vs [2] b0).eval (.tmp 21) = .pointer (some ⟨gl, 0, none⟩) := (Roll.eval_new 2 rfl (by decide) (by decide) (by omega)).trans h2
            clear hp hlv hN
            unfold Roll.Goes
            simp only [Lap7, List.getD_cons_zero, List.getD_cons_succ]
            generalize Roll.putD Dap7 vs [2] b0 = a1 at *
            refine Roll.goes_val (w' := p) (.pointer (some ⟨gl, 5, none⟩)) rfl ?_ ⟨(Roll.outw_pure (by decide) rfl), rfl⟩
            (have ec : ∀ x, a1.eval (.const x) = x := fun _ => rfl); (have ef : ∀ x, a1.eval (.func x) = .func (.func x) #[] #[] := fun _ => rfl); generalize a1.eval = ρ at *
            clear h2
            go_simp <;> (intros; first | (exfalso; omega) | rfl)
          · intro vs p hI0 hp
            have hI := Roll.inw_pure (by decide) rfl hI0
            clear hI0
            have h3 : (vs 3) = .pointer (some ⟨gl, 5, none⟩) := hp 3 (by simp [Lap7])
            have e22 : (Roll.putD Dap7 vs [3] b0).eval (.tmp 22) = .pointer (some ⟨gl, 5, none⟩) := (Roll.eval_new 3 rfl (by decide) (by decide) (by omega)).trans h3
            clear hp hlv hN
            unfold Roll.Goes
            simp only [Lap7, List.getD_cons_zero, List.getD_cons_succ]
            generalize Roll.putD Dap7 vs [3] b0 = a1 at *
            have cf : p.cell? ⟨gl, 5, none⟩ = some (.slice al rl cl) := (hI.cell (p := ⟨gl, 5, none⟩) HGL.out.1 HGL.out.2).trans C5.out
            refine Roll.goes_val (w' := p) (.slice al rl cl) rfl ?_ ⟨(Roll.outw_pure (by decide) rfl), rfl⟩
            (have ec : ∀ x, a1.eval (.const x) = x := fun _ => rfl); (have ef : ∀ x, a1.eval (.func x) = .func (.func x) #[] #[] := fun _ => rfl); generalize a1.eval = ρ at *
            clear h3
            go_simp <;> (intros; first | (exfalso; omega) | rfl)
          · intro vs p hI0 hp
            have hI := Roll.inw_pure (by decide) rfl hI0
            clear hI0
            have e1 : (Roll.putD Dap7 vs [] b0).eval (.tmp 1) = .slice a n c := (Roll.eval_old rfl).trans (hlv.at 1 (1, .slice a n c) rfl)
            clear hp hlv hN
            unfold Roll.Goes
            simp only [Lap7, List.getD_cons_zero, List.getD_cons_succ]
            generalize Roll.putD Dap7 vs [] b0 = a1 at *
            refine Roll.goes_val (w' := p) (.slice a n c) rfl ?_ ⟨(Roll.outw_pure (by decide) rfl), rfl⟩
            (have ec : ∀ x, a1.eval (.const x) = x := fun _ => rfl); (have ef : ∀ x, a1.eval (.func x) = .func (.func x) #[] #[] := fun _ => rfl); generalize a1.eval = ρ at *
            skip
            go_simp <;> (intros; first | (exfalso; omega) | rfl)
          · intro vs p hI0 hp
            have hI := Roll.inw_pre (by decide) rfl hI0
            clear hI0
            have h5 : (vs 5) = .slice a n c := hp 5 (by simp [Lap7])
            have e24 : (Roll.putD Dap7 vs [5] b0).eval (.tmp 24) = .slice a n c := (Roll.eval_new 5 rfl (by decide) (by decide) (by omega)).trans h5
            clear hp hlv hN
            unfold Roll.Goes
            simp only [Lap7, List.getD_cons_zero, List.getD_cons_succ]
            generalize Roll.putD Dap7 vs [5] b0 = a1 at *
            refine Roll.goes_call 26 #[.slice a n c] p rfl (by have ec : ∀ x, a1.eval (.const x) = x := fun _ => rfl; have ef : ∀ x, a1.eval (.func x) = .func (.func x) #[] #[] := fun _ => rfl; generalize a1.eval = ρ at *; go_simp) ?_
            refine (cloneB_any _ a n c r p (HB.out.kept (Kept.of_below (fun _ => False) hI) (fun _ _ _ h => h)) HN6.out).mono ?_
            rintro y p2 ⟨v3, rfl, hm⟩
            obtain ⟨a3, c3, rfl, hb3⟩ := hm.bs
            obtain ⟨_, _, _, hbl⟩ := hm
            rw [HRL.out] at hb3 ⊢
            exact ⟨_, rfl, Roll.outw_pre (by decide) rfl (hI.trans (hbl.mono hI.size)) (Kept.of_below _ hbl), a3, c3, rfl, hb3.dom (fun x hx => Nat.le_trans hI.size hx)⟩
          · intro vs p hI0 hp
            have hI := Roll.inw_pre (by decide) rfl hI0
            clear hI0
            have h6 : ∃ a3 c3, (vs 6) = .slice a3 n c3 ∧ Bs (fun x => q.heap.size ≤ x) p a3 n c3 r := hp 6 (by simp [Lap7])
            have e25 : (Roll.putD Dap7 vs [6] b0).eval (.tmp 25) = vs 6 := (Roll.eval_new 6 rfl (by decide) (by decide) (by omega))
            clear hp hlv hN
            unfold Roll.Goes
            simp only [Lap7, List.getD_cons_zero, List.getD_cons_succ]
            generalize Roll.putD Dap7 vs [6] b0 = a1 at *
            obtain ⟨a3, c3, hv3, hb3⟩ := h6
            rw [hv3] at e25
            have hal : Below p.heap.size p (p.alloc (.cells #[.slice a3 n c3] 34)) := (Below.refl _ _).alloc (Nat.le_refl _) _
            refine Roll.goes_val (w' := p.alloc (.cells #[.slice a3 n c3] 34)) (.slice (some ⟨p.heap.size, 0, none⟩) 1 1) rfl (by have ec : ∀ x, a1.eval (.const x) = x := fun _ => rfl; have ef : ∀ x, a1.eval (.func x) = .func (.func x) #[] #[] := fun _ => rfl; have hbs := run_bs56; generalize a1.eval = ρ at *; go_simp <;> (intros; first | (exfalso; omega) | rfl)) ⟨Roll.outw_pre (by decide) rfl (hI.trans (hal.mono hI.size)) (Kept.of_below _ hal), p.heap.size, a3, c3, rfl, hI.size, heap_new rfl, hb3.small.kept (Kept.of_below (fun _ => False) hal) (fun _ _ _ h => h)⟩
          · intro vs p hI0 hp
            have hI := Roll.inw_k0 rfl hI0
            clear hI0
            have h4 : (vs 4) = .slice al rl cl := hp 4 (by simp [Lap7])
            have h7 : ∃ x a3 c3, (vs 7) = .slice (some ⟨x, 0, none⟩) 1 1 ∧ q.heap.size ≤ x ∧ p.heap[x]? = some (.cells #[.slice a3 n c3] 34 (0, 0)) ∧ Bs (fun y => q.heap.size ≤ y ∧ y < x) p a3 n c3 r := hp 7 (by simp [Lap7])
            have e23 : (Roll.putD Dap7 vs [4, 7] b0).eval (.tmp 23) = .slice al rl cl := (Roll.eval_new 4 rfl (by decide) (by decide) (by omega)).trans h4
            have e26 : (Roll.putD Dap7 vs [4, 7] b0).eval (.tmp 26) = vs 7 := (Roll.eval_new 7 rfl (by decide) (by decide) (by omega))
            clear hp hlv hN
            unfold Roll.Goes
            simp only [Lap7, List.getD_cons_zero, List.getD_cons_succ]
            generalize Roll.putD Dap7 vs [4, 7] b0 = a1 at *
            obtain ⟨x3, a3, c3, hv3, hxq, hhx, hb3⟩ := h7
            rw [hv3] at e26
            obtain ⟨i0, ji, jz0, jz1, jz2⟩ := info_parts info32'
            have hxl := heap_lt hhx
            refine goes_append_rw rfl (.tmp 23) (.tmp 26) 22 22 rfl 34 i0 (.slice none 0 0) 24 Tryd.underlying22 ji jz0 jz1 jz2 rfl kl (.slice al rl cl) rl ys e23 (HYS.out.kept (Kept.of_below (fun _ => False) hI) (fun _ _ h => h)) _ e26 1 [.slice a3 n c3] (src_one Tryd.underlying22 hhx) (by have := HRLB.out; unfold maxLen; omega) (by have := HRLB.out; omega) ?_
            intro k' v' w' g1 g2 g3
            have hgr : ∀ x, q.heap.size ≤ x → x < p.heap.size → k' ≠ some x := fun x hx hx2 e => by
              rcases g2 x e with e | e
              · have := HKL.out x e; omega
              · omega
            exact ⟨Roll.outw_k0 rfl ⟨k', a3, c3, g1, fun j hj => (g2 j hj).imp id (fun e => Nat.le_trans hI.size e), (hb3.kept g3 (fun x _ hx e => by have := HKL.out x e; omega)).dom (fun x hx => ⟨hx.1, hgr x hx.1 (by omega)⟩), ((Kept.of_below (fun j => kl = some j) hI).trans g3 (fun _ _ h => h))⟩ g3, trivial⟩
        · intro vs p hI hR
          have h0 : (vs 0) = .pointer (some ⟨gl, 0, none⟩) := hR 0 (by omega)
          have h1 : (vs 1) = .pointer (some ⟨gl, 0, none⟩) := hR 1 (by omega)
          have h2 : (vs 2) = .pointer (some ⟨gl, 0, none⟩) := hR 2 (by omega)
          have h3 : (vs 3) = .pointer (some ⟨gl, 5, none⟩) := hR 3 (by omega)
          have h4 : (vs 4) = .slice al rl cl := hR 4 (by omega)
          have h5 : (vs 5) = .slice a n c := hR 5 (by omega)
          have h6 : ∃ a3 c3, (vs 6) = .slice a3 n c3 ∧ Bs (fun x => q.heap.size ≤ x) p a3 n c3 r := hR 6 (by omega)
          have h7 : ∃ x a3 c3, (vs 7) = .slice (some ⟨x, 0, none⟩) 1 1 ∧ q.heap.size ≤ x ∧ p.heap[x]? = some (.cells #[.slice a3 n c3] 34 (0, 0)) ∧ Bs (fun y => q.heap.size ≤ y ∧ y < x) p a3 n c3 r := hR 7 (by omega)
          have h8 : True := hR 8 (by omega)
          clear hR
          simp only [List.range_succ, List.range_zero, List.nil_append, List.cons_append, Roll.putD, Act.put, List.getD_cons_zero, List.getD_cons_succ, List.setIfInBounds_toArray, List.set_cons_zero, List.set_cons_succ, List.drop_succ_cons, List.drop_zero, Dap7]
          simp only [h0, h1, h2, h3, h4, h5]
          clear h0 h1 h2 h3 h4 h5
          clear h6 h7 h8
          generalize vs 6 = v6 at *; generalize vs 7 = v7 at *; generalize vs 8 = v8 at *
          obtain ⟨k', a3, c3, g1, g2, g3, gK⟩ := hI
          obtain ⟨a8, c8, rfl, -, -⟩ := g1.shape
          have hself2 := gK.heap HSELF.out HKG.out
          have c5p : p.cell? ⟨gl, 5, none⟩ = some (.slice al rl cl) := (gK.cell (p := ⟨gl, 5, none⟩) HGL.out.1 HGL.out.2).trans C5.out
          have f5p : p.frozen? ⟨gl, 5, none⟩ = false := frozen_of_row p gl 5 _ _ hself2
          have HP : Hid (Lv w0 (p.setCell ⟨gl, 5, none⟩ (.slice a8 (rl + 1) c8)) (L.set i (logO gl g { m with recs := m.recs ++ [r] }))) := Lib.hid (by
            have hkg : k' ≠ some gl := fun e => by
              rcases g2 _ e with e | e
              · exact HKG.out e
              · have := HGL.out.1; omega
            have hks : Kept (fun j => j = gl) p (p.setCell ⟨gl, 5, none⟩ (.slice a8 (rl + 1) c8)) := (Kept.refl (fun j => j = gl) p).setCell (fun _ => rfl) _
            have hks2 : Kept (fun j => j = gl ∨ kl = some j) q (p.setCell ⟨gl, 5, none⟩ (.slice a8 (rl + 1) c8)) := (gK.mono (fun _ _ h => .inr h)).trans hks (fun _ _ h => .inl h)
            have hlg := HLG.out
            refine HSET.out _ k' (fun x => Bl x ∨ (q.heap.size ≤ x ∧ x < p.heap.size ∧ k' ≠ some x)) (.slice a8 (rl + 1) c8) _ ⟨?_, ⟨ys ++ [.slice a3 n c3], ?_, fun j hj => ?_⟩, ⟨hkg, ?_, ?_⟩, ?_⟩ (hks2.mono ?_) ?_
            · rw [heap_setCell_same p gl 5 _ _ _ hself2]; rfl
            · rw [List.length_append, List.length_singleton, HRLE.out]
              exact g1.kept hks (fun j hj e => hkg (by rw [← e]; exact hj))
            · have hyl : ys.length = rl := HYS.out.1
              have hRE := HRLE.out
              by_cases e : j < rl
              · obtain ⟨a4, c4, e1, e2⟩ := HYJ.out j (by omega)
                refine ⟨a4, c4, ?_, ?_⟩
                · rw [List.getElem?_append_left (by omega), e1]; simp only [List.getElem_append_left (show j < m.recs.length by omega)]
                · simp only [List.getElem_append_left (show j < m.recs.length by omega)]
                  exact ((e2.kept hks2 (fun x hx hb e => by
                    rcases e with e | e
                    · exact hlg.ap.2.1 (by rw [← e]; exact hb)
                    · exact hlg.ap.2.2 x e hb)).dom (fun x hx => .inl hx))
              · have hj2 : j = rl := by rw [List.length_append, List.length_singleton] at hj; omega
                have e3 : (m.recs ++ [r])[j]'hj = r := by
                  rw [List.getElem_append_right (by omega)]
                  simp
                refine ⟨a3, c3, ?_, ?_⟩
                · rw [List.getElem?_append_right (by omega), hyl, show j - rl = 0 by omega]; rw [show (m.recs ++ [r])[j]'hj = r from e3, HRL.out]; rfl
                · rw [show (m.recs ++ [r])[j]'hj = r from e3, HRL.out]
                  exact ((g3.small.kept hks (fun x _ hx e => by subst e; have := HGL.out.1; omega)).dom (fun x hx => .inr ⟨hx.1.1, hx.2, hx.1.2⟩))
            · rintro (h | h)
              · exact hlg.ap.2.1 h
              · have := HGL.out.1; omega
            · rintro x hx (h | h)
              · rcases g2 x hx with e | e
                · exact hlg.ap.2.2 x e h
                · have := hlg.lt x h; omega
              · exact h.2.2 hx
            · rintro x (h | h)
              · exact Nat.lt_of_lt_of_le (hlg.lt x h) (Nat.le_trans gK.size hks.size)
              · exact Nat.lt_of_lt_of_le h.2.1 hks.size
            · rintro j - (e | e)
              · exact HBB.out j (.inl e)
              · exact HBB.out j (.inr (.inl e))
            · rintro x (e | e | e | e)
              · exact .inl (HBB.out x (.inl e))
              · exact (g2 x e).imp (fun e => HBB.out x (.inr (.inl e))) id
              · exact .inl (HBB.out x (.inr (.inr e)))
              · exact .inr e.1)
          clear g1 g2 g3 gK hself2
          go_upto_region 8 with fail
          have hi2 : (L.set i (logO gl g { m with recs := m.recs ++ [r] }))[i]? = some (logO gl g { m with recs := m.recs ++ [r] }) := List.getElem?_set_self HIL.out
          obtain ⟨_, _, -, -, hgl8, -, -, -, -, -, -, -, t7, fz⟩ := HP.out.logFacts hi2
          simp only at t7
          have z7 := fz 7
          have HP2 := Lib.hid (HP.out.logTak hi2 (m.tak + (n + 12)))
          obtain ⟨w8, hw8⟩ : ∃ w8, w8 = p.setCell ⟨gl, 5, none⟩ (.slice a8 (rl + 1) c8) := ⟨_, rfl⟩
          rw [← hw8] at t7 hgl8 z7 HP2 ⊢
          clear hw8 c5p f5p HP fz hi2
          go_wp2_with fail
          go_ret
          refine ⟨by rw [HE0.out]; rfl, ?_⟩
          rw [HM0.out]
          have := HP2.out
          rwa [List.set_set] at this
end
end Go.Proofs.YthffegfcgmhppaaDoor
namespace Go.Proofs.YthffegfcgmhppaaDoor
open Go.RowKit
set_option linter.unusedSimpArgs false
set_option linter.unusedVariables false
/-- what records count for -/
def takR (rs : List (List UInt8)) : Nat := (rs.map fun r => r.length + 12).sum
theorem takR_snoc (rs : List (List UInt8)) (r : List UInt8) : takR (rs ++ [r]) = takR rs + (r.length + 12) := by simp [takR]
theorem takR_take (rs : List (List UInt8)) (i : Nat) : takR (rs.take i) ≤ takR rs := by
  induction rs generalizing i with
  | nil => simp [takR]
  | cons r rs ih =>
    cases i with
    | zero => simp [takR]
    | succ i =>
      have := ih i
      simp only [takR, List.take_succ_cons, List.map_cons, List.sum_cons] at this ⊢
      omega
def rappE (k : Nat) (rs : List (List UInt8)) (n : Nat) : Int := if 4000 < n then 2 else if roomZ k (takR rs) < n then 9 else 0
end Go.Proofs.YthffegfcgmhppaaDoor
namespace Go.Proofs.YthffegfcgmhppaaDoor
open Go.RowKit
set_option linter.unusedSimpArgs false
set_option linter.unusedVariables false
section
variable {w0 w : World} {L : List Obj}
theorem made4_lv (h : Lv w0 w L) (n : Nat) (h1 : 1 ≤ n) (h2 : n ≤ 4096) :
    Calls Tryd.prog 22 #[.int .i64 (n : Int)] w fun e w' => ∃ g, e = .returned (.pointer (some ⟨g, 0, none⟩)) ∧ Lv w0 w' (diskO g (DM.new n) :: L) := by
  have HL := Lib.hid h
  clear h
  go_enter Tryd.func22, Tryd.ntmps22
  go_wp2_with (go_at_call 44; refine (new_lv HL.out n h1 h2).mono ?_; rintro e w3 ⟨g, rfl, hl⟩; have HL2 := Lib.hid hl; clear hl)
  go_ret
  exact ⟨_, rfl, HL2.out⟩
/-- the bytes of a record of an act -/
def recB (n : Nat) (data : List UInt8) : List UInt8 := (List.range n).map fun i => if data.length = 0 then UInt8.ofNat i else data.getD (i % data.length) 0
theorem recB_len (n : Nat) (data : List UInt8) : (recB n data).length = n := by simp [recB]
theorem recB_succ (n : Nat) (data : List UInt8) : recB (n + 1) data = recB n data ++ [if data.length = 0 then UInt8.ofNat n else data.getD (n % data.length) 0] := by simp [recB, List.range_succ]
end
end Go.Proofs.YthffegfcgmhppaaDoor
namespace Go.Proofs.YthffegfcgmhppaaDoor
open Go.RowKit
set_option linter.unusedSimpArgs false
set_option linter.unusedVariables false
theorem run_bs1b (x : Int) (W : World) : (Instr.buildSlice 34 1 #[(0, .int .u8 x)]).run Tryd.prog W = .ok (.slice (some ⟨W.heap.size, 0, none⟩) 1 1) (W.alloc (.cells #[.int .u8 x] 5)) := by kernel_rfl
theorem Made.base {w w1 w2 : World} {v : Value} {l : List UInt8} (h : Made w1 v l w2) (hb : Below w.heap.size w w1) : Made w v l w2 := by
  obtain ⟨k, h1, h2, h3⟩ := h
  exact ⟨k, h1, fun j hj => Nat.le_trans hb.size (h2 j hj), hb.trans (h3.mono hb.size)⟩
end Go.Proofs.YthffegfcgmhppaaDoor

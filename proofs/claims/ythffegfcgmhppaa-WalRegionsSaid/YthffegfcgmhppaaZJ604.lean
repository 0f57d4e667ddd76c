/-
  Texts L7, L9, UF, UG, LA, LB, LC, LF, one behind the other.
-/
import Derived.WalkKit
import Derived.WalkSpells
import Derived.WalkLawsBesides
import Derived.Laws.AppendOwn
import Derived.Laws.OwnMore
import Derived.Deep.AppendSrc
import Derived.Deep.MidRow
import Derived.Lib.Hide
import Derived.Deep.QuietTactic
import Derived.BigQuiet
import GoSem.Claim
import Derived.Orders
import Derived.Tactics
import Derived.Maps.RangeRun
import Derived.Maps.Range
import Derived.Maps.OwnOps
import Derived.Maps.RangeWalk
import Derived.Deep.Cut
import Derived.Deep.RegionWith
import Derived.Deep.DrawnRows
import Derived.StillTailTactics
import Derived.Carry
import Derived.Laws.CopyOwn
import Derived.Lib.AppendZerosOnto
import Derived.Laws.BytesString
import Derived.Laws.AppendOwnNone
import Derived.ProofKit
import Derived.OpenShut
import Derived.Deep.Slices
import Derived.Deep.Fields
import Derived.JoinedCond
import Derived.Laws.ShiftsVarLaws
import Derived.Laws.BitsAllLaws
import Derived.Test.YthffegfcgmhppaaRows
import Derived.Test.YthffegfcgmhppaaZJ603
namespace Go.Proofs.Ythffegfcgmhppaa
open Go.RowKit
set_option linter.unusedSimpArgs false
set_option linter.unusedVariables false
def Ddc2f : List (Option Tmp) := [some 16, some 17, some 18, some 19, some 20, some 21, some 22, some 23, some 24, some 25, some 26, some 27, some 28, some 29, some 30, some 31, some 6]
def Ldc2f : List (List Nat) := [[], [0], [1], [2], [], [4], [5], [6], [], [8], [9], [10], [7, 11], [], [13], [3, 12, 14], [15]]
def Ddc2 : List (Option Tmp) := [some 16, some 17, some 18, some 19, some 20, some 21, some 22, some 23, some 24, some 25, some 26, some 27, some 28, some 29, some 30, some 31, some 6]
def Ldc2 : List (List Nat) := [[], [0], [1], [2], [], [4], [5], [6], [], [8], [9], [10], [7, 11], [], [13], [3, 12, 14], [15]]
/-- a description in memory -/
def stateO (g r e : Nat) : Obj := ⟨fun B w => w.heap[g]? = some (.cells #[.int .u8 (r : Int), .int .i64 (e : Int)] 76 (0, 0)) ∧ B g, fun {B S w w'} h hk hs => ⟨hk.heap h.1 (hs g (Array.getElem?_eq_some_iff.1 h.1).1 h.2), h.2⟩⟩
theorem Lg.putState {w : World} {gl g : Nat} {k : Option Nat} {Bf : Nat → Prop} {v : Value} {m : LM} (h : Lg w gl g k Bf v m) (r e : Nat) : Lg (w.setCells gl 3 [.int .u8 (r : Int), .int .i64 (e : Int)]) gl g k Bf v {m with rnd := r, en := e} := by
  refine h.put rfl ?_ ((Kept.refl (fun x => x = gl) w).setCells _ _ (fun _ => rfl))
  show ((w.setCell ⟨gl, 3, none⟩ _).setCell ⟨gl, 4, none⟩ _).heap[gl]? = _
  rw [heap_setCell_same _ gl 4 _ _ _ (heap_setCell_same w gl 3 _ _ _ h.self)]
  rfl
theorem Lv.logState {w0 w : World} {L : List Obj} (h : Lv w0 w L) {i gl g : Nat} {m : LM} (hi : L[i]? = some (logO gl g m)) (r e : Nat) : Lv w0 (w.setCells gl 3 [.int .u8 (r : Int), .int .i64 (e : Int)]) (L.set i (logO gl g {m with rnd := r, en := e})) := by
  obtain ⟨k, Bf, v, B, h1, h2, h3, h4⟩ := h.log hi
  exact h4 _ k Bf v _ (h1.putState r e) ((Kept.refl B w).setCells _ _ (fun _ => h2 gl (.inl rfl))) (fun x hx => .inl (h2 x hx))
theorem flush_blk {B : Nat → Prop} {g gd gm z : Nat} {row : Nat → Option Nat} (h : ∀ j, Blk g gd gm row j → B j) : ∀ j, Blk g gd gm (fun _ => none) j → B j ∨ z ≤ j := by
  rintro j (e | e | e | ⟨_, e⟩)
  · exact .inl (h j (.inl e))
  · exact .inl (h j (.inr (.inl e)))
  · exact .inl (h j (.inr (.inr (.inl e))))
  · cases e
section
variable {w0 w : World} {L : List Obj} {gl g i j : Nat} {m : LM} {d : DM}
set_option maxRecDepth 100000 in
set_option maxHeartbeats 4000000 in
theorem describe_off (h : Lv w0 w L) (hi : L[i]? = some (logO gl g m)) (hj : L[j]? = some (diskO g d)) (hij : i ≠ j) (e : Nat) (he : e < 16777216) (hr : m.rnd < 256) (hf : m.frm + 1 < d.S.length) (hN : d.Ok 100000) (ho : d.on = false) :
    Calls Try.prog 41 #[.pointer (some ⟨gl, 0, none⟩), .int .i64 (e : Int)] w fun x w' => x = .returned (.int .i64 10) ∧ Lv w0 w' L := by
  obtain ⟨a, c, h1, h2, hg, -, -, -, c3, -, -, -, -, f0⟩ := h.logFacts hi
  obtain ⟨R, hR⟩ : ∃ R, R = (m.rnd + 1) % 256 := ⟨_, rfl⟩
  obtain ⟨P, hP⟩ : ∃ P, P = R % 2 := ⟨_, rfl⟩
  obtain ⟨K, hK⟩ : ∃ K, K = m.frm + P := ⟨_, rfl⟩
  obtain ⟨q1, hq1⟩ : ∃ q1, q1 = (w.alloc (.cells #[.int .u8 0, .int .i64 0] 76)).setRow w.heap.size #[.int .u8 (R : Int), .int .i64 (e : Int)] := ⟨_, rfl⟩
  obtain ⟨g5, hg5⟩ : ∃ g5, g5 = w.heap.size := ⟨_, rfl⟩
  have hbq : Below w.heap.size w q1 := by rw [hq1]; exact below_setRow ((Below.refl _ _).alloc (Nat.le_refl _) _) (Nat.le_refl _) _
  have HZ5 : Hid (q1.heap[g5]? = some (.cells #[.int .u8 (R : Int), .int .i64 (e : Int)] 76 (0, 0))) := Lib.hid (by rw [hq1, hg5]; exact setRow_heap _ _ _ _ _ _ (heap_new rfl))
  have hlq : Lv w0 q1 (stateO g5 R e :: L) := h.cons hbq (B := fun x => x = g5) ⟨HZ5.out, rfl⟩ (fun x hx => by subst hx; exact ⟨by omega, (Array.getElem?_eq_some_iff.1 HZ5.out).1⟩)
  have hi2 : (stateO g5 R e :: L)[i + 1]? = some (logO gl g m) := by simpa using hi
  have hj2 : (stateO g5 R e :: L)[j + 1]? = some (diskO g d) := by simpa using hj
  obtain ⟨_, _, -, -, hgq, c0, c1, c2, -, c4, c5, c6, c7, -⟩ := hlq.logFacts hi2
  obtain ⟨B, ⟨gd, gm, row, N, hd, hBB⟩, hlt, hoth, hset⟩ := hlq.get hj2
  have hglB : ¬ B gl := by
    obtain ⟨B2, ⟨k2, Bf2, v2, _, hb2⟩, hne⟩ := hoth (i + 1) _ (by omega) hi2
    exact hne gl (hb2 gl (.inl rfl))
  have hg5B : ¬ B g5 := by
    obtain ⟨B2, ⟨_, hb2⟩, hne⟩ := hoth 0 (stateO g5 R e) (by omega) rfl
    exact hne g5 hb2
  have hS := hd.ok.2.1
  have hw1 : IntKind.u8.wrap ((m.rnd : Int) + 1) = (R : Int) := by rw [IntKind.wrap_u8]; omega
  have hpt : Int.tmod (R : Int) 2 = (P : Int) := by rw [Int.tmod_eq_emod_of_nonneg (by omega)]; omega
  have HPW : Hid (Int.tmod (R : Int) 2 = (P : Int) ∧ IntKind.u8.wrap (Int.tmod (R : Int) 2) = (P : Int)) := Lib.hid ⟨hpt, by rw [hpt, IntKind.wrap_u8]; omega⟩
  have HCW : Hid (IntKind.i64.wrap (P : Int) = (P : Int)) := Lib.hid (i64_id _ (by omega) (by omega))
  have HKW : Hid (IntKind.i64.wrap ((m.frm : Int) + (P : Int)) = (K : Int)) := Lib.hid (by rw [i64_id _ (by omega) (by omega)]; omega)
  have HRB : Hid (R < 256) := Lib.hid (by omega)
  have HEB : Hid (e < 16777216) := Lib.hid he
  have HKS : Hid (K < d.S.length) := Lib.hid (by omega)
  have HKH : Hid (hasB d (K : Int) = true) := Lib.hid (by unfold hasB; rw [decide_eq_true]; omega)
  have HN := Lib.hid hN
  have HON := Lib.hid ho
  have HD := Lib.hid hd
  have HBB := Lib.hid hBB
  have HSET := Lib.hid hset
  have HLT : Hid (∀ j, B j → j < q1.heap.size) := Lib.hid (fun j hj => (hlt j hj).2)
  have HGL : Hid (gl < q1.heap.size ∧ ¬ B gl) := Lib.hid ⟨hgq, hglB⟩
  have C0 := Lib.hid c0
  have C1 := Lib.hid c1
  have HL := Lib.hid h
  have HI := Lib.hid hi2
  have HJ := Lib.hid hj2
  have HIJ := Lib.hid hij
  have HJL := Lib.hid (List.getElem?_eq_some_iff.1 hj).1
  have hb := run_buildS
  have HBQ := Lib.hid hbq
  have HG5B := Lib.hid hg5B
  have HQ1 := Lib.hid hq1
  have HG5 := Lib.hid hg5
  have HR := Lib.hid hR
  have HK := Lib.hid hK
  have HP := Lib.hid hP
  clear hd hBB hlt hoth hset hglB hg5B hR hP hK hq1 hg5 h hi hj hi2 hj2 hlq hbq hN ho c0 c1 c2 c4 c5 c6 c7 f0 hpt hij hr he hf hS hgq
  go_enter Try.func41, Try.ntmps41
  go_wp2_with (first
    | (refine wpList_alloc_z rfl 76 rfl _ 76 run_allocS ?_)
    | (refine wpList_store_row rfl 76 (.tmp 5) (.tmp 15) rfl w.heap.size _ rfl rfl 76 _ (heap_new rfl) (sizeS _ _) rfl (oneS _ _) ?_))
  rw [← HQ1.out, ← HG5.out]
  refine Roll.region_w 16 47 Ddc2f Ldc2f [(0, .pointer (some ⟨gl, 0, none⟩)), (5, .pointer (some ⟨g5, 0, none⟩))] 15 [true, true, true, true, true, true, true, true, true, true, true, true, true, true, false, false] (fun p => Below q1.heap.size q1 p ∧ p.heap[g5]? = some (.cells #[.int .u8 (R : Int), .int .i64 (e : Int)] 76 (0, 0))) (fun vv p => Below q1.heap.size q1 p ∧ p.heap[g5]? = some (.cells #[.int .u8 (R : Int), .int .i64 (e : Int)] 76 (0, 0))) (fun p => Kept B q1 p ∧ p.heap[g5]? = some (.cells #[.int .u8 (R : Int), .int .i64 (e : Int)] 76 (0, 0))) (fun p p2 => Kept B p p2) [fun vv p => (vv 0) = .pointer (some ⟨gl, 0, none⟩), fun vv p => (vv 1) = .pointer (some ⟨gl, 0, none⟩), fun vv p => (vv 2) = .pointer (some ⟨gl, 0, none⟩), fun vv p => (vv 3) = .pointer (some ⟨g, 0, none⟩), fun vv p => (vv 4) = .pointer (some ⟨gl, 0, none⟩), fun vv p => (vv 5) = .pointer (some ⟨gl, 0, none⟩), fun vv p => (vv 6) = .pointer (some ⟨gl, 1, none⟩), fun vv p => (vv 7) = .int .i64 (m.frm : Int), fun vv p => (vv 8) = .pointer (some ⟨g5, 0, none⟩), fun vv p => (vv 9) = .int .u8 (R : Int), fun vv p => (vv 10) = .int .u8 (P : Int), fun vv p => (vv 11) = .int .i64 (P : Int), fun vv p => (vv 12) = .int .i64 (K : Int), fun vv p => (vv 13) = .agg #[.int .u8 (R : Int), .int .i64 (e : Int)], fun vv p => ∃ x, (vv 14) = .slice (some ⟨x, 0, none⟩) 64 64 ∧ q1.heap.size ≤ x ∧ Bs (fun b => b = x) p (some ⟨x, 0, none⟩) 64 64 (desB R e), fun vv p => (vv 15) = .int .i64 10] (by kernel_rfl) (by kernel_rfl) rfl ⟨rfl, rfl, trivial⟩ (⟨(Below.refl _ _).drew, HZ5.out⟩) (by decide) (by kernel_rfl) (fun _ h => ⟨Kept.of_below _ h.1, h.2⟩) (fun _ _ h => ⟨Kept.of_below _ h.1, h.2⟩) (fun _ => Kept.refl _ _) ?_ ?_ ?_
  · exact ⟨fun _ _ _ _ h => h, fun _ _ _ _ h => h, fun _ _ _ _ h => h, fun _ _ _ _ h => h, fun _ _ _ _ h => h, fun _ _ _ _ h => h, fun _ _ _ _ h => h, fun _ _ _ _ h => h, fun _ _ _ _ h => h, fun _ _ _ _ h => h, fun _ _ _ _ h => h, fun _ _ _ _ h => h, fun _ _ _ _ h => h, fun _ _ _ _ h => h, fun _ _ _ hs h => by obtain ⟨x, e1, e2, e3⟩ := h; exact ⟨x, e1, e2, e3.kept hs (fun b _ hb hB => by subst hb; have := HLT.out b hB; omega)⟩, fun _ _ _ _ h => h, trivial⟩
  · intro b0 hN hlv
    refine ⟨?_, ?_, ?_, ?_, ?_, ?_, ?_, ?_, ?_, ?_, ?_, ?_, ?_, ?_, ?_, ?_, trivial⟩
    · intro vs p hI0 hp
      have hI := Roll.inw_pure (by decide) rfl hI0
      clear hI0
      have e0 : (Roll.putD Ddc2f vs [] b0).eval (.tmp 0) = .pointer (some ⟨gl, 0, none⟩) := (Roll.eval_old rfl).trans (hlv.at 0 (0, .pointer (some ⟨gl, 0, none⟩)) rfl)
      clear hp hlv hN
      unfold Roll.Goes
      simp only [Ldc2f, List.getD_cons_zero, List.getD_cons_succ]
      generalize Roll.putD Ddc2f vs [] b0 = a1 at *
      refine Roll.goes_val (w' := p) (.pointer (some ⟨gl, 0, none⟩)) rfl ?_ ⟨(Roll.outw_pure (by decide) rfl), rfl⟩
      (have ec : ∀ x, a1.eval (.const x) = x := fun _ => rfl); (have ef : ∀ x, a1.eval (.func x) = .func (.func x) #[] #[] := fun _ => rfl); generalize a1.eval = ρ at *
      skip
      go_simp <;> (intros; first | (exfalso; omega) | rfl)
    · intro vs p hI0 hp
      have hI := Roll.inw_pure (by decide) rfl hI0
      clear hI0
      have h0 : (vs 0) = .pointer (some ⟨gl, 0, none⟩) := hp 0 (by simp [Ldc2f])
      have e16 : (Roll.putD Ddc2f vs [0] b0).eval (.tmp 16) = .pointer (some ⟨gl, 0, none⟩) := (Roll.eval_new 0 rfl (by decide) (by decide) (by omega)).trans h0
      clear hp hlv hN
      unfold Roll.Goes
      simp only [Ldc2f, List.getD_cons_zero, List.getD_cons_succ]
      generalize Roll.putD Ddc2f vs [0] b0 = a1 at *
      refine Roll.goes_val (w' := p) (.pointer (some ⟨gl, 0, none⟩)) rfl ?_ ⟨(Roll.outw_pure (by decide) rfl), rfl⟩
      (have ec : ∀ x, a1.eval (.const x) = x := fun _ => rfl); (have ef : ∀ x, a1.eval (.func x) = .func (.func x) #[] #[] := fun _ => rfl); generalize a1.eval = ρ at *
      clear h0
      go_simp <;> (intros; first | (exfalso; omega) | rfl)
    · intro vs p hI0 hp
      have hI := Roll.inw_pure (by decide) rfl hI0
      clear hI0
      have h1 : (vs 1) = .pointer (some ⟨gl, 0, none⟩) := hp 1 (by simp [Ldc2f])
      have e17 : (Roll.putD Ddc2f vs [1] b0).eval (.tmp 17) = .pointer (some ⟨gl, 0, none⟩) := (Roll.eval_new 1 rfl (by decide) (by decide) (by omega)).trans h1
      clear hp hlv hN
      unfold Roll.Goes
      simp only [Ldc2f, List.getD_cons_zero, List.getD_cons_succ]
      generalize Roll.putD Ddc2f vs [1] b0 = a1 at *
      refine Roll.goes_val (w' := p) (.pointer (some ⟨gl, 0, none⟩)) rfl ?_ ⟨(Roll.outw_pure (by decide) rfl), rfl⟩
      (have ec : ∀ x, a1.eval (.const x) = x := fun _ => rfl); (have ef : ∀ x, a1.eval (.func x) = .func (.func x) #[] #[] := fun _ => rfl); generalize a1.eval = ρ at *
      clear h1
      go_simp <;> (intros; first | (exfalso; omega) | rfl)
    · intro vs p hI0 hp
      have hI := Roll.inw_pure (by decide) rfl hI0
      clear hI0
      have h2 : (vs 2) = .pointer (some ⟨gl, 0, none⟩) := hp 2 (by simp [Ldc2f])
      have e18 : (Roll.putD Ddc2f vs [2] b0).eval (.tmp 18) = .pointer (some ⟨gl, 0, none⟩) := (Roll.eval_new 2 rfl (by decide) (by decide) (by omega)).trans h2
      clear hp hlv hN
      unfold Roll.Goes
      simp only [Ldc2f, List.getD_cons_zero, List.getD_cons_succ]
      generalize Roll.putD Ddc2f vs [2] b0 = a1 at *
      have cf : p.cell? ⟨gl, 0, none⟩ = some (.pointer (some ⟨g, 0, none⟩)) := (hI.1.cell (p := ⟨gl, 0, none⟩) HGL.out.1 HGL.out.2).trans C0.out
      refine Roll.goes_val (w' := p) (.pointer (some ⟨g, 0, none⟩)) rfl ?_ ⟨(Roll.outw_pure (by decide) rfl), rfl⟩
      (have ec : ∀ x, a1.eval (.const x) = x := fun _ => rfl); (have ef : ∀ x, a1.eval (.func x) = .func (.func x) #[] #[] := fun _ => rfl); generalize a1.eval = ρ at *
      clear h2
      go_simp <;> (intros; first | (exfalso; omega) | rfl)
    · intro vs p hI0 hp
      have hI := Roll.inw_pure (by decide) rfl hI0
      clear hI0
      have e0 : (Roll.putD Ddc2f vs [] b0).eval (.tmp 0) = .pointer (some ⟨gl, 0, none⟩) := (Roll.eval_old rfl).trans (hlv.at 0 (0, .pointer (some ⟨gl, 0, none⟩)) rfl)
      clear hp hlv hN
      unfold Roll.Goes
      simp only [Ldc2f, List.getD_cons_zero, List.getD_cons_succ]
      generalize Roll.putD Ddc2f vs [] b0 = a1 at *
      refine Roll.goes_val (w' := p) (.pointer (some ⟨gl, 0, none⟩)) rfl ?_ ⟨(Roll.outw_pure (by decide) rfl), rfl⟩
      (have ec : ∀ x, a1.eval (.const x) = x := fun _ => rfl); (have ef : ∀ x, a1.eval (.func x) = .func (.func x) #[] #[] := fun _ => rfl); generalize a1.eval = ρ at *
      skip
      go_simp <;> (intros; first | (exfalso; omega) | rfl)
    · intro vs p hI0 hp
      have hI := Roll.inw_pure (by decide) rfl hI0
      clear hI0
      have h4 : (vs 4) = .pointer (some ⟨gl, 0, none⟩) := hp 4 (by simp [Ldc2f])
      have e20 : (Roll.putD Ddc2f vs [4] b0).eval (.tmp 20) = .pointer (some ⟨gl, 0, none⟩) := (Roll.eval_new 4 rfl (by decide) (by decide) (by omega)).trans h4
      clear hp hlv hN
      unfold Roll.Goes
      simp only [Ldc2f, List.getD_cons_zero, List.getD_cons_succ]
      generalize Roll.putD Ddc2f vs [4] b0 = a1 at *
      refine Roll.goes_val (w' := p) (.pointer (some ⟨gl, 0, none⟩)) rfl ?_ ⟨(Roll.outw_pure (by decide) rfl), rfl⟩
      (have ec : ∀ x, a1.eval (.const x) = x := fun _ => rfl); (have ef : ∀ x, a1.eval (.func x) = .func (.func x) #[] #[] := fun _ => rfl); generalize a1.eval = ρ at *
      clear h4
      go_simp <;> (intros; first | (exfalso; omega) | rfl)
    · intro vs p hI0 hp
      have hI := Roll.inw_pure (by decide) rfl hI0
      clear hI0
      have h5 : (vs 5) = .pointer (some ⟨gl, 0, none⟩) := hp 5 (by simp [Ldc2f])
      have e21 : (Roll.putD Ddc2f vs [5] b0).eval (.tmp 21) = .pointer (some ⟨gl, 0, none⟩) := (Roll.eval_new 5 rfl (by decide) (by decide) (by omega)).trans h5
      clear hp hlv hN
      unfold Roll.Goes
      simp only [Ldc2f, List.getD_cons_zero, List.getD_cons_succ]
      generalize Roll.putD Ddc2f vs [5] b0 = a1 at *
      refine Roll.goes_val (w' := p) (.pointer (some ⟨gl, 1, none⟩)) rfl ?_ ⟨(Roll.outw_pure (by decide) rfl), rfl⟩
      (have ec : ∀ x, a1.eval (.const x) = x := fun _ => rfl); (have ef : ∀ x, a1.eval (.func x) = .func (.func x) #[] #[] := fun _ => rfl); generalize a1.eval = ρ at *
      clear h5
      go_simp <;> (intros; first | (exfalso; omega) | rfl)
    · intro vs p hI0 hp
      have hI := Roll.inw_pure (by decide) rfl hI0
      clear hI0
      have h6 : (vs 6) = .pointer (some ⟨gl, 1, none⟩) := hp 6 (by simp [Ldc2f])
      have e22 : (Roll.putD Ddc2f vs [6] b0).eval (.tmp 22) = .pointer (some ⟨gl, 1, none⟩) := (Roll.eval_new 6 rfl (by decide) (by decide) (by omega)).trans h6
      clear hp hlv hN
      unfold Roll.Goes
      simp only [Ldc2f, List.getD_cons_zero, List.getD_cons_succ]
      generalize Roll.putD Ddc2f vs [6] b0 = a1 at *
      have cf : p.cell? ⟨gl, 1, none⟩ = some (.int .i64 (m.frm : Int)) := (hI.1.cell (p := ⟨gl, 1, none⟩) HGL.out.1 HGL.out.2).trans C1.out
      refine Roll.goes_val (w' := p) (.int .i64 (m.frm : Int)) rfl ?_ ⟨(Roll.outw_pure (by decide) rfl), rfl⟩
      (have ec : ∀ x, a1.eval (.const x) = x := fun _ => rfl); (have ef : ∀ x, a1.eval (.func x) = .func (.func x) #[] #[] := fun _ => rfl); generalize a1.eval = ρ at *
      clear h6
      go_simp <;> (intros; first | (exfalso; omega) | rfl)
    · intro vs p hI0 hp
      have hI := Roll.inw_pure (by decide) rfl hI0
      clear hI0
      have e5 : (Roll.putD Ddc2f vs [] b0).eval (.tmp 5) = .pointer (some ⟨g5, 0, none⟩) := (Roll.eval_old rfl).trans (hlv.at 1 (5, .pointer (some ⟨g5, 0, none⟩)) rfl)
      clear hp hlv hN
      unfold Roll.Goes
      simp only [Ldc2f, List.getD_cons_zero, List.getD_cons_succ]
      generalize Roll.putD Ddc2f vs [] b0 = a1 at *
      refine Roll.goes_val (w' := p) (.pointer (some ⟨g5, 0, none⟩)) rfl ?_ ⟨(Roll.outw_pure (by decide) rfl), rfl⟩
      (have ec : ∀ x, a1.eval (.const x) = x := fun _ => rfl); (have ef : ∀ x, a1.eval (.func x) = .func (.func x) #[] #[] := fun _ => rfl); generalize a1.eval = ρ at *
      skip
      go_simp <;> (intros; first | (exfalso; omega) | rfl)
    · intro vs p hI0 hp
      have hI := Roll.inw_pure (by decide) rfl hI0
      clear hI0
      have h8 : (vs 8) = .pointer (some ⟨g5, 0, none⟩) := hp 8 (by simp [Ldc2f])
      have e24 : (Roll.putD Ddc2f vs [8] b0).eval (.tmp 24) = .pointer (some ⟨g5, 0, none⟩) := (Roll.eval_new 8 rfl (by decide) (by decide) (by omega)).trans h8
      clear hp hlv hN
      unfold Roll.Goes
      simp only [Ldc2f, List.getD_cons_zero, List.getD_cons_succ]
      generalize Roll.putD Ddc2f vs [8] b0 = a1 at *
      have cf : p.cell? ⟨g5, 0, none⟩ = some (.int .u8 (R : Int)) := by rw [cell_of_row p g5 0 _ _ _ hI.2]; rfl
      refine Roll.goes_val (w' := p) (.int .u8 (R : Int)) rfl ?_ ⟨(Roll.outw_pure (by decide) rfl), rfl⟩
      (have ec : ∀ x, a1.eval (.const x) = x := fun _ => rfl); (have ef : ∀ x, a1.eval (.func x) = .func (.func x) #[] #[] := fun _ => rfl); generalize a1.eval = ρ at *
      clear h8
      go_simp <;> (intros; first | (exfalso; omega) | rfl)
    · intro vs p hI0 hp
      have hI := Roll.inw_pure (by decide) rfl hI0
      clear hI0
      have h9 : (vs 9) = .int .u8 (R : Int) := hp 9 (by simp [Ldc2f])
      have e25 : (Roll.putD Ddc2f vs [9] b0).eval (.tmp 25) = .int .u8 (R : Int) := (Roll.eval_new 9 rfl (by decide) (by decide) (by omega)).trans h9
      clear hp hlv hN
      unfold Roll.Goes
      simp only [Ldc2f, List.getD_cons_zero, List.getD_cons_succ]
      generalize Roll.putD Ddc2f vs [9] b0 = a1 at *
      have hpw := HPW.out
      refine Roll.goes_val (w' := p) (.int .u8 (P : Int)) rfl ?_ ⟨(Roll.outw_pure (by decide) rfl), rfl⟩
      (have ec : ∀ x, a1.eval (.const x) = x := fun _ => rfl); (have ef : ∀ x, a1.eval (.func x) = .func (.func x) #[] #[] := fun _ => rfl); generalize a1.eval = ρ at *
      clear h9
      go_simp <;> (intros; first | (exfalso; omega) | rfl)
    · intro vs p hI0 hp
      have hI := Roll.inw_pure (by decide) rfl hI0
      clear hI0
      have h10 : (vs 10) = .int .u8 (P : Int) := hp 10 (by simp [Ldc2f])
      have e26 : (Roll.putD Ddc2f vs [10] b0).eval (.tmp 26) = .int .u8 (P : Int) := (Roll.eval_new 10 rfl (by decide) (by decide) (by omega)).trans h10
      clear hp hlv hN
      unfold Roll.Goes
      simp only [Ldc2f, List.getD_cons_zero, List.getD_cons_succ]
      generalize Roll.putD Ddc2f vs [10] b0 = a1 at *
      have hcw := HCW.out
      refine Roll.goes_val (w' := p) (.int .i64 (P : Int)) rfl ?_ ⟨(Roll.outw_pure (by decide) rfl), rfl⟩
      (have ec : ∀ x, a1.eval (.const x) = x := fun _ => rfl); (have ef : ∀ x, a1.eval (.func x) = .func (.func x) #[] #[] := fun _ => rfl); generalize a1.eval = ρ at *
      clear h10
      go_simp <;> (intros; first | (exfalso; omega) | rfl)
    · intro vs p hI0 hp
      have hI := Roll.inw_pure (by decide) rfl hI0
      clear hI0
      have h7 : (vs 7) = .int .i64 (m.frm : Int) := hp 7 (by simp [Ldc2f])
      have h11 : (vs 11) = .int .i64 (P : Int) := hp 11 (by simp [Ldc2f])
      have e23 : (Roll.putD Ddc2f vs [7, 11] b0).eval (.tmp 23) = .int .i64 (m.frm : Int) := (Roll.eval_new 7 rfl (by decide) (by decide) (by omega)).trans h7
      have e27 : (Roll.putD Ddc2f vs [7, 11] b0).eval (.tmp 27) = .int .i64 (P : Int) := (Roll.eval_new 11 rfl (by decide) (by decide) (by omega)).trans h11
      clear hp hlv hN
      unfold Roll.Goes
      simp only [Ldc2f, List.getD_cons_zero, List.getD_cons_succ]
      generalize Roll.putD Ddc2f vs [7, 11] b0 = a1 at *
      have hkw := HKW.out
      refine Roll.goes_val (w' := p) (.int .i64 (K : Int)) rfl ?_ ⟨(Roll.outw_pure (by decide) rfl), rfl⟩
      (have ec : ∀ x, a1.eval (.const x) = x := fun _ => rfl); (have ef : ∀ x, a1.eval (.func x) = .func (.func x) #[] #[] := fun _ => rfl); generalize a1.eval = ρ at *
      clear h7 h11
      go_simp <;> (intros; first | (exfalso; omega) | rfl)
    · intro vs p hI0 hp
      have hI := Roll.inw_pure (by decide) rfl hI0
      clear hI0
      have e5 : (Roll.putD Ddc2f vs [] b0).eval (.tmp 5) = .pointer (some ⟨g5, 0, none⟩) := (Roll.eval_old rfl).trans (hlv.at 1 (5, .pointer (some ⟨g5, 0, none⟩)) rfl)
      clear hp hlv hN
      unfold Roll.Goes
      simp only [Ldc2f, List.getD_cons_zero, List.getD_cons_succ]
      generalize Roll.putD Ddc2f vs [] b0 = a1 at *
      refine Roll.goes_load_row rfl 76 (.tmp 5) rfl g5 e5 76 _ (0, 0) _ hI.2 Try.underlying76 rfl (sizeS _ _) ⟨(Roll.outw_pure (by decide) rfl), rfl⟩
    · intro vs p hI0 hp
      have hI := Roll.inw_pre (by decide) rfl hI0
      clear hI0
      have h13 : (vs 13) = .agg #[.int .u8 (R : Int), .int .i64 (e : Int)] := hp 13 (by simp [Ldc2f])
      have e29 : (Roll.putD Ddc2f vs [13] b0).eval (.tmp 29) = .agg #[.int .u8 (R : Int), .int .i64 (e : Int)] := (Roll.eval_new 13 rfl (by decide) (by decide) (by omega)).trans h13
      clear hp hlv hN
      unfold Roll.Goes
      simp only [Ldc2f, List.getD_cons_zero, List.getD_cons_succ]
      generalize Roll.putD Ddc2f vs [13] b0 = a1 at *
      refine Roll.goes_call 56 #[.agg #[.int .u8 (R : Int), .int .i64 (e : Int)]] p rfl (by have ec : ∀ x, a1.eval (.const x) = x := fun _ => rfl; have ef : ∀ x, a1.eval (.func x) = .func (.func x) #[] #[] := fun _ => rfl; generalize a1.eval = ρ at *; go_simp) ?_
      refine (sector_any R e HRB.out HEB.out p).mono ?_
      rintro y p2 ⟨x, rfl, hx, hbx, hbl⟩
      exact ⟨_, rfl, Roll.outw_pre (by decide) rfl ⟨hI.1.trans (hbl.mono hI.1.size), (Kept.of_below (fun _ => False) hbl).heap hI.2 (fun h => h)⟩ (Kept.of_below _ hbl), x, rfl, Nat.le_trans hI.1.size hx, hbx⟩
    · intro vs p hI0 hp
      have hI := Roll.inw_k0 rfl hI0
      clear hI0
      have h3 : (vs 3) = .pointer (some ⟨g, 0, none⟩) := hp 3 (by simp [Ldc2f])
      have h12 : (vs 12) = .int .i64 (K : Int) := hp 12 (by simp [Ldc2f])
      have h14 : ∃ x, (vs 14) = .slice (some ⟨x, 0, none⟩) 64 64 ∧ q1.heap.size ≤ x ∧ Bs (fun b => b = x) p (some ⟨x, 0, none⟩) 64 64 (desB R e) := hp 14 (by simp [Ldc2f])
      have e19 : (Roll.putD Ddc2f vs [3, 12, 14] b0).eval (.tmp 19) = .pointer (some ⟨g, 0, none⟩) := (Roll.eval_new 3 rfl (by decide) (by decide) (by omega)).trans h3
      have e28 : (Roll.putD Ddc2f vs [3, 12, 14] b0).eval (.tmp 28) = .int .i64 (K : Int) := (Roll.eval_new 12 rfl (by decide) (by decide) (by omega)).trans h12
      have e30 : (Roll.putD Ddc2f vs [3, 12, 14] b0).eval (.tmp 30) = vs 14 := (Roll.eval_new 14 rfl (by decide) (by decide) (by omega))
      clear hp hlv hN
      unfold Roll.Goes
      simp only [Ldc2f, List.getD_cons_zero, List.getD_cons_succ]
      generalize Roll.putD Ddc2f vs [3, 12, 14] b0 = a1 at *
      obtain ⟨x, hv14, hx, hbx⟩ := h14
      rw [hv14] at e30
      refine Roll.goes_call 33 #[.pointer (some ⟨g, 0, none⟩), .int .i64 (K : Int), .slice (some ⟨x, 0, none⟩) 64 64] p rfl (by have ec : ∀ x, a1.eval (.const x) = x := fun _ => rfl; have ef : ∀ x, a1.eval (.func x) = .func (.func x) #[] #[] := fun _ => rfl; generalize a1.eval = ρ at *; go_simp) ?_
      have hdp := HD.out.kept (Kept.of_below (fun _ => False) hI.1) (fun _ _ h => h)
      refine (write_off hdp (some ⟨x, 0, none⟩) 64 (K : Int) HKH.out HON.out).mono ?_
      rintro y p2 ⟨rfl, rfl⟩
      exact ⟨_, rfl, Roll.outw_k0 rfl hI (Kept.refl _ _), rfl⟩
  · intro vs p hI hR
    have h0 : (vs 0) = .pointer (some ⟨gl, 0, none⟩) := hR 0 (by omega)
    have h1 : (vs 1) = .pointer (some ⟨gl, 0, none⟩) := hR 1 (by omega)
    have h2 : (vs 2) = .pointer (some ⟨gl, 0, none⟩) := hR 2 (by omega)
    have h3 : (vs 3) = .pointer (some ⟨g, 0, none⟩) := hR 3 (by omega)
    have h4 : (vs 4) = .pointer (some ⟨gl, 0, none⟩) := hR 4 (by omega)
    have h5 : (vs 5) = .pointer (some ⟨gl, 0, none⟩) := hR 5 (by omega)
    have h6 : (vs 6) = .pointer (some ⟨gl, 1, none⟩) := hR 6 (by omega)
    have h7 : (vs 7) = .int .i64 (m.frm : Int) := hR 7 (by omega)
    have h8 : (vs 8) = .pointer (some ⟨g5, 0, none⟩) := hR 8 (by omega)
    have h9 : (vs 9) = .int .u8 (R : Int) := hR 9 (by omega)
    have h10 : (vs 10) = .int .u8 (P : Int) := hR 10 (by omega)
    have h11 : (vs 11) = .int .i64 (P : Int) := hR 11 (by omega)
    have h12 : (vs 12) = .int .i64 (K : Int) := hR 12 (by omega)
    have h13 : (vs 13) = .agg #[.int .u8 (R : Int), .int .i64 (e : Int)] := hR 13 (by omega)
    have h14 : ∃ x, (vs 14) = .slice (some ⟨x, 0, none⟩) 64 64 ∧ q1.heap.size ≤ x ∧ Bs (fun b => b = x) p (some ⟨x, 0, none⟩) 64 64 (desB R e) := hR 14 (by omega)
    have h15 : (vs 15) = .int .i64 10 := hR 15 (by omega)
    clear hR
    simp only [List.range_succ, List.range_zero, List.nil_append, List.cons_append, Roll.putD, Act.put, List.getD_cons_zero, List.getD_cons_succ, List.setIfInBounds_toArray, List.set_cons_zero, List.set_cons_succ, List.drop_succ_cons, List.drop_zero, Ddc2f]
    simp only [h0, h1, h2, h3, h4, h5, h6, h7, h8, h9, h10, h11, h12, h13, h15]
    clear h0 h1 h2 h3 h4 h5 h6 h7 h8 h9 h10 h11 h12 h13 h15
    have HBp := Lib.hid hI.1
    clear hI h14
    generalize vs 14 = v14 at *
    go_wp2_with fail
    go_ret
    exact ⟨rfl, HL.out.below (HBQ.out.trans (HBp.out.mono HBQ.out.size))⟩
/-- the next round -/
def LM.nxt (m : LM) : Nat := (m.rnd + 1) % 256
set_option maxRecDepth 100000 in
set_option maxHeartbeats 4000000 in
theorem describe_mid (h : Lv w0 w L) (hi : L[i]? = some (logO gl g m)) (hj : L[j]? = some (diskO g d)) (hij : i ≠ j) (e : Nat) (he : e < 16777216) (hr : m.rnd < 256) (hf : m.frm + 1 < d.S.length) (hN : d.Ok 100000) (ho : d.on = true) (ho1 : (d.write (m.frm + (m.rnd + 1) % 256 % 2) (desB ((m.rnd + 1) % 256) e)).on = false) :
    Calls Try.prog 41 #[.pointer (some ⟨gl, 0, none⟩), .int .i64 (e : Int)] w fun x w' => x = .returned (.int .i64 10) ∧ Lv w0 w' (L.set j (diskO g (d.write (m.frm + (m.rnd + 1) % 256 % 2) (desB ((m.rnd + 1) % 256) e)))) := by
  obtain ⟨a, c, h1, h2, hg, -, -, -, c3, -, -, -, -, f0⟩ := h.logFacts hi
  obtain ⟨R, hR⟩ : ∃ R, R = (m.rnd + 1) % 256 := ⟨_, rfl⟩
  obtain ⟨P, hP⟩ : ∃ P, P = R % 2 := ⟨_, rfl⟩
  obtain ⟨K, hK⟩ : ∃ K, K = m.frm + P := ⟨_, rfl⟩
  obtain ⟨q1, hq1⟩ : ∃ q1, q1 = (w.alloc (.cells #[.int .u8 0, .int .i64 0] 76)).setRow w.heap.size #[.int .u8 (R : Int), .int .i64 (e : Int)] := ⟨_, rfl⟩
  obtain ⟨g5, hg5⟩ : ∃ g5, g5 = w.heap.size := ⟨_, rfl⟩
  have hbq : Below w.heap.size w q1 := by rw [hq1]; exact below_setRow ((Below.refl _ _).alloc (Nat.le_refl _) _) (Nat.le_refl _) _
  have HZ5 : Hid (q1.heap[g5]? = some (.cells #[.int .u8 (R : Int), .int .i64 (e : Int)] 76 (0, 0))) := Lib.hid (by rw [hq1, hg5]; exact setRow_heap _ _ _ _ _ _ (heap_new rfl))
  have hlq : Lv w0 q1 (stateO g5 R e :: L) := h.cons hbq (B := fun x => x = g5) ⟨HZ5.out, rfl⟩ (fun x hx => by subst hx; exact ⟨by omega, (Array.getElem?_eq_some_iff.1 HZ5.out).1⟩)
  have hi2 : (stateO g5 R e :: L)[i + 1]? = some (logO gl g m) := by simpa using hi
  have hj2 : (stateO g5 R e :: L)[j + 1]? = some (diskO g d) := by simpa using hj
  obtain ⟨_, _, -, -, hgq, c0, c1, c2, -, c4, c5, c6, c7, -⟩ := hlq.logFacts hi2
  obtain ⟨B, ⟨gd, gm, row, N, hd, hBB⟩, hlt, hoth, hset⟩ := hlq.get hj2
  have hglB : ¬ B gl := by
    obtain ⟨B2, ⟨k2, Bf2, v2, _, hb2⟩, hne⟩ := hoth (i + 1) _ (by omega) hi2
    exact hne gl (hb2 gl (.inl rfl))
  have hg5B : ¬ B g5 := by
    obtain ⟨B2, ⟨_, hb2⟩, hne⟩ := hoth 0 (stateO g5 R e) (by omega) rfl
    exact hne g5 hb2
  have hS := hd.ok.2.1
  have hw1 : IntKind.u8.wrap ((m.rnd : Int) + 1) = (R : Int) := by rw [IntKind.wrap_u8]; omega
  have hpt : Int.tmod (R : Int) 2 = (P : Int) := by rw [Int.tmod_eq_emod_of_nonneg (by omega)]; omega
  have HPW : Hid (Int.tmod (R : Int) 2 = (P : Int) ∧ IntKind.u8.wrap (Int.tmod (R : Int) 2) = (P : Int)) := Lib.hid ⟨hpt, by rw [hpt, IntKind.wrap_u8]; omega⟩
  have HCW : Hid (IntKind.i64.wrap (P : Int) = (P : Int)) := Lib.hid (i64_id _ (by omega) (by omega))
  have HKW : Hid (IntKind.i64.wrap ((m.frm : Int) + (P : Int)) = (K : Int)) := Lib.hid (by rw [i64_id _ (by omega) (by omega)]; omega)
  have HRB : Hid (R < 256) := Lib.hid (by omega)
  have HEB : Hid (e < 16777216) := Lib.hid he
  have HKS : Hid (K < d.S.length) := Lib.hid (by omega)
  have HKH : Hid (hasB d (K : Int) = true) := Lib.hid (by unfold hasB; rw [decide_eq_true]; omega)
  have HN := Lib.hid hN
  have HON := Lib.hid ho
  have HD := Lib.hid hd
  have HBB := Lib.hid hBB
  have HSET := Lib.hid hset
  have HLT : Hid (∀ j, B j → j < q1.heap.size) := Lib.hid (fun j hj => (hlt j hj).2)
  have HGL : Hid (gl < q1.heap.size ∧ ¬ B gl) := Lib.hid ⟨hgq, hglB⟩
  have C0 := Lib.hid c0
  have C1 := Lib.hid c1
  have HL := Lib.hid h
  have HI := Lib.hid hi2
  have HJ := Lib.hid hj2
  have HIJ := Lib.hid hij
  have HJL := Lib.hid (List.getElem?_eq_some_iff.1 hj).1
  have hb := run_buildS
  have HBQ := Lib.hid hbq
  have HG5B := Lib.hid hg5B
  have HQ1 := Lib.hid hq1
  have HG5 := Lib.hid hg5
  have HR := Lib.hid hR
  have HK := Lib.hid hK
  have HP := Lib.hid hP
  clear hd hBB hlt hoth hset hglB hg5B hR hP hK hq1 hg5 h hi hj hi2 hj2 hlq hbq hN ho c0 c1 c2 c4 c5 c6 c7 f0 hpt hij hr he hf hS hgq
  go_enter Try.func41, Try.ntmps41
  go_wp2_with (first
    | (refine wpList_alloc_z rfl 76 rfl _ 76 run_allocS ?_)
    | (refine wpList_store_row rfl 76 (.tmp 5) (.tmp 15) rfl w.heap.size _ rfl rfl 76 _ (heap_new rfl) (sizeS _ _) rfl (oneS _ _) ?_))
  rw [← HQ1.out, ← HG5.out]
  refine Roll.region_w 16 47 Ddc2 Ldc2 [(0, .pointer (some ⟨gl, 0, none⟩)), (5, .pointer (some ⟨g5, 0, none⟩))] 15 [true, true, true, true, true, true, true, true, true, true, true, true, true, true, false, false] (fun p => Below q1.heap.size q1 p ∧ p.heap[g5]? = some (.cells #[.int .u8 (R : Int), .int .i64 (e : Int)] 76 (0, 0))) (fun vv p => Lv w0 p (stateO g5 R e :: L.set j (diskO g (d.write K (desB R e)))) ∧ Kept B q1 p ∧ p.heap[g5]? = some (.cells #[.int .u8 (R : Int), .int .i64 (e : Int)] 76 (0, 0))) (fun p => Kept B q1 p ∧ p.heap[g5]? = some (.cells #[.int .u8 (R : Int), .int .i64 (e : Int)] 76 (0, 0))) (fun p p2 => Kept B p p2) [fun vv p => (vv 0) = .pointer (some ⟨gl, 0, none⟩), fun vv p => (vv 1) = .pointer (some ⟨gl, 0, none⟩), fun vv p => (vv 2) = .pointer (some ⟨gl, 0, none⟩), fun vv p => (vv 3) = .pointer (some ⟨g, 0, none⟩), fun vv p => (vv 4) = .pointer (some ⟨gl, 0, none⟩), fun vv p => (vv 5) = .pointer (some ⟨gl, 0, none⟩), fun vv p => (vv 6) = .pointer (some ⟨gl, 1, none⟩), fun vv p => (vv 7) = .int .i64 (m.frm : Int), fun vv p => (vv 8) = .pointer (some ⟨g5, 0, none⟩), fun vv p => (vv 9) = .int .u8 (R : Int), fun vv p => (vv 10) = .int .u8 (P : Int), fun vv p => (vv 11) = .int .i64 (P : Int), fun vv p => (vv 12) = .int .i64 (K : Int), fun vv p => (vv 13) = .agg #[.int .u8 (R : Int), .int .i64 (e : Int)], fun vv p => ∃ x, (vv 14) = .slice (some ⟨x, 0, none⟩) 64 64 ∧ q1.heap.size ≤ x ∧ Bs (fun b => b = x) p (some ⟨x, 0, none⟩) 64 64 (desB R e), fun vv p => (vv 15) = .int .i64 0] (by kernel_rfl) (by kernel_rfl) rfl ⟨rfl, rfl, trivial⟩ (⟨(Below.refl _ _).drew, HZ5.out⟩) (by decide) (by kernel_rfl) (fun _ h => ⟨Kept.of_below _ h.1, h.2⟩) (fun _ _ h => h.2) (fun _ => Kept.refl _ _) ?_ ?_ ?_
  · exact ⟨fun _ _ _ _ h => h, fun _ _ _ _ h => h, fun _ _ _ _ h => h, fun _ _ _ _ h => h, fun _ _ _ _ h => h, fun _ _ _ _ h => h, fun _ _ _ _ h => h, fun _ _ _ _ h => h, fun _ _ _ _ h => h, fun _ _ _ _ h => h, fun _ _ _ _ h => h, fun _ _ _ _ h => h, fun _ _ _ _ h => h, fun _ _ _ _ h => h, fun _ _ _ hs h => by obtain ⟨x, e1, e2, e3⟩ := h; exact ⟨x, e1, e2, e3.kept hs (fun b _ hb hB => by subst hb; have := HLT.out b hB; omega)⟩, fun _ _ _ _ h => h, trivial⟩
  · intro b0 hN hlv
    refine ⟨?_, ?_, ?_, ?_, ?_, ?_, ?_, ?_, ?_, ?_, ?_, ?_, ?_, ?_, ?_, ?_, trivial⟩
    · intro vs p hI0 hp
      have hI := Roll.inw_pure (by decide) rfl hI0
      clear hI0
      have e0 : (Roll.putD Ddc2 vs [] b0).eval (.tmp 0) = .pointer (some ⟨gl, 0, none⟩) := (Roll.eval_old rfl).trans (hlv.at 0 (0, .pointer (some ⟨gl, 0, none⟩)) rfl)
      clear hp hlv hN
      unfold Roll.Goes
      simp only [Ldc2, List.getD_cons_zero, List.getD_cons_succ]
      generalize Roll.putD Ddc2 vs [] b0 = a1 at *
      refine Roll.goes_val (w' := p) (.pointer (some ⟨gl, 0, none⟩)) rfl ?_ ⟨(Roll.outw_pure (by decide) rfl), rfl⟩
      (have ec : ∀ x, a1.eval (.const x) = x := fun _ => rfl); (have ef : ∀ x, a1.eval (.func x) = .func (.func x) #[] #[] := fun _ => rfl); generalize a1.eval = ρ at *
      skip
      go_simp <;> (intros; first | (exfalso; omega) | rfl)
    · intro vs p hI0 hp
      have hI := Roll.inw_pure (by decide) rfl hI0
      clear hI0
      have h0 : (vs 0) = .pointer (some ⟨gl, 0, none⟩) := hp 0 (by simp [Ldc2])
      have e16 : (Roll.putD Ddc2 vs [0] b0).eval (.tmp 16) = .pointer (some ⟨gl, 0, none⟩) := (Roll.eval_new 0 rfl (by decide) (by decide) (by omega)).trans h0
      clear hp hlv hN
      unfold Roll.Goes
      simp only [Ldc2, List.getD_cons_zero, List.getD_cons_succ]
      generalize Roll.putD Ddc2 vs [0] b0 = a1 at *
      refine Roll.goes_val (w' := p) (.pointer (some ⟨gl, 0, none⟩)) rfl ?_ ⟨(Roll.outw_pure (by decide) rfl), rfl⟩
      (have ec : ∀ x, a1.eval (.const x) = x := fun _ => rfl); (have ef : ∀ x, a1.eval (.func x) = .func (.func x) #[] #[] := fun _ => rfl); generalize a1.eval = ρ at *
      clear h0
      go_simp <;> (intros; first | (exfalso; omega) | rfl)
    · intro vs p hI0 hp
      have hI := Roll.inw_pure (by decide) rfl hI0
      clear hI0
      have h1 : (vs 1) = .pointer (some ⟨gl, 0, none⟩) := hp 1 (by simp [Ldc2])
      have e17 : (Roll.putD Ddc2 vs [1] b0).eval (.tmp 17) = .pointer (some ⟨gl, 0, none⟩) := (Roll.eval_new 1 rfl (by decide) (by decide) (by omega)).trans h1
      clear hp hlv hN
      unfold Roll.Goes
      simp only [Ldc2, List.getD_cons_zero, List.getD_cons_succ]
      generalize Roll.putD Ddc2 vs [1] b0 = a1 at *
      refine Roll.goes_val (w' := p) (.pointer (some ⟨gl, 0, none⟩)) rfl ?_ ⟨(Roll.outw_pure (by decide) rfl), rfl⟩
      (have ec : ∀ x, a1.eval (.const x) = x := fun _ => rfl); (have ef : ∀ x, a1.eval (.func x) = .func (.func x) #[] #[] := fun _ => rfl); generalize a1.eval = ρ at *
      clear h1
      go_simp <;> (intros; first | (exfalso; omega) | rfl)
    · intro vs p hI0 hp
      have hI := Roll.inw_pure (by decide) rfl hI0
      clear hI0
      have h2 : (vs 2) = .pointer (some ⟨gl, 0, none⟩) := hp 2 (by simp [Ldc2])
      have e18 : (Roll.putD Ddc2 vs [2] b0).eval (.tmp 18) = .pointer (some ⟨gl, 0, none⟩) := (Roll.eval_new 2 rfl (by decide) (by decide) (by omega)).trans h2
      clear hp hlv hN
      unfold Roll.Goes
      simp only [Ldc2, List.getD_cons_zero, List.getD_cons_succ]
      generalize Roll.putD Ddc2 vs [2] b0 = a1 at *
      have cf : p.cell? ⟨gl, 0, none⟩ = some (.pointer (some ⟨g, 0, none⟩)) := (hI.1.cell (p := ⟨gl, 0, none⟩) HGL.out.1 HGL.out.2).trans C0.out
      refine Roll.goes_val (w' := p) (.pointer (some ⟨g, 0, none⟩)) rfl ?_ ⟨(Roll.outw_pure (by decide) rfl), rfl⟩
      (have ec : ∀ x, a1.eval (.const x) = x := fun _ => rfl); (have ef : ∀ x, a1.eval (.func x) = .func (.func x) #[] #[] := fun _ => rfl); generalize a1.eval = ρ at *
      clear h2
      go_simp <;> (intros; first | (exfalso; omega) | rfl)
    · intro vs p hI0 hp
      have hI := Roll.inw_pure (by decide) rfl hI0
      clear hI0
      have e0 : (Roll.putD Ddc2 vs [] b0).eval (.tmp 0) = .pointer (some ⟨gl, 0, none⟩) := (Roll.eval_old rfl).trans (hlv.at 0 (0, .pointer (some ⟨gl, 0, none⟩)) rfl)
      clear hp hlv hN
      unfold Roll.Goes
      simp only [Ldc2, List.getD_cons_zero, List.getD_cons_succ]
      generalize Roll.putD Ddc2 vs [] b0 = a1 at *
      refine Roll.goes_val (w' := p) (.pointer (some ⟨gl, 0, none⟩)) rfl ?_ ⟨(Roll.outw_pure (by decide) rfl), rfl⟩
      (have ec : ∀ x, a1.eval (.const x) = x := fun _ => rfl); (have ef : ∀ x, a1.eval (.func x) = .func (.func x) #[] #[] := fun _ => rfl); generalize a1.eval = ρ at *
      skip
      go_simp <;> (intros; first | (exfalso; omega) | rfl)
    · intro vs p hI0 hp
      have hI := Roll.inw_pure (by decide) rfl hI0
      clear hI0
      have h4 : (vs 4) = .pointer (some ⟨gl, 0, none⟩) := hp 4 (by simp [Ldc2])
      have e20 : (Roll.putD Ddc2 vs [4] b0).eval (.tmp 20) = .pointer (some ⟨gl, 0, none⟩) := (Roll.eval_new 4 rfl (by decide) (by decide) (by omega)).trans h4
      clear hp hlv hN
      unfold Roll.Goes
      simp only [Ldc2, List.getD_cons_zero, List.getD_cons_succ]
      generalize Roll.putD Ddc2 vs [4] b0 = a1 at *
      refine Roll.goes_val (w' := p) (.pointer (some ⟨gl, 0, none⟩)) rfl ?_ ⟨(Roll.outw_pure (by decide) rfl), rfl⟩
      (have ec : ∀ x, a1.eval (.const x) = x := fun _ => rfl); (have ef : ∀ x, a1.eval (.func x) = .func (.func x) #[] #[] := fun _ => rfl); generalize a1.eval = ρ at *
      clear h4
      go_simp <;> (intros; first | (exfalso; omega) | rfl)
    · intro vs p hI0 hp
      have hI := Roll.inw_pure (by decide) rfl hI0
      clear hI0
      have h5 : (vs 5) = .pointer (some ⟨gl, 0, none⟩) := hp 5 (by simp [Ldc2])
      have e21 : (Roll.putD Ddc2 vs [5] b0).eval (.tmp 21) = .pointer (some ⟨gl, 0, none⟩) := (Roll.eval_new 5 rfl (by decide) (by decide) (by omega)).trans h5
      clear hp hlv hN
      unfold Roll.Goes
      simp only [Ldc2, List.getD_cons_zero, List.getD_cons_succ]
      generalize Roll.putD Ddc2 vs [5] b0 = a1 at *
      refine Roll.goes_val (w' := p) (.pointer (some ⟨gl, 1, none⟩)) rfl ?_ ⟨(Roll.outw_pure (by decide) rfl), rfl⟩
      (have ec : ∀ x, a1.eval (.const x) = x := fun _ => rfl); (have ef : ∀ x, a1.eval (.func x) = .func (.func x) #[] #[] := fun _ => rfl); generalize a1.eval = ρ at *
      clear h5
      go_simp <;> (intros; first | (exfalso; omega) | rfl)
    · intro vs p hI0 hp
      have hI := Roll.inw_pure (by decide) rfl hI0
      clear hI0
      have h6 : (vs 6) = .pointer (some ⟨gl, 1, none⟩) := hp 6 (by simp [Ldc2])
      have e22 : (Roll.putD Ddc2 vs [6] b0).eval (.tmp 22) = .pointer (some ⟨gl, 1, none⟩) := (Roll.eval_new 6 rfl (by decide) (by decide) (by omega)).trans h6
      clear hp hlv hN
      unfold Roll.Goes
      simp only [Ldc2, List.getD_cons_zero, List.getD_cons_succ]
      generalize Roll.putD Ddc2 vs [6] b0 = a1 at *
      have cf : p.cell? ⟨gl, 1, none⟩ = some (.int .i64 (m.frm : Int)) := (hI.1.cell (p := ⟨gl, 1, none⟩) HGL.out.1 HGL.out.2).trans C1.out
      refine Roll.goes_val (w' := p) (.int .i64 (m.frm : Int)) rfl ?_ ⟨(Roll.outw_pure (by decide) rfl), rfl⟩
      (have ec : ∀ x, a1.eval (.const x) = x := fun _ => rfl); (have ef : ∀ x, a1.eval (.func x) = .func (.func x) #[] #[] := fun _ => rfl); generalize a1.eval = ρ at *
      clear h6
      go_simp <;> (intros; first | (exfalso; omega) | rfl)
    · intro vs p hI0 hp
      have hI := Roll.inw_pure (by decide) rfl hI0
      clear hI0
      have e5 : (Roll.putD Ddc2 vs [] b0).eval (.tmp 5) = .pointer (some ⟨g5, 0, none⟩) := (Roll.eval_old rfl).trans (hlv.at 1 (5, .pointer (some ⟨g5, 0, none⟩)) rfl)
      clear hp hlv hN
      unfold Roll.Goes
      simp only [Ldc2, List.getD_cons_zero, List.getD_cons_succ]
      generalize Roll.putD Ddc2 vs [] b0 = a1 at *
      refine Roll.goes_val (w' := p) (.pointer (some ⟨g5, 0, none⟩)) rfl ?_ ⟨(Roll.outw_pure (by decide) rfl), rfl⟩
      (have ec : ∀ x, a1.eval (.const x) = x := fun _ => rfl); (have ef : ∀ x, a1.eval (.func x) = .func (.func x) #[] #[] := fun _ => rfl); generalize a1.eval = ρ at *
      skip
      go_simp <;> (intros; first | (exfalso; omega) | rfl)
    · intro vs p hI0 hp
      have hI := Roll.inw_pure (by decide) rfl hI0
      clear hI0
      have h8 : (vs 8) = .pointer (some ⟨g5, 0, none⟩) := hp 8 (by simp [Ldc2])
      have e24 : (Roll.putD Ddc2 vs [8] b0).eval (.tmp 24) = .pointer (some ⟨g5, 0, none⟩) := (Roll.eval_new 8 rfl (by decide) (by decide) (by omega)).trans h8
      clear hp hlv hN
      unfold Roll.Goes
      simp only [Ldc2, List.getD_cons_zero, List.getD_cons_succ]
      generalize Roll.putD Ddc2 vs [8] b0 = a1 at *
      have cf : p.cell? ⟨g5, 0, none⟩ = some (.int .u8 (R : Int)) := by rw [cell_of_row p g5 0 _ _ _ hI.2]; rfl
      refine Roll.goes_val (w' := p) (.int .u8 (R : Int)) rfl ?_ ⟨(Roll.outw_pure (by decide) rfl), rfl⟩
      (have ec : ∀ x, a1.eval (.const x) = x := fun _ => rfl); (have ef : ∀ x, a1.eval (.func x) = .func (.func x) #[] #[] := fun _ => rfl); generalize a1.eval = ρ at *
      clear h8
      go_simp <;> (intros; first | (exfalso; omega) | rfl)
    · intro vs p hI0 hp
      have hI := Roll.inw_pure (by decide) rfl hI0
      clear hI0
      have h9 : (vs 9) = .int .u8 (R : Int) := hp 9 (by simp [Ldc2])
      have e25 : (Roll.putD Ddc2 vs [9] b0).eval (.tmp 25) = .int .u8 (R : Int) := (Roll.eval_new 9 rfl (by decide) (by decide) (by omega)).trans h9
      clear hp hlv hN
      unfold Roll.Goes
      simp only [Ldc2, List.getD_cons_zero, List.getD_cons_succ]
      generalize Roll.putD Ddc2 vs [9] b0 = a1 at *
      have hpw := HPW.out
      refine Roll.goes_val (w' := p) (.int .u8 (P : Int)) rfl ?_ ⟨(Roll.outw_pure (by decide) rfl), rfl⟩
      (have ec : ∀ x, a1.eval (.const x) = x := fun _ => rfl); (have ef : ∀ x, a1.eval (.func x) = .func (.func x) #[] #[] := fun _ => rfl); generalize a1.eval = ρ at *
      clear h9
      go_simp <;> (intros; first | (exfalso; omega) | rfl)
    · intro vs p hI0 hp
      have hI := Roll.inw_pure (by decide) rfl hI0
      clear hI0
      have h10 : (vs 10) = .int .u8 (P : Int) := hp 10 (by simp [Ldc2])
      have e26 : (Roll.putD Ddc2 vs [10] b0).eval (.tmp 26) = .int .u8 (P : Int) := (Roll.eval_new 10 rfl (by decide) (by decide) (by omega)).trans h10
      clear hp hlv hN
      unfold Roll.Goes
      simp only [Ldc2, List.getD_cons_zero, List.getD_cons_succ]
      generalize Roll.putD Ddc2 vs [10] b0 = a1 at *
      have hcw := HCW.out
      refine Roll.goes_val (w' := p) (.int .i64 (P : Int)) rfl ?_ ⟨(Roll.outw_pure (by decide) rfl), rfl⟩
      (have ec : ∀ x, a1.eval (.const x) = x := fun _ => rfl); (have ef : ∀ x, a1.eval (.func x) = .func (.func x) #[] #[] := fun _ => rfl); generalize a1.eval = ρ at *
      clear h10
      go_simp <;> (intros; first | (exfalso; omega) | rfl)
    · intro vs p hI0 hp
      have hI := Roll.inw_pure (by decide) rfl hI0
      clear hI0
      have h7 : (vs 7) = .int .i64 (m.frm : Int) := hp 7 (by simp [Ldc2])
      have h11 : (vs 11) = .int .i64 (P : Int) := hp 11 (by simp [Ldc2])
      have e23 : (Roll.putD Ddc2 vs [7, 11] b0).eval (.tmp 23) = .int .i64 (m.frm : Int) := (Roll.eval_new 7 rfl (by decide) (by decide) (by omega)).trans h7
      have e27 : (Roll.putD Ddc2 vs [7, 11] b0).eval (.tmp 27) = .int .i64 (P : Int) := (Roll.eval_new 11 rfl (by decide) (by decide) (by omega)).trans h11
      clear hp hlv hN
      unfold Roll.Goes
      simp only [Ldc2, List.getD_cons_zero, List.getD_cons_succ]
      generalize Roll.putD Ddc2 vs [7, 11] b0 = a1 at *
      have hkw := HKW.out
      refine Roll.goes_val (w' := p) (.int .i64 (K : Int)) rfl ?_ ⟨(Roll.outw_pure (by decide) rfl), rfl⟩
      (have ec : ∀ x, a1.eval (.const x) = x := fun _ => rfl); (have ef : ∀ x, a1.eval (.func x) = .func (.func x) #[] #[] := fun _ => rfl); generalize a1.eval = ρ at *
      clear h7 h11
      go_simp <;> (intros; first | (exfalso; omega) | rfl)
    · intro vs p hI0 hp
      have hI := Roll.inw_pure (by decide) rfl hI0
      clear hI0
      have e5 : (Roll.putD Ddc2 vs [] b0).eval (.tmp 5) = .pointer (some ⟨g5, 0, none⟩) := (Roll.eval_old rfl).trans (hlv.at 1 (5, .pointer (some ⟨g5, 0, none⟩)) rfl)
      clear hp hlv hN
      unfold Roll.Goes
      simp only [Ldc2, List.getD_cons_zero, List.getD_cons_succ]
      generalize Roll.putD Ddc2 vs [] b0 = a1 at *
      refine Roll.goes_load_row rfl 76 (.tmp 5) rfl g5 e5 76 _ (0, 0) _ hI.2 Try.underlying76 rfl (sizeS _ _) ⟨(Roll.outw_pure (by decide) rfl), rfl⟩
    · intro vs p hI0 hp
      have hI := Roll.inw_pre (by decide) rfl hI0
      clear hI0
      have h13 : (vs 13) = .agg #[.int .u8 (R : Int), .int .i64 (e : Int)] := hp 13 (by simp [Ldc2])
      have e29 : (Roll.putD Ddc2 vs [13] b0).eval (.tmp 29) = .agg #[.int .u8 (R : Int), .int .i64 (e : Int)] := (Roll.eval_new 13 rfl (by decide) (by decide) (by omega)).trans h13
      clear hp hlv hN
      unfold Roll.Goes
      simp only [Ldc2, List.getD_cons_zero, List.getD_cons_succ]
      generalize Roll.putD Ddc2 vs [13] b0 = a1 at *
      refine Roll.goes_call 56 #[.agg #[.int .u8 (R : Int), .int .i64 (e : Int)]] p rfl (by have ec : ∀ x, a1.eval (.const x) = x := fun _ => rfl; have ef : ∀ x, a1.eval (.func x) = .func (.func x) #[] #[] := fun _ => rfl; generalize a1.eval = ρ at *; go_simp) ?_
      refine (sector_any R e HRB.out HEB.out p).mono ?_
      rintro y p2 ⟨x, rfl, hx, hbx, hbl⟩
      exact ⟨_, rfl, Roll.outw_pre (by decide) rfl ⟨hI.1.trans (hbl.mono hI.1.size), (Kept.of_below (fun _ => False) hbl).heap hI.2 (fun h => h)⟩ (Kept.of_below _ hbl), x, rfl, Nat.le_trans hI.1.size hx, hbx⟩
    · intro vs p hI0 hp
      have hI := Roll.inw_k0 rfl hI0
      clear hI0
      have h3 : (vs 3) = .pointer (some ⟨g, 0, none⟩) := hp 3 (by simp [Ldc2])
      have h12 : (vs 12) = .int .i64 (K : Int) := hp 12 (by simp [Ldc2])
      have h14 : ∃ x, (vs 14) = .slice (some ⟨x, 0, none⟩) 64 64 ∧ q1.heap.size ≤ x ∧ Bs (fun b => b = x) p (some ⟨x, 0, none⟩) 64 64 (desB R e) := hp 14 (by simp [Ldc2])
      have e19 : (Roll.putD Ddc2 vs [3, 12, 14] b0).eval (.tmp 19) = .pointer (some ⟨g, 0, none⟩) := (Roll.eval_new 3 rfl (by decide) (by decide) (by omega)).trans h3
      have e28 : (Roll.putD Ddc2 vs [3, 12, 14] b0).eval (.tmp 28) = .int .i64 (K : Int) := (Roll.eval_new 12 rfl (by decide) (by decide) (by omega)).trans h12
      have e30 : (Roll.putD Ddc2 vs [3, 12, 14] b0).eval (.tmp 30) = vs 14 := (Roll.eval_new 14 rfl (by decide) (by decide) (by omega))
      clear hp hlv hN
      unfold Roll.Goes
      simp only [Ldc2, List.getD_cons_zero, List.getD_cons_succ]
      generalize Roll.putD Ddc2 vs [3, 12, 14] b0 = a1 at *
      obtain ⟨x, hv14, hx, hbx⟩ := h14
      rw [hv14] at e30
      refine Roll.goes_call 33 #[.pointer (some ⟨g, 0, none⟩), .int .i64 (K : Int), .slice (some ⟨x, 0, none⟩) 64 64] p rfl (by have ec : ∀ x, a1.eval (.const x) = x := fun _ => rfl; have ef : ∀ x, a1.eval (.func x) = .func (.func x) #[] #[] := fun _ => rfl; generalize a1.eval = ρ at *; go_simp) ?_
      have hdp := HD.out.kept (Kept.of_below (fun _ => False) hI.1) (fun _ _ h => h)
      refine (write_ok (hdp.bound HN.out) hbx K HKS.out HON.out (Nat.le_refl _)).mono ?_
      rintro y p2 ⟨rfl, row', hd2, hk2, hf2⟩
      have KB : Kept B p p2 := hk2.mono (fun j _ hj => HBB.out j hj)
      have KQ : Kept B q1 p2 := (Kept.of_below B hI.1).trans KB (fun _ _ h => h)
      exact ⟨_, rfl, Roll.outw_k0 rfl ⟨HSET.out p2 _ (Blk g gd gm row') ⟨gd, gm, row', _, hd2, fun _ h => h⟩ KQ (fun j hj => (hf2 j hj).imp (HBB.out j) (fun e => Nat.le_trans hI.1.size e)) (fun j hj => hd2.lt j hj), KQ, KB.heap hI.2 (fun e => HG5B.out e)⟩ KB, rfl⟩
  · intro vs p hI hR
    have h0 : (vs 0) = .pointer (some ⟨gl, 0, none⟩) := hR 0 (by omega)
    have h1 : (vs 1) = .pointer (some ⟨gl, 0, none⟩) := hR 1 (by omega)
    have h2 : (vs 2) = .pointer (some ⟨gl, 0, none⟩) := hR 2 (by omega)
    have h3 : (vs 3) = .pointer (some ⟨g, 0, none⟩) := hR 3 (by omega)
    have h4 : (vs 4) = .pointer (some ⟨gl, 0, none⟩) := hR 4 (by omega)
    have h5 : (vs 5) = .pointer (some ⟨gl, 0, none⟩) := hR 5 (by omega)
    have h6 : (vs 6) = .pointer (some ⟨gl, 1, none⟩) := hR 6 (by omega)
    have h7 : (vs 7) = .int .i64 (m.frm : Int) := hR 7 (by omega)
    have h8 : (vs 8) = .pointer (some ⟨g5, 0, none⟩) := hR 8 (by omega)
    have h9 : (vs 9) = .int .u8 (R : Int) := hR 9 (by omega)
    have h10 : (vs 10) = .int .u8 (P : Int) := hR 10 (by omega)
    have h11 : (vs 11) = .int .i64 (P : Int) := hR 11 (by omega)
    have h12 : (vs 12) = .int .i64 (K : Int) := hR 12 (by omega)
    have h13 : (vs 13) = .agg #[.int .u8 (R : Int), .int .i64 (e : Int)] := hR 13 (by omega)
    have h14 : ∃ x, (vs 14) = .slice (some ⟨x, 0, none⟩) 64 64 ∧ q1.heap.size ≤ x ∧ Bs (fun b => b = x) p (some ⟨x, 0, none⟩) 64 64 (desB R e) := hR 14 (by omega)
    have h15 : (vs 15) = .int .i64 0 := hR 15 (by omega)
    clear hR
    simp only [List.range_succ, List.range_zero, List.nil_append, List.cons_append, Roll.putD, Act.put, List.getD_cons_zero, List.getD_cons_succ, List.setIfInBounds_toArray, List.set_cons_zero, List.set_cons_succ, List.drop_succ_cons, List.drop_zero, Ddc2]
    simp only [h0, h1, h2, h3, h4, h5, h6, h7, h8, h9, h10, h11, h12, h13, h15]
    clear h0 h1 h2 h3 h4 h5 h6 h7 h8 h9 h10 h11 h12 h13 h15
    have HL1 := Lib.hid hI.1
    clear hI h14
    generalize vs 14 = v14 at *
    obtain ⟨D1, hD1⟩ : ∃ D1, D1 = d.write K (desB R e) := ⟨_, rfl⟩
    rw [← hD1] at HL1
    have HD1 := Lib.hid hD1
    have hi1 : (stateO g5 R e :: L.set j (diskO g D1))[i + 1]? = some (logO gl g m) := by
      rw [List.getElem?_cons_succ, List.getElem?_set_ne (fun e => HIJ.out e.symm)]
      simpa using HI.out
    have hj1 : (stateO g5 R e :: L.set j (diskO g D1))[j + 1]? = some (diskO g D1) := by rw [List.getElem?_cons_succ, List.getElem?_set_self HJL.out]
    obtain ⟨_, _, -, -, hg1, d0, -, -, -, -, -, -, -, fz⟩ := HL1.out.logFacts hi1
    have HI1 := Lib.hid hi1
    have HJ1 := Lib.hid hj1
    have HO1 : Hid (D1.on = false) := Lib.hid (by rw [HD1.out, HK.out, HP.out, HR.out]; exact ho1)
    clear hD1 hi1 hj1 ho1
    go_wp2_with (first
      | (go_at_call 34; refine (flush_lv_off HL1.out HJ1.out HO1.out).mono ?_; rintro e w1 ⟨rfl, rfl⟩))
    go_ret
    refine ⟨rfl, ?_⟩
    have := HL1.out.tail
    rw [HD1.out, HK.out, HP.out, HR.out] at this
    exact this
set_option maxRecDepth 100000 in
set_option maxHeartbeats 4000000 in
theorem describe_ok (h : Lv w0 w L) (hi : L[i]? = some (logO gl g m)) (hj : L[j]? = some (diskO g d)) (hij : i ≠ j) (e : Nat) (he : e < 16777216) (hr : m.rnd < 256) (hf : m.frm + 1 < d.S.length) (hN : d.Ok 100000) (ho : d.on = true) (ho1 : (d.write (m.frm + (m.rnd + 1) % 256 % 2) (desB ((m.rnd + 1) % 256) e)).on = true) :
    Calls Try.prog 41 #[.pointer (some ⟨gl, 0, none⟩), .int .i64 (e : Int)] w fun x w' => x = .returned (.int .i64 0) ∧ Lv w0 w' ((L.set j (diskO g (d.write (m.frm + (m.rnd + 1) % 256 % 2) (desB ((m.rnd + 1) % 256) e)).flush)).set i (logO gl g {m with rnd := (m.rnd + 1) % 256, en := e})) := by
  obtain ⟨a, c, h1, h2, hg, -, -, -, c3, -, -, -, -, f0⟩ := h.logFacts hi
  obtain ⟨R, hR⟩ : ∃ R, R = (m.rnd + 1) % 256 := ⟨_, rfl⟩
  obtain ⟨P, hP⟩ : ∃ P, P = R % 2 := ⟨_, rfl⟩
  obtain ⟨K, hK⟩ : ∃ K, K = m.frm + P := ⟨_, rfl⟩
  obtain ⟨q1, hq1⟩ : ∃ q1, q1 = (w.alloc (.cells #[.int .u8 0, .int .i64 0] 76)).setRow w.heap.size #[.int .u8 (R : Int), .int .i64 (e : Int)] := ⟨_, rfl⟩
  obtain ⟨g5, hg5⟩ : ∃ g5, g5 = w.heap.size := ⟨_, rfl⟩
  have hbq : Below w.heap.size w q1 := by rw [hq1]; exact below_setRow ((Below.refl _ _).alloc (Nat.le_refl _) _) (Nat.le_refl _) _
  have HZ5 : Hid (q1.heap[g5]? = some (.cells #[.int .u8 (R : Int), .int .i64 (e : Int)] 76 (0, 0))) := Lib.hid (by rw [hq1, hg5]; exact setRow_heap _ _ _ _ _ _ (heap_new rfl))
  have hlq : Lv w0 q1 (stateO g5 R e :: L) := h.cons hbq (B := fun x => x = g5) ⟨HZ5.out, rfl⟩ (fun x hx => by subst hx; exact ⟨by omega, (Array.getElem?_eq_some_iff.1 HZ5.out).1⟩)
  have hi2 : (stateO g5 R e :: L)[i + 1]? = some (logO gl g m) := by simpa using hi
  have hj2 : (stateO g5 R e :: L)[j + 1]? = some (diskO g d) := by simpa using hj
  obtain ⟨_, _, -, -, hgq, c0, c1, c2, -, c4, c5, c6, c7, -⟩ := hlq.logFacts hi2
  obtain ⟨B, ⟨gd, gm, row, N, hd, hBB⟩, hlt, hoth, hset⟩ := hlq.get hj2
  have hglB : ¬ B gl := by
    obtain ⟨B2, ⟨k2, Bf2, v2, _, hb2⟩, hne⟩ := hoth (i + 1) _ (by omega) hi2
    exact hne gl (hb2 gl (.inl rfl))
  have hg5B : ¬ B g5 := by
    obtain ⟨B2, ⟨_, hb2⟩, hne⟩ := hoth 0 (stateO g5 R e) (by omega) rfl
    exact hne g5 hb2
  have hS := hd.ok.2.1
  have hw1 : IntKind.u8.wrap ((m.rnd : Int) + 1) = (R : Int) := by rw [IntKind.wrap_u8]; omega
  have hpt : Int.tmod (R : Int) 2 = (P : Int) := by rw [Int.tmod_eq_emod_of_nonneg (by omega)]; omega
  have HPW : Hid (Int.tmod (R : Int) 2 = (P : Int) ∧ IntKind.u8.wrap (Int.tmod (R : Int) 2) = (P : Int)) := Lib.hid ⟨hpt, by rw [hpt, IntKind.wrap_u8]; omega⟩
  have HCW : Hid (IntKind.i64.wrap (P : Int) = (P : Int)) := Lib.hid (i64_id _ (by omega) (by omega))
  have HKW : Hid (IntKind.i64.wrap ((m.frm : Int) + (P : Int)) = (K : Int)) := Lib.hid (by rw [i64_id _ (by omega) (by omega)]; omega)
  have HRB : Hid (R < 256) := Lib.hid (by omega)
  have HEB : Hid (e < 16777216) := Lib.hid he
  have HKS : Hid (K < d.S.length) := Lib.hid (by omega)
  have HKH : Hid (hasB d (K : Int) = true) := Lib.hid (by unfold hasB; rw [decide_eq_true]; omega)
  have HN := Lib.hid hN
  have HON := Lib.hid ho
  have HD := Lib.hid hd
  have HBB := Lib.hid hBB
  have HSET := Lib.hid hset
  have HLT : Hid (∀ j, B j → j < q1.heap.size) := Lib.hid (fun j hj => (hlt j hj).2)
  have HGL : Hid (gl < q1.heap.size ∧ ¬ B gl) := Lib.hid ⟨hgq, hglB⟩
  have C0 := Lib.hid c0
  have C1 := Lib.hid c1
  have HL := Lib.hid h
  have HI := Lib.hid hi2
  have HJ := Lib.hid hj2
  have HIJ := Lib.hid hij
  have HJL := Lib.hid (List.getElem?_eq_some_iff.1 hj).1
  have hb := run_buildS
  have HBQ := Lib.hid hbq
  have HG5B := Lib.hid hg5B
  have HQ1 := Lib.hid hq1
  have HG5 := Lib.hid hg5
  have HR := Lib.hid hR
  have HK := Lib.hid hK
  have HP := Lib.hid hP
  clear hd hBB hlt hoth hset hglB hg5B hR hP hK hq1 hg5 h hi hj hi2 hj2 hlq hbq hN ho c0 c1 c2 c4 c5 c6 c7 f0 hpt hij hr he hf hS hgq
  go_enter Try.func41, Try.ntmps41
  go_wp2_with (first
    | (refine wpList_alloc_z rfl 76 rfl _ 76 run_allocS ?_)
    | (refine wpList_store_row rfl 76 (.tmp 5) (.tmp 15) rfl w.heap.size _ rfl rfl 76 _ (heap_new rfl) (sizeS _ _) rfl (oneS _ _) ?_))
  rw [← HQ1.out, ← HG5.out]
  refine Roll.region_w 16 47 Ddc2 Ldc2 [(0, .pointer (some ⟨gl, 0, none⟩)), (5, .pointer (some ⟨g5, 0, none⟩))] 15 [true, true, true, true, true, true, true, true, true, true, true, true, true, true, false, false] (fun p => Below q1.heap.size q1 p ∧ p.heap[g5]? = some (.cells #[.int .u8 (R : Int), .int .i64 (e : Int)] 76 (0, 0))) (fun vv p => Lv w0 p (stateO g5 R e :: L.set j (diskO g (d.write K (desB R e)))) ∧ Kept B q1 p ∧ p.heap[g5]? = some (.cells #[.int .u8 (R : Int), .int .i64 (e : Int)] 76 (0, 0))) (fun p => Kept B q1 p ∧ p.heap[g5]? = some (.cells #[.int .u8 (R : Int), .int .i64 (e : Int)] 76 (0, 0))) (fun p p2 => Kept B p p2) [fun vv p => (vv 0) = .pointer (some ⟨gl, 0, none⟩), fun vv p => (vv 1) = .pointer (some ⟨gl, 0, none⟩), fun vv p => (vv 2) = .pointer (some ⟨gl, 0, none⟩), fun vv p => (vv 3) = .pointer (some ⟨g, 0, none⟩), fun vv p => (vv 4) = .pointer (some ⟨gl, 0, none⟩), fun vv p => (vv 5) = .pointer (some ⟨gl, 0, none⟩), fun vv p => (vv 6) = .pointer (some ⟨gl, 1, none⟩), fun vv p => (vv 7) = .int .i64 (m.frm : Int), fun vv p => (vv 8) = .pointer (some ⟨g5, 0, none⟩), fun vv p => (vv 9) = .int .u8 (R : Int), fun vv p => (vv 10) = .int .u8 (P : Int), fun vv p => (vv 11) = .int .i64 (P : Int), fun vv p => (vv 12) = .int .i64 (K : Int), fun vv p => (vv 13) = .agg #[.int .u8 (R : Int), .int .i64 (e : Int)], fun vv p => ∃ x, (vv 14) = .slice (some ⟨x, 0, none⟩) 64 64 ∧ q1.heap.size ≤ x ∧ Bs (fun b => b = x) p (some ⟨x, 0, none⟩) 64 64 (desB R e), fun vv p => (vv 15) = .int .i64 0] (by kernel_rfl) (by kernel_rfl) rfl ⟨rfl, rfl, trivial⟩ (⟨(Below.refl _ _).drew, HZ5.out⟩) (by decide) (by kernel_rfl) (fun _ h => ⟨Kept.of_below _ h.1, h.2⟩) (fun _ _ h => h.2) (fun _ => Kept.refl _ _) ?_ ?_ ?_
  · exact ⟨fun _ _ _ _ h => h, fun _ _ _ _ h => h, fun _ _ _ _ h => h, fun _ _ _ _ h => h, fun _ _ _ _ h => h, fun _ _ _ _ h => h, fun _ _ _ _ h => h, fun _ _ _ _ h => h, fun _ _ _ _ h => h, fun _ _ _ _ h => h, fun _ _ _ _ h => h, fun _ _ _ _ h => h, fun _ _ _ _ h => h, fun _ _ _ _ h => h, fun _ _ _ hs h => by obtain ⟨x, e1, e2, e3⟩ := h; exact ⟨x, e1, e2, e3.kept hs (fun b _ hb hB => by subst hb; have := HLT.out b hB; omega)⟩, fun _ _ _ _ h => h, trivial⟩
  · intro b0 hN hlv
    refine ⟨?_, ?_, ?_, ?_, ?_, ?_, ?_, ?_, ?_, ?_, ?_, ?_, ?_, ?_, ?_, ?_, trivial⟩
    · intro vs p hI0 hp
      have hI := Roll.inw_pure (by decide) rfl hI0
      clear hI0
      have e0 : (Roll.putD Ddc2 vs [] b0).eval (.tmp 0) = .pointer (some ⟨gl, 0, none⟩) := (Roll.eval_old rfl).trans (hlv.at 0 (0, .pointer (some ⟨gl, 0, none⟩)) rfl)
      clear hp hlv hN
      unfold Roll.Goes
      simp only [Ldc2, List.getD_cons_zero, List.getD_cons_succ]
      generalize Roll.putD Ddc2 vs [] b0 = a1 at *
      refine Roll.goes_val (w' := p) (.pointer (some ⟨gl, 0, none⟩)) rfl ?_ ⟨(Roll.outw_pure (by decide) rfl), rfl⟩
      (have ec : ∀ x, a1.eval (.const x) = x := fun _ => rfl); (have ef : ∀ x, a1.eval (.func x) = .func (.func x) #[] #[] := fun _ => rfl); generalize a1.eval = ρ at *
      skip
      go_simp <;> (intros; first | (exfalso; omega) | rfl)
    · intro vs p hI0 hp
      have hI := Roll.inw_pure (by decide) rfl hI0
      clear hI0
      have h0 : (vs 0) = .pointer (some ⟨gl, 0, none⟩) := hp 0 (by simp [Ldc2])
      have e16 : (Roll.putD Ddc2 vs [0] b0).eval (.tmp 16) = .pointer (some ⟨gl, 0, none⟩) := (Roll.eval_new 0 rfl (by decide) (by decide) (by omega)).trans h0
      clear hp hlv hN
      unfold Roll.Goes
      simp only [Ldc2, List.getD_cons_zero, List.getD_cons_succ]
      generalize Roll.putD Ddc2 vs [0] b0 = a1 at *
      refine Roll.goes_val (w' := p) (.pointer (some ⟨gl, 0, none⟩)) rfl ?_ ⟨(Roll.outw_pure (by decide) rfl), rfl⟩
      (have ec : ∀ x, a1.eval (.const x) = x := fun _ => rfl); (have ef : ∀ x, a1.eval (.func x) = .func (.func x) #[] #[] := fun _ => rfl); generalize a1.eval = ρ at *
      clear h0
      go_simp <;> (intros; first | (exfalso; omega) | rfl)
    · intro vs p hI0 hp
      have hI := Roll.inw_pure (by decide) rfl hI0
      clear hI0
      have h1 : (vs 1) = .pointer (some ⟨gl, 0, none⟩) := hp 1 (by simp [Ldc2])
      have e17 : (Roll.putD Ddc2 vs [1] b0).eval (.tmp 17) = .pointer (some ⟨gl, 0, none⟩) := (Roll.eval_new 1 rfl (by decide) (by decide) (by omega)).trans h1
      clear hp hlv hN
      unfold Roll.Goes
      simp only [Ldc2, List.getD_cons_zero, List.getD_cons_succ]
      generalize Roll.putD Ddc2 vs [1] b0 = a1 at *
      refine Roll.goes_val (w' := p) (.pointer (some ⟨gl, 0, none⟩)) rfl ?_ ⟨(Roll.outw_pure (by decide) rfl), rfl⟩
      (have ec : ∀ x, a1.eval (.const x) = x := fun _ => rfl); (have ef : ∀ x, a1.eval (.func x) = .func (.func x) #[] #[] := fun _ => rfl); generalize a1.eval = ρ at *
      clear h1
      go_simp <;> (intros; first | (exfalso; omega) | rfl)
    · intro vs p hI0 hp
      have hI := Roll.inw_pure (by decide) rfl hI0
      clear hI0
      have h2 : (vs 2) = .pointer (some ⟨gl, 0, none⟩) := hp 2 (by simp [Ldc2])
      have e18 : (Roll.putD Ddc2 vs [2] b0).eval (.tmp 18) = .pointer (some ⟨gl, 0, none⟩) := (Roll.eval_new 2 rfl (by decide) (by decide) (by omega)).trans h2
      clear hp hlv hN
      unfold Roll.Goes
      simp only [Ldc2, List.getD_cons_zero, List.getD_cons_succ]
      generalize Roll.putD Ddc2 vs [2] b0 = a1 at *
      have cf : p.cell? ⟨gl, 0, none⟩ = some (.pointer (some ⟨g, 0, none⟩)) := (hI.1.cell (p := ⟨gl, 0, none⟩) HGL.out.1 HGL.out.2).trans C0.out
      refine Roll.goes_val (w' := p) (.pointer (some ⟨g, 0, none⟩)) rfl ?_ ⟨(Roll.outw_pure (by decide) rfl), rfl⟩
      (have ec : ∀ x, a1.eval (.const x) = x := fun _ => rfl); (have ef : ∀ x, a1.eval (.func x) = .func (.func x) #[] #[] := fun _ => rfl); generalize a1.eval = ρ at *
      clear h2
      go_simp <;> (intros; first | (exfalso; omega) | rfl)
    · intro vs p hI0 hp
      have hI := Roll.inw_pure (by decide) rfl hI0
      clear hI0
      have e0 : (Roll.putD Ddc2 vs [] b0).eval (.tmp 0) = .pointer (some ⟨gl, 0, none⟩) := (Roll.eval_old rfl).trans (hlv.at 0 (0, .pointer (some ⟨gl, 0, none⟩)) rfl)
      clear hp hlv hN
      unfold Roll.Goes
      simp only [Ldc2, List.getD_cons_zero, List.getD_cons_succ]
      generalize Roll.putD Ddc2 vs [] b0 = a1 at *
      refine Roll.goes_val (w' := p) (.pointer (some ⟨gl, 0, none⟩)) rfl ?_ ⟨(Roll.outw_pure (by decide) rfl), rfl⟩
      (have ec : ∀ x, a1.eval (.const x) = x := fun _ => rfl); (have ef : ∀ x, a1.eval (.func x) = .func (.func x) #[] #[] := fun _ => rfl); generalize a1.eval = ρ at *
      skip
      go_simp <;> (intros; first | (exfalso; omega) | rfl)
    · intro vs p hI0 hp
      have hI := Roll.inw_pure (by decide) rfl hI0
      clear hI0
      have h4 : (vs 4) = .pointer (some ⟨gl, 0, none⟩) := hp 4 (by simp [Ldc2])
      have e20 : (Roll.putD Ddc2 vs [4] b0).eval (.tmp 20) = .pointer (some ⟨gl, 0, none⟩) := (Roll.eval_new 4 rfl (by decide) (by decide) (by omega)).trans h4
      clear hp hlv hN
      unfold Roll.Goes
      simp only [Ldc2, List.getD_cons_zero, List.getD_cons_succ]
      generalize Roll.putD Ddc2 vs [4] b0 = a1 at *
      refine Roll.goes_val (w' := p) (.pointer (some ⟨gl, 0, none⟩)) rfl ?_ ⟨(Roll.outw_pure (by decide) rfl), rfl⟩
      (have ec : ∀ x, a1.eval (.const x) = x := fun _ => rfl); (have ef : ∀ x, a1.eval (.func x) = .func (.func x) #[] #[] := fun _ => rfl); generalize a1.eval = ρ at *
      clear h4
      go_simp <;> (intros; first | (exfalso; omega) | rfl)
    · intro vs p hI0 hp
      have hI := Roll.inw_pure (by decide) rfl hI0
      clear hI0
      have h5 : (vs 5) = .pointer (some ⟨gl, 0, none⟩) := hp 5 (by simp [Ldc2])
      have e21 : (Roll.putD Ddc2 vs [5] b0).eval (.tmp 21) = .pointer (some ⟨gl, 0, none⟩) := (Roll.eval_new 5 rfl (by decide) (by decide) (by omega)).trans h5
      clear hp hlv hN
      unfold Roll.Goes
      simp only [Ldc2, List.getD_cons_zero, List.getD_cons_succ]
      generalize Roll.putD Ddc2 vs [5] b0 = a1 at *
      refine Roll.goes_val (w' := p) (.pointer (some ⟨gl, 1, none⟩)) rfl ?_ ⟨(Roll.outw_pure (by decide) rfl), rfl⟩
      (have ec : ∀ x, a1.eval (.const x) = x := fun _ => rfl); (have ef : ∀ x, a1.eval (.func x) = .func (.func x) #[] #[] := fun _ => rfl); generalize a1.eval = ρ at *
      clear h5
      go_simp <;> (intros; first | (exfalso; omega) | rfl)
    · intro vs p hI0 hp
      have hI := Roll.inw_pure (by decide) rfl hI0
      clear hI0
      have h6 : (vs 6) = .pointer (some ⟨gl, 1, none⟩) := hp 6 (by simp [Ldc2])
      have e22 : (Roll.putD Ddc2 vs [6] b0).eval (.tmp 22) = .pointer (some ⟨gl, 1, none⟩) := (Roll.eval_new 6 rfl (by decide) (by decide) (by omega)).trans h6
      clear hp hlv hN
      unfold Roll.Goes
      simp only [Ldc2, List.getD_cons_zero, List.getD_cons_succ]
      generalize Roll.putD Ddc2 vs [6] b0 = a1 at *
      have cf : p.cell? ⟨gl, 1, none⟩ = some (.int .i64 (m.frm : Int)) := (hI.1.cell (p := ⟨gl, 1, none⟩) HGL.out.1 HGL.out.2).trans C1.out
      refine Roll.goes_val (w' := p) (.int .i64 (m.frm : Int)) rfl ?_ ⟨(Roll.outw_pure (by decide) rfl), rfl⟩
      (have ec : ∀ x, a1.eval (.const x) = x := fun _ => rfl); (have ef : ∀ x, a1.eval (.func x) = .func (.func x) #[] #[] := fun _ => rfl); generalize a1.eval = ρ at *
      clear h6
      go_simp <;> (intros; first | (exfalso; omega) | rfl)
    · intro vs p hI0 hp
      have hI := Roll.inw_pure (by decide) rfl hI0
      clear hI0
      have e5 : (Roll.putD Ddc2 vs [] b0).eval (.tmp 5) = .pointer (some ⟨g5, 0, none⟩) := (Roll.eval_old rfl).trans (hlv.at 1 (5, .pointer (some ⟨g5, 0, none⟩)) rfl)
      clear hp hlv hN
      unfold Roll.Goes
      simp only [Ldc2, List.getD_cons_zero, List.getD_cons_succ]
      generalize Roll.putD Ddc2 vs [] b0 = a1 at *
      refine Roll.goes_val (w' := p) (.pointer (some ⟨g5, 0, none⟩)) rfl ?_ ⟨(Roll.outw_pure (by decide) rfl), rfl⟩
      (have ec : ∀ x, a1.eval (.const x) = x := fun _ => rfl); (have ef : ∀ x, a1.eval (.func x) = .func (.func x) #[] #[] := fun _ => rfl); generalize a1.eval = ρ at *
      skip
      go_simp <;> (intros; first | (exfalso; omega) | rfl)
    · intro vs p hI0 hp
      have hI := Roll.inw_pure (by decide) rfl hI0
      clear hI0
      have h8 : (vs 8) = .pointer (some ⟨g5, 0, none⟩) := hp 8 (by simp [Ldc2])
      have e24 : (Roll.putD Ddc2 vs [8] b0).eval (.tmp 24) = .pointer (some ⟨g5, 0, none⟩) := (Roll.eval_new 8 rfl (by decide) (by decide) (by omega)).trans h8
      clear hp hlv hN
      unfold Roll.Goes
      simp only [Ldc2, List.getD_cons_zero, List.getD_cons_succ]
      generalize Roll.putD Ddc2 vs [8] b0 = a1 at *
      have cf : p.cell? ⟨g5, 0, none⟩ = some (.int .u8 (R : Int)) := by rw [cell_of_row p g5 0 _ _ _ hI.2]; rfl
      refine Roll.goes_val (w' := p) (.int .u8 (R : Int)) rfl ?_ ⟨(Roll.outw_pure (by decide) rfl), rfl⟩
      (have ec : ∀ x, a1.eval (.const x) = x := fun _ => rfl); (have ef : ∀ x, a1.eval (.func x) = .func (.func x) #[] #[] := fun _ => rfl); generalize a1.eval = ρ at *
      clear h8
      go_simp <;> (intros; first | (exfalso; omega) | rfl)
    · intro vs p hI0 hp
      have hI := Roll.inw_pure (by decide) rfl hI0
      clear hI0
      have h9 : (vs 9) = .int .u8 (R : Int) := hp 9 (by simp [Ldc2])
      have e25 : (Roll.putD Ddc2 vs [9] b0).eval (.tmp 25) = .int .u8 (R : Int) := (Roll.eval_new 9 rfl (by decide) (by decide) (by omega)).trans h9
      clear hp hlv hN
      unfold Roll.Goes
      simp only [Ldc2, List.getD_cons_zero, List.getD_cons_succ]
      generalize Roll.putD Ddc2 vs [9] b0 = a1 at *
      have hpw := HPW.out
      refine Roll.goes_val (w' := p) (.int .u8 (P : Int)) rfl ?_ ⟨(Roll.outw_pure (by decide) rfl), rfl⟩
      (have ec : ∀ x, a1.eval (.const x) = x := fun _ => rfl); (have ef : ∀ x, a1.eval (.func x) = .func (.func x) #[] #[] := fun _ => rfl); generalize a1.eval = ρ at *
      clear h9
      go_simp <;> (intros; first | (exfalso; omega) | rfl)
    · intro vs p hI0 hp
      have hI := Roll.inw_pure (by decide) rfl hI0
      clear hI0
      have h10 : (vs 10) = .int .u8 (P : Int) := hp 10 (by simp [Ldc2])
      have e26 : (Roll.putD Ddc2 vs [10] b0).eval (.tmp 26) = .int .u8 (P : Int) := (Roll.eval_new 10 rfl (by decide) (by decide) (by omega)).trans h10
      clear hp hlv hN
      unfold Roll.Goes
      simp only [Ldc2, List.getD_cons_zero, List.getD_cons_succ]
      generalize Roll.putD Ddc2 vs [10] b0 = a1 at *
      have hcw := HCW.out
      refine Roll.goes_val (w' := p) (.int .i64 (P : Int)) rfl ?_ ⟨(Roll.outw_pure (by decide) rfl), rfl⟩
      (have ec : ∀ x, a1.eval (.const x) = x := fun _ => rfl); (have ef : ∀ x, a1.eval (.func x) = .func (.func x) #[] #[] := fun _ => rfl); generalize a1.eval = ρ at *
      clear h10
      go_simp <;> (intros; first | (exfalso; omega) | rfl)
    · intro vs p hI0 hp
      have hI := Roll.inw_pure (by decide) rfl hI0
      clear hI0
      have h7 : (vs 7) = .int .i64 (m.frm : Int) := hp 7 (by simp [Ldc2])
      have h11 : (vs 11) = .int .i64 (P : Int) := hp 11 (by simp [Ldc2])
      have e23 : (Roll.putD Ddc2 vs [7, 11] b0).eval (.tmp 23) = .int .i64 (m.frm : Int) := (Roll.eval_new 7 rfl (by decide) (by decide) (by omega)).trans h7
      have e27 : (Roll.putD Ddc2 vs [7, 11] b0).eval (.tmp 27) = .int .i64 (P : Int) := (Roll.eval_new 11 rfl (by decide) (by decide) (by omega)).trans h11
      clear hp hlv hN
      unfold Roll.Goes
      simp only [Ldc2, List.getD_cons_zero, List.getD_cons_succ]
      generalize Roll.putD Ddc2 vs [7, 11] b0 = a1 at *
      have hkw := HKW.out
      refine Roll.goes_val (w' := p) (.int .i64 (K : Int)) rfl ?_ ⟨(Roll.outw_pure (by decide) rfl), rfl⟩
      (have ec : ∀ x, a1.eval (.const x) = x := fun _ => rfl); (have ef : ∀ x, a1.eval (.func x) = .func (.func x) #[] #[] := fun _ => rfl); generalize a1.eval = ρ at *
      clear h7 h11
      go_simp <;> (intros; first | (exfalso; omega) | rfl)
    · intro vs p hI0 hp
      have hI := Roll.inw_pure (by decide) rfl hI0
      clear hI0
      have e5 : (Roll.putD Ddc2 vs [] b0).eval (.tmp 5) = .pointer (some ⟨g5, 0, none⟩) := (Roll.eval_old rfl).trans (hlv.at 1 (5, .pointer (some ⟨g5, 0, none⟩)) rfl)
      clear hp hlv hN
      unfold Roll.Goes
      simp only [Ldc2, List.getD_cons_zero, List.getD_cons_succ]
      generalize Roll.putD Ddc2 vs [] b0 = a1 at *
      refine Roll.goes_load_row rfl 76 (.tmp 5) rfl g5 e5 76 _ (0, 0) _ hI.2 Try.underlying76 rfl (sizeS _ _) ⟨(Roll.outw_pure (by decide) rfl), rfl⟩
    · intro vs p hI0 hp
      have hI := Roll.inw_pre (by decide) rfl hI0
      clear hI0
      have h13 : (vs 13) = .agg #[.int .u8 (R : Int), .int .i64 (e : Int)] := hp 13 (by simp [Ldc2])
      have e29 : (Roll.putD Ddc2 vs [13] b0).eval (.tmp 29) = .agg #[.int .u8 (R : Int), .int .i64 (e : Int)] := (Roll.eval_new 13 rfl (by decide) (by decide) (by omega)).trans h13
      clear hp hlv hN
      unfold Roll.Goes
      simp only [Ldc2, List.getD_cons_zero, List.getD_cons_succ]
      generalize Roll.putD Ddc2 vs [13] b0 = a1 at *
      refine Roll.goes_call 56 #[.agg #[.int .u8 (R : Int), .int .i64 (e : Int)]] p rfl (by have ec : ∀ x, a1.eval (.const x) = x := fun _ => rfl; have ef : ∀ x, a1.eval (.func x) = .func (.func x) #[] #[] := fun _ => rfl; generalize a1.eval = ρ at *; go_simp) ?_
      refine (sector_any R e HRB.out HEB.out p).mono ?_
      rintro y p2 ⟨x, rfl, hx, hbx, hbl⟩
      exact ⟨_, rfl, Roll.outw_pre (by decide) rfl ⟨hI.1.trans (hbl.mono hI.1.size), (Kept.of_below (fun _ => False) hbl).heap hI.2 (fun h => h)⟩ (Kept.of_below _ hbl), x, rfl, Nat.le_trans hI.1.size hx, hbx⟩
    · intro vs p hI0 hp
      have hI := Roll.inw_k0 rfl hI0
      clear hI0
      have h3 : (vs 3) = .pointer (some ⟨g, 0, none⟩) := hp 3 (by simp [Ldc2])
      have h12 : (vs 12) = .int .i64 (K : Int) := hp 12 (by simp [Ldc2])
      have h14 : ∃ x, (vs 14) = .slice (some ⟨x, 0, none⟩) 64 64 ∧ q1.heap.size ≤ x ∧ Bs (fun b => b = x) p (some ⟨x, 0, none⟩) 64 64 (desB R e) := hp 14 (by simp [Ldc2])
      have e19 : (Roll.putD Ddc2 vs [3, 12, 14] b0).eval (.tmp 19) = .pointer (some ⟨g, 0, none⟩) := (Roll.eval_new 3 rfl (by decide) (by decide) (by omega)).trans h3
      have e28 : (Roll.putD Ddc2 vs [3, 12, 14] b0).eval (.tmp 28) = .int .i64 (K : Int) := (Roll.eval_new 12 rfl (by decide) (by decide) (by omega)).trans h12
      have e30 : (Roll.putD Ddc2 vs [3, 12, 14] b0).eval (.tmp 30) = vs 14 := (Roll.eval_new 14 rfl (by decide) (by decide) (by omega))
      clear hp hlv hN
      unfold Roll.Goes
      simp only [Ldc2, List.getD_cons_zero, List.getD_cons_succ]
      generalize Roll.putD Ddc2 vs [3, 12, 14] b0 = a1 at *
      obtain ⟨x, hv14, hx, hbx⟩ := h14
      rw [hv14] at e30
      refine Roll.goes_call 33 #[.pointer (some ⟨g, 0, none⟩), .int .i64 (K : Int), .slice (some ⟨x, 0, none⟩) 64 64] p rfl (by have ec : ∀ x, a1.eval (.const x) = x := fun _ => rfl; have ef : ∀ x, a1.eval (.func x) = .func (.func x) #[] #[] := fun _ => rfl; generalize a1.eval = ρ at *; go_simp) ?_
      have hdp := HD.out.kept (Kept.of_below (fun _ => False) hI.1) (fun _ _ h => h)
      refine (write_ok (hdp.bound HN.out) hbx K HKS.out HON.out (Nat.le_refl _)).mono ?_
      rintro y p2 ⟨rfl, row', hd2, hk2, hf2⟩
      have KB : Kept B p p2 := hk2.mono (fun j _ hj => HBB.out j hj)
      have KQ : Kept B q1 p2 := (Kept.of_below B hI.1).trans KB (fun _ _ h => h)
      exact ⟨_, rfl, Roll.outw_k0 rfl ⟨HSET.out p2 _ (Blk g gd gm row') ⟨gd, gm, row', _, hd2, fun _ h => h⟩ KQ (fun j hj => (hf2 j hj).imp (HBB.out j) (fun e => Nat.le_trans hI.1.size e)) (fun j hj => hd2.lt j hj), KQ, KB.heap hI.2 (fun e => HG5B.out e)⟩ KB, rfl⟩
  · intro vs p hI hR
    have h0 : (vs 0) = .pointer (some ⟨gl, 0, none⟩) := hR 0 (by omega)
    have h1 : (vs 1) = .pointer (some ⟨gl, 0, none⟩) := hR 1 (by omega)
    have h2 : (vs 2) = .pointer (some ⟨gl, 0, none⟩) := hR 2 (by omega)
    have h3 : (vs 3) = .pointer (some ⟨g, 0, none⟩) := hR 3 (by omega)
    have h4 : (vs 4) = .pointer (some ⟨gl, 0, none⟩) := hR 4 (by omega)
    have h5 : (vs 5) = .pointer (some ⟨gl, 0, none⟩) := hR 5 (by omega)
    have h6 : (vs 6) = .pointer (some ⟨gl, 1, none⟩) := hR 6 (by omega)
    have h7 : (vs 7) = .int .i64 (m.frm : Int) := hR 7 (by omega)
    have h8 : (vs 8) = .pointer (some ⟨g5, 0, none⟩) := hR 8 (by omega)
    have h9 : (vs 9) = .int .u8 (R : Int) := hR 9 (by omega)
    have h10 : (vs 10) = .int .u8 (P : Int) := hR 10 (by omega)
    have h11 : (vs 11) = .int .i64 (P : Int) := hR 11 (by omega)
    have h12 : (vs 12) = .int .i64 (K : Int) := hR 12 (by omega)
    have h13 : (vs 13) = .agg #[.int .u8 (R : Int), .int .i64 (e : Int)] := hR 13 (by omega)
    have h14 : ∃ x, (vs 14) = .slice (some ⟨x, 0, none⟩) 64 64 ∧ q1.heap.size ≤ x ∧ Bs (fun b => b = x) p (some ⟨x, 0, none⟩) 64 64 (desB R e) := hR 14 (by omega)
    have h15 : (vs 15) = .int .i64 0 := hR 15 (by omega)
    clear hR
    simp only [List.range_succ, List.range_zero, List.nil_append, List.cons_append, Roll.putD, Act.put, List.getD_cons_zero, List.getD_cons_succ, List.setIfInBounds_toArray, List.set_cons_zero, List.set_cons_succ, List.drop_succ_cons, List.drop_zero, Ddc2]
    simp only [h0, h1, h2, h3, h4, h5, h6, h7, h8, h9, h10, h11, h12, h13, h15]
    clear h0 h1 h2 h3 h4 h5 h6 h7 h8 h9 h10 h11 h12 h13 h15
    have HL1 := Lib.hid hI.1
    clear hI h14
    generalize vs 14 = v14 at *
    obtain ⟨D1, hD1⟩ : ∃ D1, D1 = d.write K (desB R e) := ⟨_, rfl⟩
    rw [← hD1] at HL1
    have HD1 := Lib.hid hD1
    have hi1 : (stateO g5 R e :: L.set j (diskO g D1))[i + 1]? = some (logO gl g m) := by
      rw [List.getElem?_cons_succ, List.getElem?_set_ne (fun e => HIJ.out e.symm)]
      simpa using HI.out
    have hj1 : (stateO g5 R e :: L.set j (diskO g D1))[j + 1]? = some (diskO g D1) := by rw [List.getElem?_cons_succ, List.getElem?_set_self HJL.out]
    obtain ⟨_, _, -, -, hg1, d0, -, -, -, -, -, -, -, fz⟩ := HL1.out.logFacts hi1
    have HI1 := Lib.hid hi1
    have HJ1 := Lib.hid hj1
    have HO1 : Hid (D1.on = true) := Lib.hid (by rw [HD1.out, HK.out, HP.out, HR.out]; exact ho1)
    clear hD1 hi1 hj1 ho1
    go_upto_region 8 with (first
      | (have x1 := HL1.out; go_at_call 34; refine (flush_lv x1 HJ1.out HO1.out).mono ?_; rintro e w1 ⟨rfl, hl2⟩; have HL2 : Hid (Lv w0 w1 (stateO g5 R e :: (L.set j (diskO g D1)).set j (diskO g D1.flush))) := Lib.hid hl2; clear hl2 x1 HL1))
    obtain ⟨_, ⟨hz5, -⟩, -, -, -⟩ := HL2.out.get (i := 0) rfl
    have hi3 : (stateO g5 R e :: (L.set j (diskO g D1)).set j (diskO g D1.flush))[i + 1]? = some (logO gl g m) := by
      rw [List.getElem?_cons_succ, List.getElem?_set_ne (fun e => HIJ.out e.symm), List.getElem?_set_ne (fun e => HIJ.out e.symm)]
      simpa using HI.out
    obtain ⟨_, _, -, -, hg3, d0, d1, d2, d3, d4, -, -, -, fz⟩ := HL2.out.logFacts hi3
    have HTH : Hid (w1.there gl 3 2) := Lib.hid (fun j hj => by
      have : j = 0 ∨ j = 1 := by omega
      rcases this with rfl | rfl
      · exact ⟨by rw [d3]; rfl, fz _⟩
      · exact ⟨by rw [d4]; rfl, fz _⟩)
    have HL3 := Lib.hid (HL2.out.logState hi3 R e)
    have HZ5w := Lib.hid hz5
    clear hz5 d1 d2 d3 d4 hi3
    go_wp2_with (first
      | (refine wpList_load_row rfl 76 (.tmp 5) rfl g5 rfl 76 _ (0, 0) _ HZ5w.out Try.underlying76 rfl (sizeS _ _) ?_)
      | (refine wpList_store_mid rfl 76 (.tmp 46) (.tmp 44) rfl gl 3 _ rfl rfl HTH.out (sizeS _ _) (oneS _ _) ?_))
    go_ret
    refine ⟨rfl, ?_⟩
    have := HL3.out.tail
    rw [HD1.out, HK.out, HP.out, HR.out] at this
    rw [HR.out]
    simpa [List.set_set] using this
end
end Go.Proofs.Ythffegfcgmhppaa
namespace Go.Proofs.Ythffegfcgmhppaa
open Go.RowKit
set_option linter.unusedSimpArgs false
set_option linter.unusedVariables false
/-- new bytes in a block of their own -/
def NewBh (w : World) (l : List UInt8) (v : Value) (w' : World) : Prop := ∃ g, v = .slice (some ⟨g, 0, none⟩) l.length l.length ∧ w.heap.size ≤ g ∧ w'.heap[g]? = some (.cells (vals l).toArray 93 (0, 0)) ∧ Below w.heap.size w w'
section
variable {w : World} {g gd gm : Nat} {row : Nat → Option Nat} {N : Nat} {d : DM}
set_option maxRecDepth 100000 in
set_option maxHeartbeats 1000000 in
theorem read_okh (h : Dk w g gd gm row N d) (k : Nat) (hk : k < d.S.length) (ho : d.on = true) :
    Calls Try.prog 37 #[.pointer (some ⟨g, 0, none⟩), .int .i64 (k : Int)] w fun e w' => ∃ v, e = .returned (.tuple #[v, .int .i64 0]) ∧ NewBh w (lastB d.S[k]) v w' := by
  have hC := has_dk h (k : Int)
  rw [show hasB d (k : Int) = true by unfold hasB; rw [decide_eq_true]; omega] at hC
  have HC := Lib.hid hC
  obtain ⟨cap, h1, h2, c0, c1, c2, c3, f0⟩ := h.facts
  rw [ho] at c2
  obtain ⟨hd, hd64⟩ := h.durAt k hk
  have Hd := Lib.hid hd
  have Hd64 := Lib.hid hd64
  obtain ⟨hne, hsl, hs64⟩ := h.ok.2.2.2 _ (List.getElem_mem hk)
  have hn4 := h.ok.2.1
  obtain ⟨M, f, hm, hf, hr⟩ := h.map
  have hr := hr k hk
  have Hm := Lib.hid hm
  generalize d.S[k] = s at *
  have hlt := h.lt
  have hgm : gm < w.heap.size := hlt gm (.inr (.inr (.inl rfl)))
  have hg : g < w.heap.size := hlt g (.inl rfl)
  -- the world behind the copy of the durable bytes
  obtain ⟨w1, hw1⟩ : ∃ w1, w1 = (w.alloc (.cells Z64 93)).setRow w.heap.size (vals (dur s)).toArray := ⟨_, rfl⟩
  have hb1 : Below w.heap.size w w1 := by rw [hw1]; exact below_setRow ((Below.refl _ _).alloc (Nat.le_refl _) _) (Nat.le_refl _) _
  have hn1 : w1.heap[w.heap.size]? = some (.cells (vals (dur s)).toArray 93 (0, 0)) := by rw [hw1]; exact setRow_heap _ _ _ _ _ _ (heap_new rfl)
  have b0 := (hb1.cell (p := ⟨g, 1, none⟩) hg).trans c1
  have wfk : (Lit.int .i64 (k : Int)).wf = true := by exact WalkArith.wf_i64 (by omega)
  have hz : (zeroValue 87).run Try.prog w1 = .ok (.slice none 0 0) w1 := by kernel_rfl
  have hlk := (hm.kept (Kept.of_below (fun _ => False) hb1) (fun h => h)).look (P := Try.prog) (t := 88) (kt := 3) (et := 87) Try.underlying88 Try.underlying3 hz (k : Int) wfk false
  have Hb1 := Lib.hid hb1
  have Hn1 := Lib.hid hn1
  have Hw1 := Lib.hid hw1
  rcases hr with ⟨hp, hfk, hrow⟩ | ⟨hp, gk, v, hrow, hfk, hown⟩
  · rw [hfk] at hlk
    simp only [Bool.false_eq_true, if_false] at hlk
    have HL : Hid (lastB s = dur s) := Lib.hid (by
      match s, hp with
      | [x], _ => rfl
      | [], _ => exact absurd rfl hne)
    clear h hC ho hd hd64 hne hsl hs64 hm hf hlt hb1 hn1 hw1 hp hfk hrow hz wfk
    go_enter Try.func37, Try.ntmps37
    go_upto_region 6 with (first
      | (go_at_call 53; refine HC.out.mono ?_; rintro e w1 ⟨rfl, rfl⟩)
      | (refine wpList_alloc_z rfl 93 rfl Z64 93 run_alloc94 ?_)
      | (refine wpList_load_mid rfl 93 (.tmp 22) rfl gd (k * 64) rfl _ _ Hd.out Try.underlying93 rfl (size64v Hd64.out) ?_)
      | (refine wpList_store_row rfl 93 (.tmp 6) (.tmp 23) rfl w.heap.size _ rfl rfl 93 Z64 (heap_new rfl) (size64a Hd64.out) (by rw [cells64, List.size_toArray, vals_len, Hd64.out]) (one64 _) ?_))
    rw [← Hw1.out]
    go_wp2_with fail
    go_ret2
    refine ⟨_, rfl, w.heap.size, ?_, Nat.le_refl _, ?_, Hb1.out⟩
    · rw [HL.out, Hd64.out]; rfl
    · rw [HL.out]; exact Hn1.out
  · rw [hfk] at hlk
    simp only [Bool.false_eq_true, if_false] at hlk
    have hpl : 0 < s.tail.length := List.length_pos_iff.2 hp
    have ht64 : ∀ b ∈ s.tail, b.length = 64 := fun b hb => hs64 b (List.mem_of_mem_tail hb)
    obtain ⟨c, rfl, hc1, hc2, hat⟩ := (hown.kept (Kept.of_below (fun _ => False) hb1) (fun _ _ h => h)).secs ht64 rfl
    have hr2 := hat (s.tail.length - 1) (by omega)
    have hlast : s.tail[s.tail.length - 1] = lastB s := tail_last s hp (by omega)
    have hl64 : (lastB s).length = 64 := hs64 _ (lastB_mem hne)
    rw [hlast] at hr2
    have Hr2 := Lib.hid hr2
    have Hl64 := Lib.hid hl64
    have hb2 : Below w.heap.size w (w1.setRow w.heap.size (vals (lastB s)).toArray) := below_setRow hb1 (Nat.le_refl _) _
    have hn2 : (w1.setRow w.heap.size (vals (lastB s)).toArray).heap[w.heap.size]? = some (.cells (vals (lastB s)).toArray 93 (0, 0)) := setRow_heap _ _ _ _ _ _ hn1
    have Hb2 := Lib.hid hb2
    have Hn2 := Lib.hid hn2
    have hml : s.tail.length ≤ 9223372036854775807 := by omega
    have hpos : (0 : Int) < (s.tail.length : Int) := by omega
    clear h hC ho hd hd64 hne hsl hs64 hm hf hlt hb1 hn1 hw1 hfk hrow hz wfk hr hown hr2 hl64 hlast hb2 hn2 hat ht64 hp
    generalize s.tail.length = m at *
    go_enter Try.func37, Try.ntmps37
    go_upto_region 6 with (first
      | (go_at_call 53; refine HC.out.mono ?_; rintro e w1 ⟨rfl, rfl⟩)
      | (refine wpList_alloc_z rfl 93 rfl Z64 93 run_alloc94 ?_)
      | (refine wpList_load_mid rfl 93 (.tmp 22) rfl gd (k * 64) rfl _ _ Hd.out Try.underlying93 rfl (size64v Hd64.out) ?_)
      | (refine wpList_store_row rfl 93 (.tmp 6) (.tmp 23) rfl w.heap.size _ rfl rfl 93 Z64 (heap_new rfl) (size64a Hd64.out) (by rw [cells64, List.size_toArray, vals_len, Hd64.out]) (one64 _) ?_))
    rw [← Hw1.out]
    go_wp2_with (first
      | (refine wpList_load_mid rfl 93 (.tmp 37) rfl gk ((m - 1) * 64) rfl _ _ Hr2.out Try.underlying93 rfl (size64v Hl64.out) ?_)
      | (refine wpList_store_row rfl 93 (.tmp 6) (.tmp 38) rfl w.heap.size _ rfl rfl 93 _ Hn1.out (size64a Hl64.out) (by rw [List.size_toArray, List.size_toArray, vals_len, vals_len, Hd64.out, Hl64.out]) (one64 _) ?_))
    go_ret2
    refine ⟨_, rfl, w.heap.size, ?_, Nat.le_refl _, ?_, Hb2.out⟩
    · rw [Hl64.out]; rfl
    · exact Hn2.out
end
end Go.Proofs.Ythffegfcgmhppaa
namespace Go.Proofs.Ythffegfcgmhppaa
open Go.RowKit
set_option linter.unusedSimpArgs false
set_option linter.unusedVariables false
theorem info56 : (Try.prog.info? 30).map (fun i => (i.zero, i.size, i.bytes)) = some (some (.slice none 0 0), 1, 24) := by kernel_rfl
theorem info32 : (Try.prog.info? 32).map (fun i => (i.zero, i.size, i.bytes)) = some (some (.slice none 0 0), 1, 24) := by kernel_rfl
/-- the slice v, in block r, has these bytes; they lie in Bf -/
def InR (w : World) (Bf : Nat → Prop) (r : Nat) (v : Value) (s : List (List UInt8)) : Prop :=
  ∃ ys, Rw w 32 (some r) v s.length ys ∧ ∀ j (hj : j < s.length), ∃ a c, ys[j]? = some (.slice a 64 c) ∧ Bs Bf w a 64 c s[j]
theorem InR.kept {S Bf : Nat → Prop} {w w' : World} {r : Nat} {v : Value} {s : List (List UInt8)} (h : InR w Bf r v s) (hk : Kept S w w') (hr : ¬ S r) (hb : ∀ x, x < w.heap.size → Bf x → ¬ S x) : InR w' Bf r v s := by
  obtain ⟨ys, h1, h2⟩ := h
  refine ⟨ys, h1.kept hk (fun j hj => by cases hj; exact hr), fun j hj => ?_⟩
  obtain ⟨a, c, h3, h4⟩ := h2 j hj
  exact ⟨a, c, h3, h4.kept hk hb⟩
theorem InR.dom {Bf Bf' : Nat → Prop} {w : World} {r : Nat} {v : Value} {s : List (List UInt8)} (h : InR w Bf r v s) (hb : ∀ x, Bf x → Bf' x) : InR w Bf' r v s := by
  obtain ⟨ys, h1, h2⟩ := h
  exact ⟨ys, h1, fun j hj => by obtain ⟨a, c, h3, h4⟩ := h2 j hj; exact ⟨a, c, h3, h4.dom hb⟩⟩
/-- a struct of type ty in block g whose first field is a slice, for each sector a slice of slices of bytes -/
structure Trk (w : World) (ty : TypeId) (ext : List Value) (g : Nat) (gso : Option Nat) (vo : Value) (row : Nat → Nat) (Bf : Nat → Prop) (S : List (List (List UInt8))) : Prop where
  self : w.heap[g]? = some (.cells (vo :: ext).toArray ty (0, 0))
  outer : ∃ xs, Rw w 30 gso vo S.length xs ∧ ∀ k (hk : k < S.length), ∃ v, xs[k]? = some v ∧ InR w Bf (row k) v S[k]
  inj : ∀ i j, i < S.length → j < S.length → row i = row j → i = j
  ap1 : gso ≠ some g
  ap2 : ∀ i, i < S.length → row i ≠ g ∧ gso ≠ some (row i)
  bf : ¬ Bf g ∧ (∀ x, gso = some x → ¬ Bf x) ∧ ∀ i, i < S.length → ¬ Bf (row i)
  lt : ∀ x, Bf x → x < w.heap.size
def TBlk (g : Nat) (gso : Option Nat) (row : Nat → Nat) (Bf : Nat → Prop) (n : Nat) (x : Nat) : Prop := x = g ∨ gso = some x ∨ (∃ i, i < n ∧ row i = x) ∨ Bf x
theorem Trk.blk_lt {w : World} {ty : TypeId} {ext : List Value} {g : Nat} {gso : Option Nat} {vo : Value} {row : Nat → Nat} {Bf : Nat → Prop} {S : List (List (List UInt8))} (h : Trk w ty ext g gso vo row Bf S) : ∀ x, TBlk g gso row Bf S.length x → x < w.heap.size := by
  rintro x (rfl | hx | ⟨i, hi, rfl⟩ | hx)
  · exact (Array.getElem?_eq_some_iff.1 h.self).1
  · obtain ⟨xs, h1, _⟩ := h.outer
    exact h1.lt x hx
  · obtain ⟨xs, _, h2⟩ := h.outer
    obtain ⟨v, _, ys, h3, _⟩ := h2 i hi
    exact h3.lt _ rfl
  · exact h.lt x hx
theorem Trk.kept {B : Nat → Prop} {w w' : World} {ty : TypeId} {ext : List Value} {g : Nat} {gso : Option Nat} {vo : Value} {row : Nat → Nat} {Bf : Nat → Prop} {S : List (List (List UInt8))} (h : Trk w ty ext g gso vo row Bf S) (hk : Kept B w w') (hs : ∀ x, TBlk g gso row Bf S.length x → ¬ B x) : Trk w' ty ext g gso vo row Bf S := by
  obtain ⟨xs, h1, h2⟩ := h.outer
  refine ⟨hk.heap h.self (hs g (.inl rfl)), ⟨xs, h1.kept hk (fun j hj => hs j (.inr (.inl hj))), fun k hkl => ?_⟩, h.inj, h.ap1, h.ap2, h.bf, fun x hx => Nat.lt_of_lt_of_le (h.lt x hx) hk.size⟩
  obtain ⟨v, h3, h4⟩ := h2 k hkl
  exact ⟨v, h3, h4.kept hk (hs _ (.inr (.inr (.inl ⟨k, hkl, rfl⟩)))) (fun x _ hx => hs x (.inr (.inr (.inr hx))))⟩
/-- sector k gets another slice -/
theorem Trk.put {w : World} {ty : TypeId} {ext : List Value} {g : Nat} {gso : Option Nat} {vo : Value} {row : Nat → Nat} {Bf : Nat → Prop} {S : List (List (List UInt8))} (h : Trk w ty ext g gso vo row Bf S) {k : Nat} (hk : k < S.length) {w' : World} {r' : Nat} {v' : Value} {s' : List (List UInt8)} {Bf' : Nat → Prop}
    (hK : Kept (fun j => j = row k ∨ gso = some j) w w')
    (hO : ∀ xs, Rw w 30 gso vo S.length xs → Rw w' 30 gso vo S.length (xs.set k v'))
    (hI : InR w' Bf' r' v' s') (hr : r' = row k ∨ w.heap.size ≤ r')
    (hB : ∀ x, Bf x → Bf' x) (hB2 : ∀ x, Bf' x → Bf x ∨ (w.heap.size ≤ x ∧ x ≠ r')) (hBl : ∀ x, Bf' x → x < w'.heap.size) :
    Trk w' ty ext g gso vo (fun i => if i = k then r' else row i) Bf' (S.set k s') := by
  have hlt := h.blk_lt
  have hg : g < w.heap.size := hlt g (.inl rfl)
  have hrow : ∀ i, i < S.length → row i < w.heap.size := fun i hi => hlt _ (.inr (.inr (.inl ⟨i, hi, rfl⟩)))
  obtain ⟨xs, h1, h2⟩ := h.outer
  have hne : ∀ i, i < S.length → i ≠ k → row i ≠ r' := by
    intro i hi hik e
    rcases hr with hr | hr
    · exact hik (h.inj i k hi hk (e.trans hr))
    · have := hrow i hi; omega
  have nb : ∀ x, x < w.heap.size → (Bf' x → Bf x) := fun x hx hb => (hB2 x hb).resolve_right (fun e => by omega)
  refine ⟨hK.heap h.self ?_, ⟨xs.set k v', by rw [List.length_set]; exact hO xs h1, fun i hi => ?_⟩, fun i j hi hj e => ?_, h.ap1, fun i hi => ?_, ⟨fun hb => h.bf.1 (nb g hg hb), fun x hx hb => h.bf.2.1 x hx (nb x (h1.lt x hx) hb), fun i hi hb => ?_⟩, hBl⟩
  · rintro (e | e)
    · exact (h.ap2 k hk).1 e.symm
    · exact h.ap1 e
  · have hi2 : i < S.length := by rw [List.length_set] at hi; exact hi
    by_cases e : i = k
    · subst e
      refine ⟨v', ?_, ?_⟩
      · rw [List.getElem?_set, if_pos rfl, if_pos (by rw [h1.1]; exact hi2)]
      · simp only [if_true, List.getElem_set_self]
        exact hI
    · obtain ⟨v, h3, h4⟩ := h2 i hi2
      refine ⟨v, by rw [List.getElem?_set, if_neg (fun x => e x.symm)]; exact h3, ?_⟩
      rw [if_neg e, List.getElem_set_ne (fun x => e x.symm)]
      refine (h4.kept hK ?_ ?_).dom hB
      · rintro (e2 | e2)
        · exact e (h.inj i k hi2 hk e2)
        · exact (h.ap2 i hi2).2 e2
      · rintro x _ hx (e2 | e2)
        · subst e2; exact h.bf.2.2 k hk hx
        · exact h.bf.2.1 x e2 hx
  · rw [List.length_set] at hi hj
    by_cases e1 : i = k
    · by_cases e2 : j = k
      · rw [e1, e2]
      · simp only [if_pos e1, if_neg e2] at e
        exact absurd e.symm (hne j hj e2)
    · by_cases e2 : j = k
      · simp only [if_neg e1, if_pos e2] at e
        exact absurd e (hne i hi e1)
      · simp only [if_neg e1, if_neg e2] at e
        exact h.inj i j hi hj e
  · rw [List.length_set] at hi
    by_cases e : i = k
    · rw [if_pos e]
      rcases hr with hr | hr
      · rw [hr]; exact h.ap2 k hk
      · refine ⟨by omega, fun e2 => ?_⟩
        have := h1.lt _ e2
        omega
    · rw [if_neg e]; exact h.ap2 i hi
  · rw [List.length_set] at hi
    by_cases e : i = k
    · simp only [if_pos e] at hb
      rcases hr with hr | hr
      · rw [hr] at hb
        exact h.bf.2.2 k hk (nb _ (hrow k hk) hb)
      · rcases hB2 _ hb with hb | hb
        · have := h.lt _ hb; omega
        · exact hb.2 rfl
    · simp only [if_neg e] at hb
      exact h.bf.2.2 i hi (nb _ (hrow i hi) hb)
/-- the blocks stay, or are new -/
theorem TBlk.put {g : Nat} {gso : Option Nat} {row : Nat → Nat} {Bf Bf' : Nat → Prop} {n k r' z : Nat} (hk : k < n) (hr : r' = row k ∨ z ≤ r') (hB2 : ∀ x, Bf' x → Bf x ∨ (z ≤ x ∧ x ≠ r')) : ∀ x, TBlk g gso (fun i => if i = k then r' else row i) Bf' n x → TBlk g gso row Bf n x ∨ z ≤ x := by
  rintro x (rfl | hx | ⟨i, hi, rfl⟩ | hx)
  · exact .inl (.inl rfl)
  · exact .inl (.inr (.inl hx))
  · by_cases e : i = k
    · simp only [if_pos e]
      rcases hr with hr | hr
      · exact .inl (.inr (.inr (.inl ⟨k, hk, hr.symm⟩)))
      · exact .inr hr
    · simp only [if_neg e]
      exact .inl (.inr (.inr (.inl ⟨i, hi, rfl⟩)))
  · rcases hB2 x hx with hx | hx
    · exact .inl (.inr (.inr (.inr hx)))
    · exact .inr hx.1
/-- such a struct -/
def trackO (ty : TypeId) (ext : List Value) (g : Nat) (S : List (List (List UInt8))) : Obj := ⟨fun B w => ∃ gso vo row Bf, Trk w ty ext g gso vo row Bf S ∧ ∀ x, TBlk g gso row Bf S.length x → B x, fun {B S w w'} h hk hs => by
  obtain ⟨gso, vo, row, Bf, h1, h2⟩ := h
  exact ⟨gso, vo, row, Bf, h1.kept hk (fun x hx => hs x (h1.blk_lt x hx) (h2 x hx)), h2⟩⟩
/-- how it reads at sector k -/
theorem Trk.look {w : World} {ty : TypeId} {ext : List Value} {g : Nat} {gso : Option Nat} {vo : Value} {row : Nat → Nat} {Bf : Nat → Prop} {S : List (List (List UInt8))} (h : Trk w ty ext g gso vo row Bf S) {k : Nat} (hk : k < S.length) (hp : 0 < S[k].length) :
    ∃ gs so co ro rc, gso = some gs ∧ vo = .slice (some ⟨gs, so, none⟩) S.length co ∧ (S.length ≤ co ∧ co ≤ 9223372036854775807) ∧ (S[k].length ≤ rc ∧ rc ≤ 9223372036854775807) ∧ g < w.heap.size ∧ gs < w.heap.size ∧ row k < w.heap.size ∧
      w.cell? ⟨g, 0, none⟩ = some vo ∧ w.cell? ⟨gs, so + k, none⟩ = some (.slice (some ⟨row k, ro, none⟩) S[k].length rc) ∧
      InR w Bf (row k) (.slice (some ⟨row k, ro, none⟩) S[k].length rc) S[k] ∧
      ∀ j (hj : j < S[k].length), ∃ a c, w.cell? ⟨row k, ro + j, none⟩ = some (.slice a 64 c) ∧ Bs Bf w a 64 c S[k][j] := by
  obtain ⟨xs, h1, h2⟩ := h.outer
  obtain ⟨gs, so, co, rfl, rfl, e1, e2, e3, e4⟩ := h1.at (by omega)
  obtain ⟨v, hv, hin⟩ := h2 k hk
  have hin2 := hin
  obtain ⟨ys, h3, h5⟩ := hin
  obtain ⟨r, ro, rc, hr, rfl, f1, f2, f3, f4⟩ := h3.at hp
  obtain rfl : row k = r := Option.some.inj hr
  have hxk : k < xs.length := by rw [h1.1]; exact hk
  have hc := e4 k hxk
  rw [List.getElem?_eq_getElem hxk] at hv
  rw [Option.some.inj hv] at hc
  refine ⟨gs, so, co, ro, rc, rfl, rfl, ⟨e1, e2⟩, ⟨f1, f2⟩, (Array.getElem?_eq_some_iff.1 h.self).1, e3, f3, ?_, hc, hin2, fun j hj => ?_⟩
  · rw [cell_of_row w g 0 _ _ _ h.self]; rfl
  · obtain ⟨a, c, g1, g2⟩ := h5 j hj
    have hjl : j < ys.length := by rw [h3.1]; exact hj
    have := f4 j hjl
    rw [List.getElem?_eq_getElem hjl] at g1
    rw [Option.some.inj g1] at this
    exact ⟨a, c, this, g2⟩
end Go.Proofs.Ythffegfcgmhppaa
namespace Go.Proofs.Ythffegfcgmhppaa
open Go.RowKit
set_option linter.unusedSimpArgs false
set_option linter.unusedVariables false
theorem Bs.small {D : Nat → Prop} {w : World} {a : Option Addr} {n c : Nat} {l : List UInt8} (h : Bs D w a n c l) : Bs (fun x => D x ∧ x < w.heap.size) w a n c l := by
  obtain ⟨h1, h2, h3, h4, h5, h6⟩ := h
  refine ⟨h1, h2, h3, h4, h5, fun hn => ?_⟩
  obtain ⟨b, off, hD, ha, hr⟩ := h6 hn
  exact ⟨b, off, ⟨hD, range_lt hr (by rw [h2]; omega)⟩, ha, hr⟩
/-- a sector more -/
theorem Trk.push {w : World} {ty : TypeId} {ext : List Value} {g : Nat} {gso : Option Nat} {vo : Value} {row : Nat → Nat} {Bf : Nat → Prop} {S : List (List (List UInt8))} (h : Trk w ty ext g gso vo row Bf S) {xs : List Value} (hx : Rw w 30 gso vo S.length xs) (hin : ∀ k (hk : k < S.length), ∃ v, xs[k]? = some v ∧ InR w Bf (row k) v S[k])
    {w' : World} {gso' : Option Nat} {vo' v' : Value} {r : Nat} {s : List (List UInt8)} {Bf' : Nat → Prop}
    (hself : w'.heap[g]? = some (.cells (vo' :: ext).toArray ty (0, 0))) (hK : Kept (fun j => j = g ∨ gso = some j) w w')
    (hO : Rw w' 30 gso' vo' (S.length + 1) (xs ++ [v'])) (hI : InR w' Bf' r v' s)
    (hgs : ∀ j, gso' = some j → gso = some j ∨ w.heap.size ≤ j) (hr : w.heap.size ≤ r) (hgr : gso' ≠ some r)
    (hB : ∀ x, Bf x → Bf' x) (hB2 : ∀ x, Bf' x → Bf x ∨ (w.heap.size ≤ x ∧ x ≠ r ∧ gso' ≠ some x)) (hBl : ∀ x, Bf' x → x < w'.heap.size) :
    Trk w' ty ext g gso' vo' (fun i => if i = S.length then r else row i) Bf' (S ++ [s]) := by
  have hlt := h.blk_lt
  have hg : g < w.heap.size := hlt g (.inl rfl)
  have hrow : ∀ i, i < S.length → row i < w.heap.size := fun i hi => hlt _ (.inr (.inr (.inl ⟨i, hi, rfl⟩)))
  have hxl := hx.1
  have nb : ∀ x, x < w.heap.size → (Bf' x → Bf x) := fun x hx hb => (hB2 x hb).resolve_right (fun e => by omega)
  refine ⟨hself, ⟨xs ++ [v'], by rw [List.length_append]; exact hO, fun i hi => ?_⟩, fun i j hi hj e => ?_, fun e => ?_, fun i hi => ?_, ⟨fun hb => h.bf.1 (nb g hg hb), fun x hx2 hb => ?_, fun i hi hb => ?_⟩, hBl⟩
  · by_cases e : i = S.length
    · subst e
      refine ⟨v', ?_, ?_⟩
      · rw [List.getElem?_append_right (by omega), hxl, Nat.sub_self]; rfl
      · simp only [if_true, List.getElem_concat_length]
        exact hI
    · have hi2 : i < S.length := by rw [List.length_append, List.length_singleton] at hi; omega
      obtain ⟨v, h3, h4⟩ := hin i hi2
      refine ⟨v, by rw [List.getElem?_append_left (by omega)]; exact h3, ?_⟩
      rw [if_neg e, List.getElem_append_left hi2]
      refine (h4.kept hK ?_ ?_).dom hB
      · rintro (e2 | e2)
        · exact (h.ap2 i hi2).1 e2
        · exact (h.ap2 i hi2).2 e2
      · rintro x _ hx2 (e2 | e2)
        · subst e2; exact h.bf.1 hx2
        · exact h.bf.2.1 x e2 hx2
  · rw [List.length_append, List.length_singleton] at hi hj
    by_cases e1 : i = S.length
    · by_cases e2 : j = S.length
      · rw [e1, e2]
      · simp only [if_pos e1, if_neg e2] at e
        have := hrow j (by omega); omega
    · by_cases e2 : j = S.length
      · simp only [if_neg e1, if_pos e2] at e
        have := hrow i (by omega); omega
      · simp only [if_neg e1, if_neg e2] at e
        exact h.inj i j (by omega) (by omega) e
  · rcases hgs _ e with e | e
    · exact h.ap1 e
    · omega
  · rw [List.length_append, List.length_singleton] at hi
    by_cases e : i = S.length
    · simp only [if_pos e]
      exact ⟨by omega, hgr⟩
    · simp only [if_neg e]
      refine ⟨(h.ap2 i (by omega)).1, fun e2 => ?_⟩
      rcases hgs _ e2 with e2 | e2
      · exact (h.ap2 i (by omega)).2 e2
      · have := hrow i (by omega); omega
  · rcases hB2 x hb with hb | ⟨_, _, e⟩
    · rcases hgs _ hx2 with e | e
      · exact h.bf.2.1 x e hb
      · have := h.lt x hb; omega
    · exact e hx2
  · rw [List.length_append, List.length_singleton] at hi
    by_cases e : i = S.length
    · simp only [if_pos e] at hb
      rcases hB2 _ hb with hb | hb
      · have := h.lt _ hb; omega
      · exact hb.2.1 rfl
    · simp only [if_neg e] at hb
      exact h.bf.2.2 i (by omega) (nb _ (hrow i (by omega)) hb)
theorem run_bs56 (a : Option Addr) (n c : Nat) (W : World) : (Instr.buildSlice 30 1 #[(0, .slice a n c)]).run Try.prog W = .ok (.slice (some ⟨W.heap.size, 0, none⟩) 1 1) (W.alloc (.cells #[.slice a n c] 32)) := by kernel_rfl
theorem src_one {w : World} {g : Nat} {t tx e' : TypeId} {a : Option Addr} {n c : Nat} (hk : Try.prog.underlying tx = some (.slice e')) (hg : w.heap[g]? = some (.cells #[.slice a n c] t (0, 0))) : Src Try.prog 1 tx (.slice (some ⟨g, 0, none⟩) 1 1) 1 [.slice a n c] w :=
  Src.ofSlice w hk ⟨g, 0, none⟩ 1 1 [.slice a n c] rfl (fun j u hu => by rw [Addr.add_mid, Nat.zero_add, cell_of_row w g j _ _ _ hg]; simpa using hu) (by simp [Value.oneCell'])
section
variable {P : Program}
theorem goes_append_rw {o : Oper} {a1 : Act} {w : World} {T : Value → World → Prop} (hgd : o.guard = none) (s x : Operand) (t tx : TypeId)
    (ho : o.op = .call { callee := .builtin .append, args := #[s, x], argTypes := #[t, tx] })
    (e : TypeId) (i : TypeInfo) (z : Value) (bytes : Nat) (ht : P.underlying t = some (.slice e)) (hi : P.info? e = some i) (hz : i.zero = some z)
    (hsize : i.size = 1) (hby : i.bytes = bytes) (hzs : z.cells.size = 1) (k : Option Nat) (v : Value) (n : Nat) (xs : List Value) (hv : a1.eval s = v) (hown : Rw w e k v n xs)
    (X : Value) (hx : a1.eval x = X) (m : Nat) (news : List Value) (hs : Src P 1 tx X m news w) (h63 : n + m ≤ maxLen) (hbytes : (n + m) * bytes ≤ 140737488355328)
    (h : ∀ k' v' w', Rw w' e k' v' (n + m) (xs ++ news) → (∀ j, k' = some j → k = some j ∨ w.heap.size ≤ j) → Kept (fun j => k = some j) w w' → T v' w') : wpList P #[] (Roll.Post a1 o.dst T) [o] a1 w := by
  obtain ⟨k', v', w', hr, h2, h3, h4⟩ := run_append_rw (P := P) w t tx o.type e i z bytes ht hi hz hsize hby hzs k v n xs hown X m news hs h63 hbytes
  refine Roll.goes_val v' hgd ?_ (h k' v' w' h2 h3 h4)
  unfold execOp
  simp only [ho, resolve, invoke, builtin, Sem.run_bind, Sem.run_pure, Result.andThen_ok, List.map_toArray, List.map_cons, List.map_nil, hv, hx, hr]
end
end Go.Proofs.Ythffegfcgmhppaa
namespace Go.Proofs.Ythffegfcgmhppaa
open Go.RowKit
set_option linter.unusedSimpArgs false
set_option linter.unusedVariables false
def sliceLen : Value → Nat
  | .slice _ n _ => n
  | _ => 0
theorem joinB_cons (r : List UInt8) (rs : List (List UInt8)) : joinB (r :: rs) = UInt8.ofNat (r.length / 256) :: UInt8.ofNat r.length :: (r ++ joinB rs) := by simp [joinB]
/-- what is left of a slice -/
theorem Bs.past {D : Nat → Prop} {w : World} {b off n c : Nat} {l : List UInt8} (h : Bs D w (some ⟨b, off, none⟩) n c l) (m : Nat) (hm : m ≤ n) : Bs D w (some ⟨b, off + m, none⟩) (n - m) (c - m) (l.drop m) := by
  obtain ⟨h1, h2, h3, h4, h5, h6⟩ := h
  refine ⟨by rw [List.length_drop]; omega, ?_, by omega, by omega, (fun h => by cases h), fun hp => ?_⟩
  · rw [vals_len, List.length_drop]; omega
  · obtain ⟨b', off', hD, ha, hr⟩ := h6 (by omega)
    cases ha
    refine ⟨b, off + m, hD, rfl, fun j u hu => ?_⟩
    have := hr (m + j) u (by rw [vals_drop, List.getElem?_drop] at hu; exact hu)
    rwa [← Nat.add_assoc] at this
theorem below_drewN' (w : World) (n : Nat) : Below w.heap.size w (w.drewN n) := ⟨rfl, rfl, rfl, Nat.le_refl _, fun _ _ => rfl⟩
theorem Bs.empty (D : Nat → Prop) (w : World) (a : Option Addr) (c : Nat) (hc : c ≤ maxLen) (ha : a = none → c = 0) : Bs D w a 0 c [] := ⟨rfl, Sl.empty _ _ _ _ _ hc ha⟩
theorem info32' : (Try.prog.info? 32).map (fun i => (i.zero, i.size, i.bytes)) = some (some (.slice none 0 0), 1, 24) := by kernel_rfl
set_option maxRecDepth 100000 in
set_option maxHeartbeats 2000000 in
theorem split_any (Z : Nat → Prop) (a : Option Addr) (n c : Nat) (rs : List (List UInt8)) (w : World) (hB : Bs Z w a n c (joinB rs)) (h64 : ∀ r ∈ rs, r.length < 65536) (hb : lenB rs ≤ 1000000) :
    Calls Try.prog 48 #[.slice a n c] w fun e w' => ∃ v k, e = .returned (.tuple #[v, .bool true]) ∧ Recs w' k (fun x => Z x ∧ x < w.heap.size) v rs ∧ (∀ x, k = some x → w.heap.size ≤ x) ∧ Below w.heap.size w w' := by
  have HB := Lib.hid hB.small
  have H64 := Lib.hid h64
  have HLB := Lib.hid hb
  obtain ⟨Y, hY⟩ : ∃ Y : Nat → Prop, Y = fun x => Z x ∧ x < w.heap.size := ⟨_, rfl⟩
  rw [← hY] at HB ⊢
  have HY : Hid (∀ x, Y x → x < w.heap.size) := Lib.hid (fun x hx => by rw [hY] at hx; exact hx.2)
  have HN : Hid (rs.length ≤ 1000000) := Lib.hid (by
    have : ∀ rs : List (List UInt8), rs.length ≤ lenB rs := by
      intro rs
      induction rs with
      | nil => exact Nat.le_refl _
      | cons r rs ih => simp only [lenB, List.map_cons, List.sum_cons, List.length_cons] at ih ⊢; omega
    exact Nat.le_trans (this rs) hb)
  clear hB h64 hb hY
  go_enter Try.func48, Try.ntmps48
  go_wp2_with fail
  go_loopw [0, 4] (fun u t wr => ∃ (i : Nat) (v0 : Value) (a' : Option Addr) (n' c' : Nat) (k : Option Nat), i ≤ rs.length ∧ u = .slice a' n' c' ∧ v0 = t ∧ Bs Y w a' n' c' (joinB (rs.drop i)) ∧ Recs wr k Y v0 (rs.take i) ∧ (∀ x, k = some x → w.heap.size ≤ x) ∧ Below w.heap.size w wr) (fun u _ _ => sliceLen u)
  case atStart => exact ⟨0, _, _, _, _, none, Nat.zero_le _, rfl, rfl, HB.out, (Recs.nil w).dom (fun _ h => h.elim), (fun _ h => by cases h), Below.refl _ _⟩
  case round =>
    obtain ⟨i, v0, a', n', c', k, hi, rfl, hv0, hbs, hrec, hkn, hbl⟩ := hrel
    subst hv0
    by_cases hlt : i < rs.length
    · obtain ⟨r, hr⟩ : ∃ r, r = rs[i] := ⟨_, rfl⟩
      have hdr : joinB (rs.drop i) = UInt8.ofNat (r.length / 256) :: UInt8.ofNat r.length :: (r ++ joinB (rs.drop (i + 1))) := by
        rw [List.drop_eq_getElem_cons hlt, joinB_cons, hr]
      obtain ⟨R, hR⟩ : ∃ R, R = r.length := ⟨_, rfl⟩
      obtain ⟨rest, hrest⟩ : ∃ rest, rest = joinB (rs.drop (i + 1)) := ⟨_, rfl⟩
      rw [← hR, ← hrest] at hdr
      have hR64 : R < 65536 := by rw [hR]; exact H64.out r (by rw [hr]; exact List.getElem_mem _)
      rw [hdr] at hbs
      have hn' : n' = R + 2 + rest.length := by have := hbs.1; simp only [List.length_cons, List.length_append, ← hR] at this; omega
      have hc1 : n' ≤ c' := hbs.2.2.1
      have hc2 : c' ≤ 9223372036854775807 := hbs.2.2.2.1
      obtain ⟨b, off, hD, hbw, rfl, hcell⟩ := hbs.cells (by omega)
      obtain ⟨U, hU⟩ : ∃ U, U = R + 2 := ⟨_, rfl⟩
      obtain ⟨RH, hRH⟩ : ∃ RH, RH = R / 256 := ⟨_, rfl⟩
      obtain ⟨RL, hRL⟩ : ∃ RL, RL = R % 256 := ⟨_, rfl⟩
      have hor := or_two RH RL (by omega) (by omega)
      have hor2 : RH * 256 + RL = R := by omega
      rw [hor2] at hor
      have e0 : w.cell? ⟨b, off, none⟩ = some (.int .u8 (RH : Int)) := by
        have := hcell 0 (by simp)
        rw [Nat.add_zero] at this
        rw [this]
        have : R / 256 % 256 = R / 256 := by omega
        simp only [List.getElem_cons_zero, u8_ofNat, this, hRH]
      have e1 : w.cell? ⟨b, off + 1, none⟩ = some (.int .u8 (RL : Int)) := by
        have := hcell 1 (by simp)
        rw [this]
        simp only [List.getElem_cons_succ, List.getElem_cons_zero, u8_ofNat, hRL]
      have f0 : wr.cell? ⟨b, off, none⟩ = some (.int .u8 (RH : Int)) := (hbl.cell (p := ⟨b, off, none⟩) hbw).trans e0
      have f1 : wr.cell? ⟨b, off + 1, none⟩ = some (.int .u8 (RL : Int)) := (hbl.cell (p := ⟨b, off + 1, none⟩) hbw).trans e1
      have hw1 : IntKind.i64.wrap (RH : Int) = (RH : Int) := i64_id _ (by omega) (by omega)
      have hw2 : IntKind.i64.wrap (RL : Int) = (RL : Int) := i64_id _ (by omega) (by omega)
      have hw3 : IntKind.i64.wrap ((RH : Int) * 256) = (RH : Int) * 256 := i64_id _ (by omega) (by omega)
      have hw4 : IntKind.i64.wrap (2 + (R : Int)) = (U : Int) := by rw [i64_id _ (by omega) (by omega)]; omega
      have hp : (0 : Int) < (n' : Int) := by omega
      have hp2 : (2 : Int) ≤ (n' : Int) := by omega
      have hUn : (U : Int) ≤ (n' : Int) := by omega
      have hUc : (U : Int) ≤ (c' : Int) := by omega
      have hU2 : (2 : Int) ≤ (U : Int) := by omega
      have HBS := Lib.hid hbs
      have HREC := Lib.hid hrec
      have HKN := Lib.hid hkn
      have HBL := Lib.hid hbl
      have HR := Lib.hid hR
      have HU := Lib.hid hU
      have HRr := Lib.hid hr
      have HRest := Lib.hid hrest
      have HN' := Lib.hid hn'
      clear hbs hrec hkn hbl hdr hr hrest e0 e1 hcell hor2 hRH hRL hR hU hn'
      go_wp2_with fail
      go_quiet (fail)
      have hbs56 := run_bs56
      obtain ⟨A2, hA2⟩ : ∃ A2 : Option Addr, A2 = if c' = 2 then some ⟨b, off, none⟩ else some ⟨b, off + 2, none⟩ := ⟨_, rfl⟩
      obtain ⟨AU, hAU⟩ : ∃ AU : Option Addr, AU = if c' = U then some ⟨b, off, none⟩ else some ⟨b, off + U, none⟩ := ⟨_, rfl⟩
      have HA2 : Hid (Bs Y w A2 (U - 2) (c' - 2) r) := Lib.hid (by
        have hcl := HBS.out.2.2.2.1
        have eU : U - 2 = R := by have := HU.out; omega
        rw [hA2, eU]
        split
        · rename_i e
          have hr0 : R = 0 := by have := HU.out; omega
          have : r = [] := List.eq_nil_of_length_eq_zero (by have := HR.out; omega)
          rw [this, hr0]
          exact Bs.empty _ _ _ _ (by omega) (fun h => by cases h)
        · have := (HBS.out.upto U (by omega)).past 2 (by have := HU.out; omega)
          rw [eU] at this
          have e2 : (List.take U (UInt8.ofNat (R / 256) :: UInt8.ofNat R :: (r ++ rest))).drop 2 = r := by
            rw [HU.out, List.take_succ_cons, List.take_succ_cons, List.drop_succ_cons, List.drop_succ_cons, List.drop_zero, List.take_append_of_le_length (by have := HR.out; omega), List.take_of_length_le (by have := HR.out; omega)]
          rw [e2] at this
          exact this)
      have HAU : Hid (Bs Y w AU (n' - U) (c' - U) (joinB (rs.drop (i + 1)))) := Lib.hid (by
        have hcl := HBS.out.2.2.2.1
        rw [hAU, ← HRest.out]
        split
        · rename_i e
          have hr0 : rest.length = 0 := by have := HU.out; have := HN'.out; omega
          have : rest = [] := List.eq_nil_of_length_eq_zero hr0
          rw [this, show n' - U = 0 by omega]
          exact Bs.empty _ _ _ _ (by omega) (fun h => by cases h)
        · have := HBS.out.past U (by omega)
          have e2 : (UInt8.ofNat (R / 256) :: UInt8.ofNat R :: (r ++ rest)).drop U = rest := by
            rw [HU.out, List.drop_succ_cons, List.drop_succ_cons, List.drop_append, List.drop_of_length_le (by have := HR.out; omega), List.nil_append, show R - r.length = 0 by have := HR.out; omega, List.drop_zero]
          rw [e2] at this
          exact this)
      obtain ⟨ys, hys, hyj⟩ := HREC.out
      have htl : (rs.take i).length = i := by rw [List.length_take]; omega
      rw [htl] at hys
      obtain ⟨W1, hW1⟩ : ∃ W1, W1 = (wr.drewN nq).alloc (.cells #[.slice A2 (U - 2) (c' - 2)] 32) := ⟨_, rfl⟩
      have hbW : Below wr.heap.size wr W1 := by rw [hW1]; exact (below_drewN' wr nq).alloc (Nat.le_refl _) _
      have HYS : Hid (Rw W1 32 k v0 i ys) := Lib.hid (hys.kept (Kept.of_below (fun _ => False) hbW) (fun _ _ h => h))
      have HYJ := Lib.hid hyj
      have HYL := Lib.hid hys.1
      have HSRC : Hid (Src Try.prog 1 30 (.slice (some ⟨wr.heap.size, 0, none⟩) 1 1) 1 [.slice A2 (U - 2) (c' - 2)] W1) := Lib.hid (src_one Try.underlying30 (by rw [hW1]; exact heap_new rfl))
      have HBW : Hid (Below wr.heap.size wr W1) := Lib.hid hbW
      have HW1 := Lib.hid hW1
      have HA2E := Lib.hid hA2
      have HAUE := Lib.hid hAU
      clear hys hyj hA2 hAU hW1 hbW htl
      obtain ⟨i0, ji, jz0, jz1, jz2⟩ := info_parts info32'
      go_upto_region 9 with (first
        | (at_builtin; rw [← HA2E.out]; rw [← HW1.out]; refine wpList_append_rw _ rfl (.tmp 27) (.tmp 31) 30 30 rfl 32 i0 (.slice none 0 0) 24 Try.underlying30 ji jz0 jz1 jz2 rfl k v0 i ys rfl HYS.out 1 _ HSRC.out (by have := HN.out; unfold maxLen; omega) (by have := HN.out; omega) ?_; intro k2 v2 w2 g1 g2 g3; have G1 := Lib.hid g1; have G2 := Lib.hid g2; have G3 := Lib.hid g3; clear g1 g2 g3 HYS HSRC))
      go_wp2_with fail
      rw [← HAUE.out]
      go_roundw
      case rel =>
        refine ⟨i + 1, _, AU, n' - U, c' - U, k2, by omega, rfl, rfl, HAU.out, ⟨ys ++ [.slice A2 (U - 2) (c' - 2)], ?_, fun j hj => ?_⟩, fun x hx => ?_, ?_⟩
        · rw [show (rs.take (i + 1)).length = i + 1 by rw [List.length_take]; omega]
          exact G1.out
        · have hj2 : j < i + 1 := by rw [List.length_take] at hj; omega
          have hyl : ys.length = i := HYL.out
          have hyj := HYJ.out
          have htl : (rs.take i).length = i := by rw [List.length_take]; omega
          simp only [List.getElem_take]
          by_cases e : j < i
          · obtain ⟨a3, c3, h3, h4⟩ := hyj j (by omega)
            rw [List.getElem_take] at h3 h4
            have hb3 : Below wr.heap.size wr W1 := HBW.out
            exact ⟨a3, c3, by rw [List.getElem?_append_left (by omega)]; exact h3, (h4.kept (Kept.of_below (fun _ => False) hb3) (fun _ _ _ h => h)).kept G3.out (fun x _ hx hk => by have := HY.out x hx; have := HKN.out x hk; omega)⟩
          · obtain rfl : j = i := by omega
            refine ⟨A2, c' - 2, ?_, ?_⟩
            · rw [List.getElem?_append_right (by omega), hyl, Nat.sub_self, ← HRr.out, ← HR.out, show R = U - 2 by have := HU.out; omega]
              rfl
            · rw [← HRr.out, ← HR.out, show R = U - 2 by have := HU.out; omega]
              exact HA2.out.kept ((Kept.of_below (fun j => k = some j) (HBL.out.trans (HBW.out.mono HBL.out.size))).trans G3.out (fun _ _ h => h)) (fun x _ hx hk => by have := HY.out x hx; have := HKN.out x hk; omega)
        · rcases G2.out x hx with e | e
          · exact HKN.out x e
          · have := HBL.out.size; have := HBW.out.size; omega
        · exact (HBL.out.trans (HBW.out.mono HBL.out.size)).trans (G3.out.below (Nat.le_trans HBL.out.size HBW.out.size) (fun j hj e => by have := HKN.out j e; omega))
      case measure => simp [sliceLen]; omega
    · obtain rfl : i = rs.length := by omega
      have e1 : rs.take rs.length = rs := List.take_of_length_le (Nat.le_refl _)
      have e2 : joinB (rs.drop rs.length) = [] := by rw [List.drop_of_length_le (Nat.le_refl _)]; rfl
      rw [e1] at hrec
      rw [e2] at hbs
      obtain rfl : n' = 0 := by have := hbs.1; simpa using this.symm
      have HREC := Lib.hid hrec
      have HKN := Lib.hid hkn
      have HBL := Lib.hid hbl
      clear hbs hrec hkn hbl e1 e2 hi hlt
      go_wp2
      go_ret2
      exact ⟨_, k, rfl, HREC.out, HKN.out, HBL.out⟩
end Go.Proofs.Ythffegfcgmhppaa
namespace Go.Proofs.Ythffegfcgmhppaa
open Go.RowKit
set_option linter.unusedSimpArgs false
set_option linter.unusedVariables false
/-- bytes are written into a sector from a place on -/
def putB (s b : List UInt8) (o : Nat) : List UInt8 := s.take o ++ (b.take (64 - o) ++ s.drop (o + (b.take (64 - o)).length))
theorem putB_len (s b : List UInt8) (o : Nat) (hs : s.length = 64) (ho : o < 64) : (putB s b o).length = 64 := by
  simp only [putB, List.length_append, List.length_take, List.length_drop]; omega
/-- bytes are written into a region from a place on -/
def wrD (frm : Nat) : Nat → DM → Nat → List UInt8 → Int × DM
  | 0, d, _, _ => (0, d)
  | f + 1, d, at', b => if b = [] then (0, d) else if d.on then wrD frm f (d.write (frm + at' / 64) (putB (lastB (d.S.getD (frm + at' / 64) [])) b (at' % 64))) (at' + (b.take (64 - at' % 64)).length) (b.drop (b.take (64 - at' % 64)).length) else (10, d)
theorem wrD_nil (frm f : Nat) (d : DM) (a : Nat) : wrD frm f d a [] = (0, d) := by
  cases f with
  | zero => rfl
  | succ f => simp [wrD]
section
variable {w0 w : World} {L : List Obj} {gl g i j t : Nat} {m : LM} {d : DM}
set_option maxRecDepth 100000 in
set_option maxHeartbeats 4000000 in
theorem write_log (h : Lv w0 w L) (hi : L[i]? = some (logO gl g m)) (hj : L[j]? = some (diskO g d)) (hij : i ≠ j) {a : Option Addr} {n c : Nat} {b : List UInt8} (ht : L[t]? = some (bytesO (.slice a n c) b)) (htj : t ≠ j) (A0 : Nat) (hA : A0 ≤ 1000000) (hn : n ≤ 50000) (hr : m.frm * 64 + A0 + n ≤ d.S.length * 64) (hN : d.Ok 40000) :
    Calls Try.prog 45 #[.pointer (some ⟨gl, 0, none⟩), .int .i64 (A0 : Int), .slice a n c] w fun x w' => x = .returned (.int .i64 (wrD m.frm n d A0 b).1) ∧ Lv w0 w' (L.set j (diskO g (wrD m.frm n d A0 b).2)) := by
  have hS := (h.ok hj).2.1
  obtain ⟨_, ⟨a1, c1, e1, hb1⟩, -, -, -⟩ := h.get ht
  have hbl : b.length = n := by injection e1 with _ e _; exact e.symm
  rw [hbl] at e1 hb1
  cases e1
  have hc1 : n ≤ c := hb1.2.2.1
  have hc2 : c ≤ 9223372036854775807 := hb1.2.2.2.1
  have HBL := Lib.hid hbl
  have HR := Lib.hid hr
  have HN := Lib.hid hN
  have HL0 := Lib.hid h
  have HI := Lib.hid hi
  have HJ := Lib.hid hj
  have HT := Lib.hid ht
  have HIJ := Lib.hid hij
  have HTJ := Lib.hid htj
  have HS := Lib.hid hS
  have HJL := Lib.hid (List.getElem?_eq_some_iff.1 hj).1
  have HSelf : Hid (L.set j (diskO g d) = L) := Lib.hid (by
    obtain ⟨hlt, he⟩ := List.getElem?_eq_some_iff.1 hj
    rw [← he]; exact List.set_getElem_self hlt)
  clear hi hj ht hij htj hr hN hS hb1 h hbl
  go_enter Try.func45, Try.ntmps45
  go_wp2_with fail
  go_loopw [1, 2] (fun u v wr => ∃ (p : Nat) (d' : DM) (f : Nat) (a' : Option Addr), p ≤ n ∧ u = .int .i64 ((A0 + p : Nat) : Int) ∧ v = .slice a' (n - p) (c - p) ∧ (∀ (D : Nat → Prop) (W : World), Bs D W a n c b → Bs D W a' (n - p) (c - p) (b.drop p)) ∧ Lv w0 wr (L.set j (diskO g d')) ∧ wrD m.frm f d' (A0 + p) (b.drop p) = wrD m.frm n d A0 b ∧ n - p ≤ f ∧ d'.S.length = d.S.length ∧ d'.Ok (40000 + p)) (fun _ v _ => sliceLen v)
  case atStart => exact ⟨0, d, n, a, Nat.zero_le _, rfl, rfl, fun D W hb => hb, by rw [HSelf.out]; exact HL0.out, rfl, by omega, rfl, HN.out⟩
  case round =>
    obtain ⟨p, d', f, a', hp, rfl, rfl, hT, hL, hwr, hf, hlen, hok⟩ := hrel
    obtain ⟨at0, hat⟩ : ∃ at0, at0 = A0 + p := ⟨_, rfl⟩
    rw [← hat] at hwr ⊢
    obtain ⟨n1, hn1⟩ : ∃ n1, n1 = n - p := ⟨_, rfl⟩
    obtain ⟨c1, hc1'⟩ : ∃ c1, c1 = c - p := ⟨_, rfl⟩
    rw [← hn1] at hf hT
    rw [← hc1'] at hT
    rw [← hn1, ← hc1']
    obtain ⟨b1, hb1⟩ : ∃ b1, b1 = b.drop p := ⟨_, rfl⟩
    rw [← hb1] at hwr hT
    have hb1l : b1.length = n1 := by rw [hb1, List.length_drop, HBL.out, hn1]
    by_cases hlt : 0 < n1
    · have hpos : (0 : Int) < (n1 : Int) := by omega
      have hjL : (L.set j (diskO g d'))[j]? = some (diskO g d') := List.getElem?_set_self HJL.out
      have hiL : (L.set j (diskO g d'))[i]? = some (logO gl g m) := by rw [List.getElem?_set_ne (fun e => HIJ.out e.symm)]; exact HI.out
      have htL : (L.set j (diskO g d'))[t]? = some (bytesO (.slice a n c) b) := by rw [List.getElem?_set_ne (fun e => HTJ.out e.symm)]; exact HT.out
      obtain ⟨_, _, -, -, hgl, q0, q1, -, -, -, -, -, -, -⟩ := hL.logFacts hiL
      obtain ⟨BD, ⟨gd, gm, row, NN, hd, hBB⟩, -, -, -⟩ := hL.get hjL
      obtain ⟨BT, ⟨a2, c2', e2, hbt⟩, -, -, -⟩ := hL.get htL
      rw [HBL.out] at e2 hbt
      cases e2
      have hbs := hT _ _ hbt
      obtain ⟨K, hK⟩ : ∃ K, K = m.frm + at0 / 64 := ⟨_, rfl⟩
      obtain ⟨Q, hQ⟩ : ∃ Q, Q = at0 / 64 := ⟨_, rfl⟩
      obtain ⟨O, hO⟩ : ∃ O, O = at0 % 64 := ⟨_, rfl⟩
      have hKl : K < d'.S.length := by rw [hlen]; have := HR.out; omega
      have hO64 : O < 64 := by omega
      have hS' := HS.out
      have hqt : Int.tdiv (at0 : Int) 64 = (Q : Int) := by rw [Int.tdiv_eq_ediv_of_nonneg (by omega)]; omega
      have hqw : IntKind.i64.wrap (Q : Int) = (Q : Int) := i64_id _ (by omega) (by omega)
      have hkw : IntKind.i64.wrap ((m.frm : Int) + (Q : Int)) = (K : Int) := by rw [i64_id _ (by omega) (by omega)]; omega
      have hot : Int.tmod (at0 : Int) 64 = (O : Int) := by rw [Int.tmod_eq_emod_of_nonneg (by omega)]; omega
      have how : IntKind.i64.wrap (O : Int) = (O : Int) := i64_id _ (by omega) (by omega)
      have HJ1 := Lib.hid hjL
      have HI1 := Lib.hid hiL
      have HT1 := Lib.hid htL
      have HL := Lib.hid hL
      have HD := Lib.hid hd
      have HBS := Lib.hid hbs
      have HTT := Lib.hid hT
      have HWR := Lib.hid hwr
      have HKl := Lib.hid hKl
      have HOK := Lib.hid hok
      have HLEN := Lib.hid hlen
      have HB1 := Lib.hid hb1
      have HB1L := Lib.hid hb1l
      have HKH : Hid (hasB d' (K : Int) = true) := Lib.hid (by unfold hasB; rw [decide_eq_true]; omega)
      have HKE := Lib.hid hK
      have HQE := Lib.hid hQ
      have HOE := Lib.hid hO
      have HAT := Lib.hid hat
      have HN1 := Lib.hid hn1
      have HC1 := Lib.hid hc1'
      cases hon : d'.on with
      | false =>
        have HON := Lib.hid hon
        clear hL hd hbs hT hwr hok hlen hjL hiL htL hbt hBB hK hQ hO hat hn1 hc1' hb1 hb1l hon hKl
        go_wp2_with (first
          | (go_at_call 37; refine (read_lv_off HL.out HJ1.out (K : Int) HKH.out HON.out).mono ?_; rintro e w2 ⟨rfl, rfl⟩))
        go_ret
        have hne : b1 ≠ [] := by intro e; have := HB1L.out; rw [e] at this; simp at this; omega
        have hw2 := HWR.out
        obtain ⟨f', rfl⟩ : ∃ f', f = f' + 1 := ⟨f - 1, by omega⟩
        rw [wrD, if_neg hne, HON.out] at hw2
        rw [← hw2]
        exact ⟨rfl, HL.out⟩
      | true =>
        have HON := Lib.hid hon
        obtain ⟨bb, bo, -, hbw, rfl, hcell⟩ := hbs.cells (by omega)
        obtain ⟨bi, hbi⟩ : ∃ bi, bi = b1.take (64 - O) := ⟨_, rfl⟩
        obtain ⟨CN, hCN⟩ : ∃ CN, CN = bi.length := ⟨_, rfl⟩
        have hCN1 : CN = Nat.min n1 (64 - O) := by
          rw [hCN, hbi, List.length_take, hb1l]
          show min (64 - O) n1 = min n1 (64 - O)
          omega
        have hCN2 : CN ≤ n1 := by rw [hCN1]; exact Nat.min_le_left _ _
        have hCN3 : CN ≤ 64 - O := by rw [hCN1]; exact Nat.min_le_right _ _
        have hCN4 : 0 < CN := by rw [hCN1]; show 0 < min n1 (64 - O); omega
        have HVL : Hid ((vals bi).length = CN) := Lib.hid (by rw [vals_len, hCN])
        have HCN1 : Hid ((vals bi).length = Nat.min n1 (64 - O)) := Lib.hid (by rw [vals_len, ← hCN, hCN1])
        have HSRC : Hid (∀ j v, (vals bi)[j]? = some v → wr.cell? ((⟨bb, bo, none⟩ : Addr).add j) = some v) := Lib.hid (fun j v hv => by
          have hjl : j < bi.length := by have := (List.getElem?_eq_some_iff.1 hv).1; rwa [vals_len] at this
          have hjb : j < b1.length := by rw [hb1l]; omega
          rw [Addr.add_mid, hcell j hjb]
          have e2 : (vals bi)[j]? = some (.int .u8 (bi[j].toNat : Int)) := by simp [vals, hjl]
          rw [e2] at hv
          have e3 : bi[j] = b1[j] := by simp only [hbi, List.getElem_take]
          rw [← e3]; exact hv)
        obtain ⟨sb, hsb⟩ : ∃ sb, sb = lastB (d'.S[K]'hKl) := ⟨_, rfl⟩
        have hd64 := (hL.ok hjL).2.2.2 _ (List.getElem_mem hKl)
        have hsl : sb.length = 64 := by rw [hsb]; exact hd64.2 _ (lastB_mem hd64.1)
        have HSB : Hid (∀ h, lastB (d'.S[K]'h) = sb) := Lib.hid (fun _ => hsb.symm)
        have HSG : Hid (lastB (d'.S.getD K []) = sb) := Lib.hid (by rw [List.getD_eq_getElem?_getD, List.getElem?_eq_getElem hKl, Option.getD_some, hsb])
        have HSL := Lib.hid hsl
        have HPL : Hid ((putB sb b1 O).length = 64) := Lib.hid (putB_len _ _ _ hsl hO64)
        have HFIT : Hid (O + (vals bi).length ≤ (vals sb).toArray.size) := Lib.hid (by rw [List.size_toArray, vals_len, vals_len, hsl, ← hCN]; omega)
        have HPUT : Hid (((vals sb).toArray.toList.take O ++ (vals bi ++ (vals sb).toArray.toList.drop (O + (vals bi).length))) = vals (putB sb b1 O)) := Lib.hid (by
          rw [vals_len]
          unfold putB
          rw [vals_app, vals_app, vals_take, vals_drop, ← hbi])
        have hne64 : ¬ (64 = O) := by omega
        have hO2 : (O : Int) ≤ 64 := by omega
        have hwa : IntKind.i64.wrap ((at0 : Int) + (CN : Int)) = ((at0 + CN : Nat) : Int) := by rw [i64_id _ (by omega) (by omega)]; omega
        have hCNi : (CN : Int) ≤ (n1 : Int) := by omega
        have hCNc : (CN : Int) ≤ (c1 : Int) := by omega
        have HBW := Lib.hid hbw
        have HCN := Lib.hid hCN
        have HBI := Lib.hid hbi
        clear hL hd hbs hT hwr hok hlen hjL hiL htL hbt hBB hK hQ hO hat hn1 hc1' hb1 hb1l hon hcell hbw hCN hCN1 hbi hsb hd64 hsl
        go_upto_region 6 with (first
          | (go_at_call 37; refine (read_okh HD.out K HKl.out HON.out).mono ?_; rintro e w2 ⟨v2, rfl, x, rfl, hx, hhx, hb2⟩; rw [HSB.out] at hhx ⊢; rw [HSL.out]; have HX := Lib.hid hx; have HHX := Lib.hid hhx; have HB2 := Lib.hid hb2; clear hx hhx hb2))
        have HS2 : Hid (∀ j v, (vals bi)[j]? = some v → w2.cell? ((⟨bb, bo, none⟩ : Addr).add j) = some v) := Lib.hid (fun j v hv => by
          have := HSRC.out j v hv
          rw [Addr.add_mid] at this ⊢
          exact (HB2.out.cell (p := ⟨bb, bo + j, none⟩) HBW.out).trans this)
        go_upto_region 7 with (first
          | (refine wpList_copy_own rfl (.tmp 37) (.tmp 38) 32 32 rfl 5 Try.underlying32 (by kernel_rfl) x O (64 - O) (64 - O) ⟨bb, bo, none⟩ n1 c1 rfl rfl (vals sb).toArray 93 HHX.out (vals bi) HCN1.out HS2.out HFIT.out (vals_one bi) ?_; rw [HPUT.out, HVL.out]; change wpList _ _ _ _ (Act.put _ _ (.int .i64 (CN : Int))) _))
        obtain ⟨w3, hw3⟩ : ∃ w3, w3 = w2.setRow x (vals (putB sb b1 O)).toArray := ⟨_, rfl⟩
        rw [← hw3]
        have hb3 : Below wr.heap.size wr w3 := by rw [hw3]; exact below_setRow HB2.out HX.out _
        have HL3 : Hid (Lv w0 w3 (L.set j (diskO g d'))) := Lib.hid (HL.out.below hb3)
        have HBX : Hid (Bs (fun b => b = x) w3 (some ⟨x, 0, none⟩) 64 64 (putB sb b1 O)) := Lib.hid (by
          have h3 : w3.heap[x]? = some (.cells (vals (putB sb b1 O)).toArray 93 (0, 0)) := by rw [hw3]; exact setRow_heap _ _ _ _ _ _ HHX.out
          have := bs_block h3 (by rw [HPL.out]; decide)
          rw [HPL.out] at this
          exact this)
        obtain ⟨_, _, -, -, hgl3, q0', q1', -, -, -, -, -, -, -⟩ := HL3.out.logFacts HI1.out
        obtain ⟨AU, hAU⟩ : ∃ AU : Option Addr, AU = if c1 = CN then some ⟨bb, bo, none⟩ else some ⟨bb, bo + CN, none⟩ := ⟨_, rfl⟩
        have HAU : Hid (∀ (D : Nat → Prop) (W : World), Bs D W a n c b → Bs D W AU (n1 - CN) (c1 - CN) (b1.drop CN)) := Lib.hid (fun D W hb => by
          have hx := HTT.out D W hb
          have hcl := hx.2.2.2.1
          have hnc := hx.2.2.1
          rw [hAU]
          split
          · rename_i e
            have : b1.drop CN = [] := List.drop_of_length_le (by have := HB1L.out; omega)
            rw [this, show n1 - CN = 0 by omega]
            exact Bs.empty _ _ _ _ (by omega) (fun h => by cases h)
          · exact hx.past CN (by omega))
        have HAUE := Lib.hid hAU
        clear hw3 hb3 hAU HB2 HHX HS2 HSRC HFIT HPUT HL
        go_upto_region 10 with (first
          | (have x1 := HL3.out; go_at_call 33; refine (write_lv x1 HJ1.out HBX.out K HKl.out HON.out (HOK.out.mono (by omega))).mono ?_; rintro e w4 ⟨rfl, hl4⟩; have HL4 := Lib.hid hl4; clear x1 hl4 HL3))
        go_quiet (fail)
        go_wp2_with fail
        rw [← HAUE.out]
        go_roundw
        case rel =>
          have e1 := HAT.out; have e2 := HN1.out; have e3 := HC1.out
          refine ⟨p + CN, d'.write K (putB sb b1 O), f - 1, AU, by omega, by go_num, ?_, fun D W hb => ?_, ?_, ?_, by omega, ?_, ?_⟩
          · rw [show n - (p + CN) = n1 - CN by omega, show c - (p + CN) = c1 - CN by omega]
          · have := HAU.out D W hb
            rw [show n - (p + CN) = n1 - CN by omega, show c - (p + CN) = c1 - CN by omega, ← List.drop_drop, ← HB1.out]
            exact this
          · have := HL4.out.below (below_drewN' _ nq)
            rwa [List.set_set] at this
          · have hne : b1 ≠ [] := by intro e; have := HB1L.out; rw [e] at this; simp at this; omega
            have hw2 := HWR.out
            obtain ⟨f', rfl⟩ : ∃ f', f = f' + 1 := ⟨f - 1, by omega⟩
            rw [wrD, if_neg hne, if_pos HON.out, ← HKE.out, ← HOE.out, HSG.out, ← HBI.out, ← HCN.out] at hw2
            rw [Nat.add_sub_cancel, ← hw2, ← List.drop_drop, ← HB1.out, show A0 + (p + CN) = at0 + CN by omega]
          · rw [write_len]; exact HLEN.out
          · exact (DM.write_ok HOK.out HPL.out).mono (by omega)
        case measure => first | (simp [sliceLen]; omega) | (simp only [sliceLen]; omega)
    · have hp0 : n1 = 0 := by omega
      have hb0 : b1 = [] := List.eq_nil_of_length_eq_zero (by omega)
      rw [hb0, wrD_nil] at hwr
      have HWR := Lib.hid hwr
      have HL := Lib.hid hL
      subst hp0
      clear hT hL hwr hf hlen hok hb1 hb1l hb0 hn1 hc1' hat hlt
      go_wp2_with fail
      go_ret
      rw [← HWR.out]
      exact ⟨rfl, HL.out⟩
end
end Go.Proofs.Ythffegfcgmhppaa
namespace Go.Proofs.Ythffegfcgmhppaa
open Go.RowKit
set_option linter.unusedSimpArgs false
set_option linter.unusedVariables false
theorem set_self_of {L : List Obj} {j : Nat} {o : Obj} (h : L[j]? = some o) : L.set j o = L := by
  obtain ⟨hlt, he⟩ := List.getElem?_eq_some_iff.1 h
  rw [← he]; exact List.set_getElem_self hlt
/-- describe: error, log, disk -/
def desR (m : LM) (d : DM) (e : Nat) : Int × LM × DM :=
  if d.on = true then
    if (d.write (m.frm + (m.rnd + 1) % 256 % 2) (desB ((m.rnd + 1) % 256) e)).on = true then (0, { m with rnd := (m.rnd + 1) % 256, en := e }, (d.write (m.frm + (m.rnd + 1) % 256 % 2) (desB ((m.rnd + 1) % 256) e)).flush)
    else (10, m, d.write (m.frm + (m.rnd + 1) % 256 % 2) (desB ((m.rnd + 1) % 256) e))
  else (10, m, d)
theorem desR_err (m : LM) (d : DM) (e : Nat) : (desR m d e).1 = 0 ∨ (desR m d e).1 = 10 := by
  unfold desR
  split
  · split
    · exact .inl rfl
    · exact .inr rfl
  · exact .inr rfl
theorem desR_bad (m : LM) (d : DM) (e : Nat) (h : (desR m d e).1 ≠ 0) : (desR m d e).2.1 = m := by
  unfold desR at *
  split at h
  · split at h
    · exact absurd rfl h
    · rename_i a b; rw [if_pos a, if_neg b]
  · rename_i a; rw [if_neg a]
theorem desR_ok (m : LM) (d : DM) (e : Nat) (h : (desR m d e).1 = 0) : (desR m d e).2.1 = { m with rnd := (m.rnd + 1) % 256, en := e } := by
  unfold desR at *
  split at h
  · split at h
    · rename_i a b; rw [if_pos a, if_pos b]
    · simp at h
  · simp at h
section
variable {w0 w : World} {L : List Obj} {gl g i j : Nat} {m : LM} {d : DM}
theorem describe_lv (h : Lv w0 w L) (hi : L[i]? = some (logO gl g m)) (hj : L[j]? = some (diskO g d)) (hij : i ≠ j) (e : Nat) (he : e < 16777216) (hr : m.rnd < 256) (hf : m.frm + 1 < d.S.length) (hN : d.Ok 100000) :
    Calls Try.prog 41 #[.pointer (some ⟨gl, 0, none⟩), .int .i64 (e : Int)] w fun x w' => x = .returned (.int .i64 (desR m d e).1) ∧ Lv w0 w' ((L.set j (diskO g (desR m d e).2.2)).set i (logO gl g (desR m d e).2.1)) := by
  unfold desR
  cases ho : d.on with
  | false =>
    simp only [Bool.false_eq_true, if_false]
    refine (describe_off h hi hj hij e he hr hf hN ho).mono ?_
    rintro x w' ⟨rfl, hl⟩
    exact ⟨rfl, by rw [set_self_of hj, set_self_of hi]; exact hl⟩
  | true =>
    simp only [if_true]
    cases ho1 : (d.write (m.frm + (m.rnd + 1) % 256 % 2) (desB ((m.rnd + 1) % 256) e)).on with
    | false =>
      simp only [Bool.false_eq_true, if_false]
      refine (describe_mid h hi hj hij e he hr hf hN ho ho1).mono ?_
      rintro x w' ⟨rfl, hl⟩
      refine ⟨rfl, ?_⟩
      have : (L.set j (diskO g (d.write (m.frm + (m.rnd + 1) % 256 % 2) (desB ((m.rnd + 1) % 256) e))))[i]? = some (logO gl g m) := by rw [List.getElem?_set_ne (fun e => hij e.symm)]; exact hi
      rw [set_self_of this]; exact hl
    | true =>
      simp only [if_true]
      exact describe_ok h hi hj hij e he hr hf hN ho ho1
theorem Lg.putReset {k : Option Nat} {Bf : Nat → Prop} {v : Value} (h : Lg w gl g k Bf v m) : Lg (((w.setCell ⟨gl, 5, none⟩ (.slice none 0 0)).setCell ⟨gl, 6, none⟩ (.int .i64 0)).setCell ⟨gl, 7, none⟩ (.int .i64 0)) gl g none (fun _ => False) (.slice none 0 0) { m with recs := [], syn := 0, tak := 0 } := by
  refine ⟨?_, Recs.nil _, ⟨(fun h => by cases h), (fun h => h), (fun _ h => by cases h)⟩, fun _ h => h.elim⟩
  rw [heap_setCell_same _ gl 7 _ _ _ (heap_setCell_same _ gl 6 _ _ _ (heap_setCell_same w gl 5 _ _ _ h.self))]
  rfl
theorem Lv.logReset (h : Lv w0 w L) (hi : L[i]? = some (logO gl g m)) : Lv w0 (((w.setCell ⟨gl, 5, none⟩ (.slice none 0 0)).setCell ⟨gl, 6, none⟩ (.int .i64 0)).setCell ⟨gl, 7, none⟩ (.int .i64 0)) (L.set i (logO gl g { m with recs := [], syn := 0, tak := 0 })) := by
  obtain ⟨k, Bf, v, B, h1, h2, h3, h4⟩ := h.log hi
  have hB : B gl := h2 gl (.inl rfl)
  refine h4 _ none (fun _ => False) _ _ h1.putReset ((((Kept.refl B w).setCell (p := ⟨gl, 5, none⟩) (fun _ => hB) _).setCell (p := ⟨gl, 6, none⟩) (fun _ => hB) _).setCell (p := ⟨gl, 7, none⟩) (fun _ => hB) _) ?_
  rintro x (rfl | hx | hx)
  · exact .inl hB
  · cases hx
  · exact hx.elim
theorem Lg.putSyn {k : Option Nat} {Bf : Nat → Prop} {v : Value} (h : Lg w gl g k Bf v m) (y : Nat) : Lg (w.setCell ⟨gl, 6, none⟩ (.int .i64 (y : Int))) gl g k Bf v { m with syn := y } := by
  refine h.put rfl ?_ ((Kept.refl (fun x => x = gl) w).setCell (fun _ => rfl) _)
  rw [heap_setCell_same w gl 6 _ _ _ h.self]
  rfl
theorem Lv.logSyn (h : Lv w0 w L) (hi : L[i]? = some (logO gl g m)) (y : Nat) : Lv w0 (w.setCell ⟨gl, 6, none⟩ (.int .i64 (y : Int))) (L.set i (logO gl g { m with syn := y })) := by
  obtain ⟨k, Bf, v, B, h1, h2, h3, h4⟩ := h.log hi
  exact h4 _ k Bf v _ (h1.putSyn y) ((Kept.refl B w).setCell (p := ⟨gl, 6, none⟩) (fun _ => h2 gl (.inl rfl)) _) (fun x hx => .inl (h2 x hx))
theorem Lg.putTak {k : Option Nat} {Bf : Nat → Prop} {v : Value} (h : Lg w gl g k Bf v m) (y : Nat) : Lg (w.setCell ⟨gl, 7, none⟩ (.int .i64 (y : Int))) gl g k Bf v { m with tak := y } := by
  refine h.put rfl ?_ ((Kept.refl (fun x => x = gl) w).setCell (fun _ => rfl) _)
  rw [heap_setCell_same w gl 7 _ _ _ h.self]
  rfl
theorem Lv.logTak (h : Lv w0 w L) (hi : L[i]? = some (logO gl g m)) (y : Nat) : Lv w0 (w.setCell ⟨gl, 7, none⟩ (.int .i64 (y : Int))) (L.set i (logO gl g { m with tak := y })) := by
  obtain ⟨k, Bf, v, B, h1, h2, h3, h4⟩ := h.log hi
  exact h4 _ k Bf v _ (h1.putTak y) ((Kept.refl B w).setCell (p := ⟨gl, 7, none⟩) (fun _ => h2 gl (.inl rfl)) _) (fun x hx => .inl (h2 x hx))
/-- Reset: error, log, disk -/
def resetR (m : LM) (d : DM) : Int × LM × DM := ((desR m d 128).1, if (desR m d 128).1 = 0 then { (desR m d 128).2.1 with recs := [], syn := 0, tak := 0 } else m, (desR m d 128).2.2)
set_option maxRecDepth 100000 in
set_option maxHeartbeats 2000000 in
theorem reset_lv (h : Lv w0 w L) (hi : L[i]? = some (logO gl g m)) (hj : L[j]? = some (diskO g d)) (hij : i ≠ j) (hr : m.rnd < 256) (hf : m.frm + 1 < d.S.length) (hN : d.Ok 100000) :
    Calls Try.prog 17 #[.pointer (some ⟨gl, 0, none⟩)] w fun x w' => x = .returned (.int .i64 (resetR m d).1) ∧ Lv w0 w' ((L.set j (diskO g (resetR m d).2.2)).set i (logO gl g (resetR m d).2.1)) := by
  unfold resetR
  have hde := desR_err m d 128
  have hdb := desR_bad m d 128
  have hc := describe_lv h hi hj hij 128 (by omega) hr hf hN
  have hil := (List.getElem?_eq_some_iff.1 hi).1
  obtain ⟨q, hq⟩ : ∃ q, q = desR m d 128 := ⟨_, rfl⟩
  rw [← hq] at hde hdb hc ⊢
  have HC := Lib.hid hc
  have HI : Hid (((L.set j (diskO g q.2.2)).set i (logO gl g q.2.1))[i]? = some (logO gl g q.2.1)) := Lib.hid (List.getElem?_set_self (by rw [List.length_set]; exact hil))
  clear h hi hj hN hc hq
  rcases hde with he | he
  · rw [he] at HC ⊢
    simp only [if_true]
    go_enter Try.func17, Try.ntmps17
    go_upto_region 4 with (first
      | (go_at_call 41; refine HC.out.mono ?_; rintro x w1 ⟨rfl, hl⟩; have HL := Lib.hid hl; clear hl HC))
    obtain ⟨_, _, -, -, hgl, q0, -, -, -, -, q5, q6, q7, fz⟩ := HL.out.logFacts HI.out
    have z5 := fz 5
    have z6 := fz 6
    have z7 := fz 7
    have HF := Lib.hid (HL.out.logReset HI.out)
    go_wp2_with fail
    go_ret
    refine ⟨rfl, ?_⟩
    have := HF.out
    rwa [List.set_set] at this
  · rw [he] at HC ⊢
    simp only [show ¬ ((10 : Int) = 0) by omega, if_false]
    rw [hdb (by rw [he]; omega)] at HC
    go_enter Try.func17, Try.ntmps17
    go_wp2_with (first
      | (go_at_call 41; refine HC.out.mono ?_; rintro x w1 ⟨rfl, hl⟩; have HL := Lib.hid hl; clear hl HC))
    go_ret
    exact ⟨rfl, HL.out⟩
/-- Sync: error, log, disk -/
def addB (m : LM) : List UInt8 := joinB (m.recs.drop m.syn)
def wrR (m : LM) (d : DM) : Int × DM := wrD m.frm (addB m).length d m.en (addB m)
def syncR (m : LM) (d : DM) : Int × LM × DM :=
  if (wrR m d).1 = 0 then
    if (wrR m d).2.on = true then
      ((desR m (wrR m d).2.flush (m.en + (addB m).length)).1, if (desR m (wrR m d).2.flush (m.en + (addB m).length)).1 = 0 then { (desR m (wrR m d).2.flush (m.en + (addB m).length)).2.1 with syn := m.recs.length } else m, (desR m (wrR m d).2.flush (m.en + (addB m).length)).2.2)
    else (10, m, (wrR m d).2)
  else (10, m, (wrR m d).2)
theorem wrD_err (frm : Nat) : ∀ (f : Nat) (d : DM) (a : Nat) (b : List UInt8), (wrD frm f d a b).1 = 0 ∨ (wrD frm f d a b).1 = 10
  | 0, _, _, _ => .inl rfl
  | f + 1, d, a, b => by
    rw [wrD]
    split
    · exact .inl rfl
    · split
      · exact wrD_err frm f _ _ _
      · exact .inr rfl
theorem wrD_len (frm : Nat) : ∀ (f : Nat) (d : DM) (a : Nat) (b : List UInt8), (wrD frm f d a b).2.S.length = d.S.length
  | 0, _, _, _ => rfl
  | f + 1, d, a, b => by
    rw [wrD]
    split
    · rfl
    · split
      · rw [wrD_len frm f, write_len]
      · rfl
theorem lenB_drop (rs : List (List UInt8)) (i : Nat) : lenB (rs.drop i) ≤ lenB rs := by
  induction rs generalizing i with
  | nil => simp [lenB]
  | cons r rs ih =>
    cases i with
    | zero => exact Nat.le_refl _
    | succ i =>
      have := ih i
      simp only [lenB, List.drop_succ_cons, List.map_cons, List.sum_cons] at this ⊢
      omega
set_option maxRecDepth 100000 in
set_option maxHeartbeats 4000000 in
theorem sync_lv (h : Lv w0 w L) (hi : L[i]? = some (logO gl g m)) (hj : L[j]? = some (diskO g d)) (hij : i ≠ j) (hr : m.rnd < 256) (hf : m.frm + 1 < d.S.length) (hN : d.Ok 40000) (hsy : m.syn ≤ m.recs.length) (h64 : ∀ r ∈ m.recs, r.length < 65536) (hb : lenB m.recs ≤ 50000) (he : m.en ≤ 1000000) (hrg : m.frm * 64 + m.en + (addB m).length ≤ d.S.length * 64) :
    Calls Try.prog 16 #[.pointer (some ⟨gl, 0, none⟩)] w fun x w' => x = .returned (.int .i64 (syncR m d).1) ∧ Lv w0 w' ((L.set j (diskO g (syncR m d).2.2)).set i (logO gl g (syncR m d).2.1)) := by
  obtain ⟨kl, Bl, vl, BL, hlg, hlB, -, -⟩ := h.log hi
  obtain ⟨a, c, rfl, h1, h2, hg, c0, c1, c2, c3, c4, c5, c6, c7, f0⟩ := hlg.facts
  have hil := (List.getElem?_eq_some_iff.1 hi).1
  have hjl := (List.getElem?_eq_some_iff.1 hj).1
  have HRD : Hid (RdR BL w.drew (if c = m.syn then a else Option.map (fun x => x.add m.syn) a) (m.recs.length - m.syn) (c - m.syn) (m.recs.drop m.syn)) := Lib.hid (((hlg.recs.rd (D := BL) (fun x hx => hlB x (.inr (.inl hx))) (fun x hx => hlB x (.inr (.inr hx)))).from m.syn hsy).below (Below.refl _ _).drew)
  obtain ⟨AS, hAS⟩ : ∃ AS : Option Addr, AS = if c = m.syn then a else Option.map (fun x => x.add m.syn) a := ⟨_, rfl⟩
  rw [← hAS] at HRD
  have HAS := Lib.hid hAS
  clear hAS
  have H64 : Hid (∀ r ∈ m.recs.drop m.syn, r.length < 65536) := Lib.hid (fun r hr => h64 r (List.mem_of_mem_drop hr))
  have HLB : Hid (lenB (m.recs.drop m.syn) ≤ 50000) := Lib.hid (Nat.le_trans (lenB_drop _ _) hb)
  have HL0 := Lib.hid (h.below (Below.refl _ _).drew)
  obtain ⟨b, hbb⟩ : ∃ b, b = addB m := ⟨_, rfl⟩
  obtain ⟨bn, hbn⟩ : ∃ bn, bn = b.length := ⟨_, rfl⟩
  have hbn5 : bn ≤ 50000 := by rw [hbn, hbb]; unfold addB; rw [joinB_len]; exact HLB.out
  have hsy2 : (m.syn : Int) ≤ (m.recs.length : Int) := by omega
  have hsy3 : (m.syn : Int) ≤ (c : Int) := by omega
  have hwe : IntKind.i64.wrap ((m.en : Int) + (bn : Int)) = ((m.en + bn : Nat) : Int) := by rw [i64_id _ (by omega) (by omega)]; omega
  have HBB := Lib.hid hbb
  have HBN := Lib.hid hbn
  have HI := Lib.hid hi
  have HJ := Lib.hid hj
  have HIJ := Lib.hid hij
  have HIL := Lib.hid hil
  have HJL := Lib.hid hjl
  have HF := Lib.hid hf
  have HRN := Lib.hid hr
  have HN := Lib.hid hN
  have HE := Lib.hid he
  have HRG : Hid (m.frm * 64 + m.en + bn ≤ d.S.length * 64) := Lib.hid (by rw [hbn, hbb]; exact hrg)
  have hrl : m.recs.length ≤ 9223372036854775807 := by omega
  have hWD : wrR m d = wrD m.frm bn d m.en b := by unfold wrR; rw [← hbb, ← hbn]
  have hwerr : (wrR m d).1 = 0 ∨ (wrR m d).1 = 10 := wrD_err _ _ _ _ _
  have hwlen : (wrR m d).2.S.length = d.S.length := wrD_len _ _ _ _ _
  have hAB : (addB m).length = bn := by rw [hbn, hbb]
  obtain ⟨W, hW⟩ : ∃ W, W = wrR m d := ⟨_, rfl⟩
  rw [← hW] at hwerr hwlen hWD
  obtain ⟨we, wd⟩ := W
  simp only at hwerr hwlen
  have HAB := Lib.hid hAB
  have HWW := Lib.hid hW
  have HWD := Lib.hid hWD
  have HWL := Lib.hid hwlen
  clear hlg hlB h1 c1 c2 c3 c4 c7 f0 hi hj hij hil hjl hb h64 hrg he hf hr hN h hbb hbn hW hWD hwlen hAB
  go_enter Try.func16, Try.ntmps16
  go_wp2_with fail
  go_still_tail 9, (by kernel_rfl)
  change wpList _ _ _ _ _ w.drew
  rw [← HAS.out]
  go_upto_region 2 with (first
    | (go_at_call 44; refine (join_any BL _ _ _ _ _ HRD.out H64.out (Nat.le_trans HLB.out (by omega))).mono ?_; rintro e w1 ⟨v, rfl, hm⟩; have HM := Lib.hid hm; clear hm HRD))
  have hl1 := HL0.out.made HM.out
  rw [show joinB (m.recs.drop m.syn) = b from HBB.out.symm] at hl1
  obtain ⟨_, ⟨a3, c3, rfl, hb3⟩, -, -, -⟩ := hl1.get (i := 0) rfl
  rw [← HBN.out] at hl1 hb3
  rw [← HBN.out]
  have hc31 : bn ≤ c3 := hb3.2.2.1
  have hc32 : c3 ≤ 9223372036854775807 := hb3.2.2.2.1
  have hi1 : (bytesO (.slice a3 bn c3) b :: L)[i + 1]? = some (logO gl g m) := by simpa using HI.out
  have hj1 : (bytesO (.slice a3 bn c3) b :: L)[j + 1]? = some (diskO g d) := by simpa using HJ.out
  obtain ⟨_, _, -, -, hgl, q0, -, -, -, q4, -, -, -, -⟩ := hl1.logFacts hi1
  have HL1 := Lib.hid hl1
  have HI1 := Lib.hid hi1
  have HJ1 := Lib.hid hj1
  clear hl1 hb3 hi1 hj1 HM HL0 c0 c5 c6
  go_upto_region 3 with (first
    | (have x1 := HL1.out; go_at_call 45; refine (write_log x1 HI1.out HJ1.out (by have := HIJ.out; omega) (t := 0) rfl (by omega) m.en HE.out hbn5 HRG.out HN.out).mono ?_; rintro e w2 ⟨rfl, hl2⟩; rw [← HWD.out] at hl2 ⊢; have HL2 : Hid (Lv w0 w2 (bytesO (.slice a3 bn c3) b :: L.set j (diskO g wd))) := Lib.hid hl2; clear x1 hl2 HL1))
  have hi2 : (bytesO (.slice a3 bn c3) b :: L.set j (diskO g wd))[i + 1]? = some (logO gl g m) := by rw [List.getElem?_cons_succ, List.getElem?_set_ne (fun e => HIJ.out e.symm)]; exact HI.out
  have hj2 : (bytesO (.slice a3 bn c3) b :: L.set j (diskO g wd))[j + 1]? = some (diskO g wd) := by rw [List.getElem?_cons_succ, List.getElem?_set_self HJL.out]
  have hi2' : (L.set j (diskO g wd))[i]? = some (logO gl g m) := by simpa using hi2
  have HS2 : Hid ((L.set j (diskO g wd)).set i (logO gl g m) = L.set j (diskO g wd)) := Lib.hid (set_self_of hi2')
  obtain ⟨_, _, -, -, hgl2, r0, -, -, -, -, -, -, -, -⟩ := HL2.out.logFacts hi2
  have HI2 := Lib.hid hi2
  have HJ2 := Lib.hid hj2
  clear hi2 hj2 hi2' q0 q4 hgl
  rcases hwerr with rfl | rfl
  · cases hon : wd.on with
    | false =>
      have HON := Lib.hid hon
      clear hon
      go_wp2_with (first
        | (go_at_call 34; refine (flush_lv_off HL2.out HJ2.out HON.out).mono ?_; rintro e w3 ⟨rfl, rfl⟩))
      go_ret
      unfold syncR
      rw [HAB.out, ← HWW.out]
      simp only [if_true, HON.out, Bool.false_eq_true, if_false]
      exact ⟨rfl, by rw [HS2.out]; exact HL2.out.tail⟩
    | true =>
      have HON := Lib.hid hon
      have hde := desR_err m wd.flush (m.en + bn)
      have hdb := desR_bad m wd.flush (m.en + bn)
      have hdo := desR_ok m wd.flush (m.en + bn)
      clear hon
      go_upto_region 6 with (first
        | (have x1 := HL2.out; go_at_call 34; refine (flush_lv x1 HJ2.out HON.out).mono ?_; rintro e w3 ⟨rfl, hl3⟩; have HL3 : Hid (Lv w0 w3 (bytesO (.slice a3 bn c3) b :: (L.set j (diskO g wd)).set j (diskO g wd.flush))) := Lib.hid hl3; clear x1 hl3))
      have hl3 := HL3.out
      rw [List.set_set] at hl3
      have hi3 : (bytesO (.slice a3 bn c3) b :: L.set j (diskO g wd.flush))[i + 1]? = some (logO gl g m) := by rw [List.getElem?_cons_succ, List.getElem?_set_ne (fun e => HIJ.out e.symm)]; exact HI.out
      have hj3 : (bytesO (.slice a3 bn c3) b :: L.set j (diskO g wd.flush))[j + 1]? = some (diskO g wd.flush) := by rw [List.getElem?_cons_succ, List.getElem?_set_self HJL.out]
      have hi3' : (L.set j (diskO g wd.flush))[i]? = some (logO gl g m) := by simpa using hi3
      have hj3' : (L.set j (diskO g wd.flush))[j]? = some (diskO g wd.flush) := List.getElem?_set_self HJL.out
      have hok3 : wd.flush.Ok 100000 := by
        obtain ⟨B9, ⟨gd9, gm9, row9, N9, hd9, _⟩, -, -, -⟩ := HL2.out.get HJ2.out
        exact (DM.flush_ok hd9.ok).mono (by omega)
      have hlt9 : m.en + bn < 16777216 := by have := HE.out; omega
      have HDC : Hid (Calls Try.prog 41 #[.pointer (some ⟨gl, 0, none⟩), .int .i64 ((m.en + bn : Nat) : Int)] w3 fun x w' => x = .returned (.int .i64 (desR m wd.flush (m.en + bn)).1) ∧ Lv w0 w' (((bytesO (.slice a3 bn c3) b :: L.set j (diskO g wd.flush)).set (j + 1) (diskO g (desR m wd.flush (m.en + bn)).2.2)).set (i + 1) (logO gl g (desR m wd.flush (m.en + bn)).2.1))) := Lib.hid (describe_lv hl3 hi3 hj3 (by have := HIJ.out; omega) (m.en + bn) hlt9 HRN.out (by rw [flush_len, HWL.out]; exact HF.out) hok3)
      obtain ⟨_, _, -, -, hgl3, -, -, -, -, s4, -, -, -, -⟩ := hl3.logFacts hi3
      obtain ⟨Q, hQ⟩ : ∃ Q, Q = desR m wd.flush (m.en + bn) := ⟨_, rfl⟩
      rw [← hQ] at hde hdb hdo HDC
      have HQ := Lib.hid hQ
      obtain ⟨qe, qm, qd⟩ := Q
      simp only at hde hdb hdo HDC
      have HIQ : Hid ((((L.set j (diskO g wd.flush)).set j (diskO g qd)).set i (logO gl g qm))[i]? = some (logO gl g qm)) := Lib.hid (List.getElem?_set_self (by rw [List.length_set, List.length_set]; exact HIL.out))
      have HIQ1 : Hid ((bytesO (.slice a3 bn c3) b :: ((L.set j (diskO g wd.flush)).set j (diskO g qd)).set i (logO gl g qm))[i + 1]? = some (logO gl g qm)) := Lib.hid (by rw [List.getElem?_cons_succ]; exact HIQ.out)
      clear hQ hl3 hi3 hj3 hi3' hj3' hok3 hlt9
      rcases hde with rfl | rfl
      · have hqm := hdo rfl
        have HQR : Hid (qm.recs = m.recs) := Lib.hid (by rw [hqm])
        clear hdb hdo hqm
        go_upto_region 11 with (first
          | (go_at_call 41; refine HDC.out.mono ?_; rintro x w4 ⟨rfl, hl4⟩; have HL4 : Hid (Lv w0 w4 (bytesO (.slice a3 bn c3) b :: ((L.set j (diskO g wd.flush)).set j (diskO g qd)).set i (logO gl g qm))) := Lib.hid hl4; clear hl4 HDC))
        obtain ⟨_, _, -, -, hgl4, t0, -, -, -, -, t5, t6, -, fz⟩ := HL4.out.logFacts HIQ1.out
        have z6 := fz 6
        rw [HQR.out] at t5
        have HF5 := Lib.hid (HL4.out.logSyn HIQ1.out m.recs.length)
        go_wp2_with fail
        go_ret
        unfold syncR
        rw [HAB.out, ← HWW.out]
        simp only [if_true, HON.out]
        rw [← HQ.out]
        simp only [if_true]
        refine ⟨rfl, ?_⟩
        have := HF5.out.tail
        rw [List.set_set, List.set_set] at this
        exact this
      · have hqm := hdb (by omega)
        subst hqm
        clear hdb hdo
        go_wp2_with (first
          | (go_at_call 41; refine HDC.out.mono ?_; rintro x w4 ⟨rfl, hl4⟩; have HL4 : Hid (Lv w0 w4 (bytesO (.slice a3 bn c3) b :: ((L.set j (diskO g wd.flush)).set j (diskO g qd)).set i (logO gl g qm))) := Lib.hid hl4; clear hl4 HDC))
        go_ret
        unfold syncR
        rw [HAB.out, ← HWW.out]
        simp only [if_true, HON.out]
        rw [← HQ.out]
        simp only [show ¬ ((10 : Int) = 0) by omega, if_false]
        refine ⟨rfl, ?_⟩
        have := HL4.out.tail
        rw [List.set_set] at this
        exact this
  · have h10 : ¬ ((10 : Int) = 0) := by omega
    have H10 := Lib.hid h10
    clear h10
    go_wp2_with fail
    go_ret
    unfold syncR
    rw [HAB.out, ← HWW.out]
    simp only [H10.out, if_false]
    exact ⟨rfl, by rw [HS2.out]; exact HL2.out.tail⟩
end
end Go.Proofs.Ythffegfcgmhppaa
namespace Go.Proofs.Ythffegfcgmhppaa
open Go.RowKit
set_option linter.unusedSimpArgs false
set_option linter.unusedVariables false
/-- a log as it is made -/
def LM.new (f n : Nat) : LM := ⟨f, n, 0, 0, [], 0, 0⟩
theorem run_buildL (g : Nat) (f n : Int) (W : World) : (Instr.build 78 #[(0, .pointer (some ⟨g, 0, none⟩)), (1, .int .i64 f), (2, .int .i64 n)]).run Try.prog W = .ok (.agg #[.pointer (some ⟨g, 0, none⟩), .int .i64 f, .int .i64 n, .int .u8 0, .int .i64 0, .slice none 0 0, .int .i64 0, .int .i64 0]) W := by kernel_rfl
theorem Lv.logNew {w0 w : World} {L : List Obj} (h : Lv w0 w L) (g f n : Nat) : Lv w0 (w.alloc (.cells #[.pointer (some ⟨g, 0, none⟩), .int .i64 (f : Int), .int .i64 (n : Int), .int .u8 0, .int .i64 0, .slice none 0 0, .int .i64 0, .int .i64 0] 78)) (logO w.heap.size g (LM.new f n) :: L) := by
  refine h.cons ((Below.refl _ _).alloc (Nat.le_refl _) _) (B := fun x => x = w.heap.size) ⟨none, fun _ => False, .slice none 0 0, ⟨heap_new rfl, Recs.nil _, ⟨(fun h => by cases h), (fun h => h), (fun _ h => by cases h)⟩, fun _ h => h.elim⟩, ?_⟩ (fun x hx => by subst hx; exact ⟨Nat.le_refl _, by rw [size_alloc1]; omega⟩)
  rintro x (hx | hx | hx)
  · exact hx
  · cases hx
  · exact hx.elim
/-- the two descriptions of Format -/
def fmt1 (f n : Nat) (d : DM) : Int × LM × DM := desR (LM.new f n) d 128
def fmtR (f n : Nat) (d : DM) : Int × LM × DM := if (fmt1 f n d).1 = 0 then desR (fmt1 f n d).2.1 (fmt1 f n d).2.2 128 else fmt1 f n d
theorem desR_len (m : LM) (d : DM) (e : Nat) : (desR m d e).2.2.S.length = d.S.length := by
  unfold desR
  split
  · split
    · rw [flush_len, write_len]
    · rw [write_len]
  · rfl
theorem desR_frm (m : LM) (d : DM) (e : Nat) : (desR m d e).2.1.frm = m.frm ∧ (m.rnd < 256 → (desR m d e).2.1.rnd < 256) := by
  unfold desR
  split
  · split
    · exact ⟨rfl, fun _ => Nat.mod_lt _ (by omega)⟩
    · exact ⟨rfl, id⟩
  · exact ⟨rfl, id⟩
theorem desR_okF (m : LM) (d : DM) (e : Nat) (h : d.Ok 40000) : (desR m d e).2.2.Ok 40001 := by
  unfold desR
  split
  · split
    · exact (DM.flush_ok (DM.write_ok h (desB_len _ _))).mono (by omega)
    · exact DM.write_ok h (desB_len _ _)
  · exact h.mono (by omega)
section
variable {w0 w : World} {L : List Obj} {g j : Nat} {d : DM}
set_option maxRecDepth 100000 in
set_option maxHeartbeats 2000000 in
theorem format_bad (h : Lv w0 w L) (hj : L[j]? = some (diskO g d)) (f n : Int) (f1 : -9223372036854775808 ≤ f) (f2 : f ≤ 9223372036854775807) (n1 : -9223372036854775808 ≤ n) (n2 : n ≤ 9223372036854775807) (hv : validB d.S.length f n = false) :
    Calls Try.prog 11 #[.pointer (some ⟨g, 0, none⟩), .int .i64 f, .int .i64 n] w fun x w' => x = .returned (.tuple #[.pointer none, .int .i64 5]) ∧ w = w' := by
  have HC := Lib.hid (valid_lv h hj f n f1 f2 n1 n2)
  rw [hv] at HC
  clear h hj hv
  go_enter Try.func11, Try.ntmps11
  go_wp2_with (go_at_call 40; refine HC.out.mono ?_; rintro e w2 ⟨rfl, rfl⟩)
  go_ret2
  exact ⟨rfl, rfl⟩
set_option maxRecDepth 100000 in
set_option maxHeartbeats 4000000 in
theorem format_ok (h : Lv w0 w L) (hj : L[j]? = some (diskO g d)) (f n : Nat) (hf : f ≤ 4096) (hn : n ≤ 4096) (hv : validB d.S.length f n = true) (hN : d.Ok 40000) :
    Calls Try.prog 11 #[.pointer (some ⟨g, 0, none⟩), .int .i64 (f : Int), .int .i64 (n : Int)] w fun x w' =>
      ((fmtR f n d).1 = 0 ∧ ∃ gl, x = .returned (.tuple #[.pointer (some ⟨gl, 0, none⟩), .int .i64 0]) ∧ Lv w0 w' (logO gl g (fmtR f n d).2.1 :: L.set j (diskO g (fmtR f n d).2.2))) ∨
      ((fmtR f n d).1 = 10 ∧ x = .returned (.tuple #[.pointer none, .int .i64 10]) ∧ Lv w0 w' (L.set j (diskO g (fmtR f n d).2.2))) := by
  have hd1 : 4 ≤ (n : Int) ∧ 0 ≤ (f : Int) ∧ (n : Int) ≤ (d.S.length : Int) - (f : Int) := by unfold validB at hv; exact of_decide_eq_true hv
  have HC := Lib.hid (valid_lv h hj f n (by omega) (by omega) (by omega) (by omega))
  rw [hv] at HC
  obtain ⟨w1, hw1⟩ : ∃ w1, w1 = w.alloc (.cells #[.pointer (some ⟨g, 0, none⟩), .int .i64 (f : Int), .int .i64 (n : Int), .int .u8 0, .int .i64 0, .slice none 0 0, .int .i64 0, .int .i64 0] 78) := ⟨_, rfl⟩
  obtain ⟨gl, hgl⟩ : ∃ gl, gl = w.heap.size := ⟨_, rfl⟩
  have HL1 : Hid (Lv w0 w1 (logO gl g (LM.new f n) :: L)) := Lib.hid (by rw [hw1, hgl]; exact h.logNew g f n)
  have hjl := (List.getElem?_eq_some_iff.1 hj).1
  have HJL := Lib.hid hjl
  have HSelf := Lib.hid (set_self_of hj)
  have hb := run_buildL g f n
  have HW1 := Lib.hid hw1
  have HGL := Lib.hid hgl
  have HFD : Hid (f + 1 < d.S.length) := Lib.hid (by omega)
  have HN := Lib.hid hN
  have he1 := desR_err (LM.new f n) d 128
  obtain ⟨Q1, hQ1⟩ : ∃ Q1, Q1 = fmt1 f n d := ⟨_, rfl⟩
  have hQ1' : Q1 = desR (LM.new f n) d 128 := hQ1
  have hlen1 : Q1.2.2.S.length = d.S.length := by rw [hQ1']; exact desR_len _ _ _
  have hfr1 : Q1.2.1.frm = f ∧ Q1.2.1.rnd < 256 := by rw [hQ1']; exact ⟨(desR_frm _ _ _).1, (desR_frm _ _ _).2 (show (0 : Nat) < 256 by omega)⟩
  have hok1 : Q1.2.2.Ok 40001 := by rw [hQ1']; exact desR_okF _ _ _ hN
  obtain ⟨Q2, hQ2⟩ : ∃ Q2, Q2 = desR Q1.2.1 Q1.2.2 128 := ⟨_, rfl⟩
  have he2 : Q2.1 = 0 ∨ Q2.1 = 10 := by rw [hQ2]; exact desR_err _ _ _
  obtain ⟨F, hF⟩ : ∃ F, F = fmtR f n d := ⟨_, rfl⟩
  have hF1 : Q1.1 = 0 → F = Q2 := fun e => by rw [hF, hQ2, hQ1]; unfold fmtR; rw [if_pos (by rw [← hQ1]; exact e)]
  have hF2 : Q1.1 ≠ 0 → F = Q1 := fun e => by rw [hF, hQ1]; unfold fmtR; rw [if_neg (by rw [← hQ1]; exact e)]
  rw [← hF]
  rw [← hQ1'] at he1
  have HD1 : Hid (∀ wr, Lv w0 wr (logO gl g (LM.new f n) :: L) → Calls Try.prog 41 #[.pointer (some ⟨gl, 0, none⟩), .int .i64 ((128 : Nat) : Int)] wr fun x w' => x = .returned (.int .i64 Q1.1) ∧ Lv w0 w' (logO gl g Q1.2.1 :: L.set j (diskO g Q1.2.2))) := Lib.hid (fun wr hL => by
    have := describe_lv hL (i := 0) (j := j + 1) rfl (by simpa using hj) (by omega) 128 (by omega) (show (0 : Nat) < 256 by omega) HFD.out (HN.out.mono (by omega))
    rw [← hQ1'] at this
    exact this)
  have HD2 : Hid (∀ wr, Lv w0 wr (logO gl g Q1.2.1 :: L.set j (diskO g Q1.2.2)) → Calls Try.prog 41 #[.pointer (some ⟨gl, 0, none⟩), .int .i64 ((128 : Nat) : Int)] wr fun x w' => x = .returned (.int .i64 Q2.1) ∧ Lv w0 w' (logO gl g Q2.2.1 :: L.set j (diskO g Q2.2.2))) := Lib.hid (fun wr hL => by
    have := describe_lv hL (i := 0) (j := j + 1) rfl (by rw [List.getElem?_cons_succ, List.getElem?_set_self hjl]) (by omega) 128 (by omega) hfr1.2 (by rw [hfr1.1, hlen1]; exact HFD.out) (hok1.mono (by omega))
    rw [← hQ2] at this
    refine this.mono (fun x w' hh => ⟨hh.1, ?_⟩)
    have h2 := hh.2
    simpa [List.set_set] using h2)
  have HF1 := Lib.hid hF1
  have HF2 := Lib.hid hF2
  clear h hj hv hw1 hgl hjl hN hQ1 hQ1' hlen1 hfr1 hok1 hQ2 hF hF1 hF2
  go_enter Try.func11, Try.ntmps11
  go_upto_region 4 with (go_at_call 40; refine HC.out.mono ?_; rintro e w2 ⟨rfl, rfl⟩; clear HC)
  rw [← HW1.out, ← HGL.out]
  go_wp2_with fail
  go_loopw [20] (fun t wr => ∃ i : Nat, t = .int .i64 (i : Int) ∧ ((i = 0 ∧ Lv w0 wr (logO gl g (LM.new f n) :: L)) ∨ (i = 1 ∧ Q1.1 = 0 ∧ Lv w0 wr (logO gl g Q1.2.1 :: L.set j (diskO g Q1.2.2))) ∨ (i = 2 ∧ Q1.1 = 0 ∧ Q2.1 = 0 ∧ Lv w0 wr (logO gl g Q2.2.1 :: L.set j (diskO g Q2.2.2))))) (fun t _ => 2 - (intOf t).toNat)
  case atStart => exact ⟨0, rfl, .inl ⟨rfl, HL1.out⟩⟩
  case round =>
    obtain ⟨i, rfl, ⟨rfl, hL⟩ | ⟨rfl, hq1, hL⟩ | ⟨rfl, hq1, hq2, hL⟩⟩ := hrel
    · have HL := Lib.hid hL
      clear hL
      rcases he1 with he1 | he1
      · rw [he1] at HD1
        have HE := Lib.hid he1
        clear he1 he2
        go_wp2_with (go_at_call 41; refine (HD1.out _ HL.out).mono ?_; rintro x w2 ⟨rfl, hl⟩; have HL2 := Lib.hid hl; clear hl)
        go_roundw
        case rel => exact ⟨1, by go_num, .inr (.inl ⟨rfl, HE.out, HL2.out⟩)⟩
        case measure => simp [intOf]
      · rw [he1] at HD1
        have HE := Lib.hid he1
        have HFF := Lib.hid (HF2.out (by rw [he1]; omega))
        clear he1 he2
        go_wp2_with (go_at_call 41; refine (HD1.out _ HL.out).mono ?_; rintro x w2 ⟨rfl, hl⟩; have HL2 := Lib.hid hl; clear hl)
        go_ret2
        exact .inr ⟨by rw [HFF.out]; exact HE.out, rfl, by rw [HFF.out]; exact HL2.out.tail⟩
    · have HL := Lib.hid hL
      have HE1 := Lib.hid hq1
      have HFF := Lib.hid (HF1.out hq1)
      clear hL hq1 he1
      rcases he2 with he2 | he2
      · rw [he2] at HD2
        have HE := Lib.hid he2
        clear he2
        go_wp2_with (go_at_call 41; refine (HD2.out _ HL.out).mono ?_; rintro x w2 ⟨rfl, hl⟩; have HL2 := Lib.hid hl; clear hl)
        go_roundw
        case rel => exact ⟨2, by go_num, .inr (.inr ⟨rfl, HE1.out, HE.out, HL2.out⟩)⟩
        case measure => simp [intOf]
      · rw [he2] at HD2
        have HE := Lib.hid he2
        clear he2
        go_wp2_with (go_at_call 41; refine (HD2.out _ HL.out).mono ?_; rintro x w2 ⟨rfl, hl⟩; have HL2 := Lib.hid hl; clear hl)
        go_ret2
        exact .inr ⟨by rw [HFF.out]; exact HE.out, rfl, by rw [HFF.out]; exact HL2.out.tail⟩
    · have HL := Lib.hid hL
      have HE := Lib.hid hq2
      have HFF := Lib.hid (HF1.out hq1)
      clear hL hq1 hq2 he1 he2
      go_wp2_with fail
      go_ret2
      exact .inl ⟨by rw [HFF.out]; exact HE.out, gl, rfl, by rw [HFF.out]; exact HL.out⟩
end
end Go.Proofs.Ythffegfcgmhppaa

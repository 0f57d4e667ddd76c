/-
  Texts P9, one behind the other.
-/
import Derived.WalkKit
import Derived.WalkSpells
import Derived.WalkLawsBesides
import Derived.Laws.AppendOwn
import Derived.Laws.OwnMore
import Derived.Deep.AppendSrc
import Derived.Deep.MidRow
import Derived.Lib.Hide
import GoSem.Claim
import Derived.Lib.Bytealg
import Derived.Laws.Externs
import Derived.Deep.QuietTactic
import Derived.BigQuiet
import Derived.Deep.CutBlock
import Derived.OwnWalk
import Derived.Deep.DrawnRows
import Derived.Deep.CutRange
import Derived.Deep.LoopGhost
import Derived.Laws.Tables
import Derived.Laws.ResultCell
import Derived.Deep.WholeRow
import Derived.Lib.Strings
import Derived.Shelf.Spec.SlicesInsert
import Derived.Lib.AppendZerosOnto
import Derived.Lib.Overlaps
import Derived.Laws.CopyRow
import Derived.Deep.RegionLaw
import Derived.StillTailTactics
import Derived.RangeFuncNested
import Derived.RangeFuncBound
import Derived.RangeFuncCalls
import Derived.RangeFuncLeaves
import Derived.Shelf.Abstract
import Derived.Shelf.RegionOpen
import Derived.OwnWalkIn
import Derived.TacticsInMore
import Derived.LoopNIn
import Derived.LoopIn
import Derived.RangeFuncBox
import Derived.Sort.CutIn
import Derived.Orders
import Derived.Tactics
import Derived.Test.YtfgmhidgkemfoaaRows
import Derived.Test.YtfgmhidgkemfoaaZT606
namespace Go.Proofs.Ytfgmhidgkemfoaa
open Go.RowKit
set_option linter.unusedSimpArgs false
set_option linter.unusedVariables false
def Drd13 : List (Option Tmp) := [some 108, some 109, some 110, some 111, some 112, some 113, some 114, some 115, some 116, some 117, some 118, some 119, some 120, some 121, some 5]
def Lrd13 : List (List Nat) := [[], [], [], [1, 2], [3], [4], [], [], [6, 7], [8], [9], [5, 10], [11], [0, 12], [13]]
def Drd12 : List (Option Tmp) := [some 91, some 92, some 93, some 94, some 95, some 96, some 97, some 98, some 99, some 100, some 101, some 102, some 103, some 104, some 105, some 106, some 107, some 90]
def Lrd12 : List (List Nat) := [[], [], [1], [0, 2], [3], [4], [4], [5, 6, 4], [7, 4], [8, 4], [4], [4], [10, 11, 4], [12, 4], [13, 4], [9, 14, 4], [4, 15], [16]]
def Drd5 : List (Option Tmp) := [some 18, some 19, some 20, some 21, some 22, some 23, some 24, some 25, some 26, some 27, some 28]
def Lrd5 : List (List Nat) := [[], [], [0, 1], [2], [3], [], [], [5, 6], [7], [8], [4, 9]]
def Drd6 : List (Option Tmp) := [some 29, some 30, some 31, some 32, some 33, some 34, some 35, some 36, some 37, some 38, some 39, some 40, some 41, some 42, some 5]
def Lrd6 : List (List Nat) := [[], [], [], [1, 2], [3], [4], [], [], [6, 7], [8], [9], [5, 10], [11], [0, 12], [13]]
def Drd9 : List (Option Tmp) := [some 48, some 49, some 50, some 51, some 52, some 53, some 54, some 55, some 56, some 57, some 58, some 59, some 60, some 61, some 62, some 63, some 64, some 65, some 66, some 67, some 68, some 69, some 70, some 71, some 72, some 73, some 74, some 75, some 76, some 77, some 78, some 47]
def Lrd9 : List (List Nat) := [[], [], [1], [0, 2], [3], [4], [4], [6, 4], [5, 7, 4], [8, 4], [9], [9], [9], [12, 9], [13, 9], [11, 14, 9], [10, 15, 9], [16, 9], [17, 9], [9], [9], [9], [21, 9], [22, 9], [20, 23, 9], [19, 24, 9], [25, 9], [26, 9], [18, 27, 9], [9, 28, 4], [4, 29], [30]]
theorem opn_a (a1 : Act) : (∀ x, a1.eval (.const x) = x) ∧ (∀ x, a1.eval (.func x) = .func (.func x) #[] #[]) := ⟨fun _ => rfl, fun _ => rfl⟩
theorem one_srcE (W : World) (e : ED) {g : Nat} (h : W.heap[g]? = some (.cells #[.string e.k, .string e.v, .bool e.d] 61 (0, 0))) : Src Try.prog 3 56 (.slice (some ⟨g, 0, none⟩) 1 1) 1 (ecells [e]) W := by
 have hs : Sl (fun _ => True) W (some ⟨g, 0, none⟩) 1 1 (ecells [e]) 3 := by
  refine ⟨rfl, Nat.le_refl _, by decide, by simp, fun _ => ⟨g, 0, trivial, rfl, fun j v hv => ?_⟩⟩
  rw [Nat.zero_add, cell_of_row W g j _ _ _ h]
  simpa [ecells, ED.cells] using hv
 exact hs.src Try.underlying56 (ecells_cell _)
theorem one_src (W : World) (y : KV) {g : Nat} (h : W.heap[g]? = some (.cells #[.string y.k, .string y.v, .bool false] 61 (0, 0))) : Src Try.prog 3 56 (.slice (some ⟨g, 0, none⟩) 1 1) 1 (ecells [setE y]) W := one_srcE W (setE y) h
theorem rd_app {w wr p8 w' : World} {v0 v' : Value} {es : List ED} {e1 : ED} {k' : Option Nat} (hB : Below w.heap.size w wr) (how : ∀ j, v0.ownBlock = some j → w.heap.size ≤ j) (hb8 : Below wr.heap.size wr p8) (ho : Own w' 61 3 k' v' (es.length + 1) (ecells es ++ ecells [e1])) (hf : ∀ j, k' = some j → v0.ownBlock = some j ∨ wr.heap.size ≤ j) (hK : Kept (fun j => v0.ownBlock = some j) p8 w') : w'.ownsRow w.heap.size 61 3 v' (es ++ [e1]).length (ecells (es ++ [e1])) ∧ Below w.heap.size w w' := by
 refine ⟨?_, hB.trans ((hb8.mono hB.size).trans (hK.below (Nat.le_trans hB.size hb8.size) (fun j hj e => by have := how j e; omega)))⟩
 rw [List.length_append, ecells_app]
 exact ho.owns (fun j hj => by
  rcases hf j hj with h | h
  ·exact how j h
  ·exact Nat.le_trans hB.size h)
set_option maxRecDepth 100000 in
set_option maxHeartbeats 1000000 in
theorem refDiff_any {D D' : Nat → Prop} {w : World} {a b : Option Addr} {n c m e : Nat} {xs ys : List KV} (h : Ps D w a n c xs) (h' : Ps D' w b m e ys) (hn : n ≤ 100000) (hm : m ≤ 100000) :
  Calls Try.prog 34 #[.slice a n c, .slice b m e] w fun e' w' => ∃ v, e' = .returned v ∧ w'.ownsRow w.heap.size 61 3 v (diffR xs ys).length (ecells (diffR xs ys)) ∧ Below w.heap.size w w' := by
 obtain ⟨i0, hi, hz0, hz1, hz2⟩ := info_parts edit_info
 have HX := Lib.hid h
 have HY := Lib.hid h'
 have HXL := Lib.hid h.1
 have HYL := Lib.hid h'.1
 have hc1 := h.2.2.1
 have hc2 : c ≤ 9223372036854775807 := h.2.2.2.1
 have he1 := h'.2.2.1
 have he2 : e ≤ 9223372036854775807 := h'.2.2.2.1
 clear h h'
 go_enter Try.func34, Try.ntmps34
 go_wp2_with fail
 go_loopw [5, 6, 7] (fun u x y wr => ∃ (i k : Nat) (v0 : Value) (es : List ED), v0 = u ∧ x = .int .i64 (i : Int) ∧ y = .int .i64 (k : Int) ∧ i ≤ n ∧ k ≤ m ∧ wr.ownsRow w.heap.size 61 3 v0 es.length (ecells es) ∧ es ++ diffR (xs.drop i) (ys.drop k) = diffR xs ys ∧ es.length ≤ i + k ∧ Below w.heap.size w wr) (fun _ x y _ => (n - (intOf x).toNat) + (m - (intOf y).toNat))
 case atStart => exact ⟨0, 0, _, [], rfl, rfl, rfl, Nat.zero_le _, Nat.zero_le _, World.ownsRow_nil _ _ _ _, rfl, Nat.zero_le _, Below.refl _ _⟩
 case round =>
  obtain ⟨i, k, v0, es, hv0, rfl, rfl, hin, hkm, hrow, hd, hel, hb⟩ := hrel
  subst hv0
  have HD := Lib.hid hd
  have HEL := Lib.hid hel
  have HB := Lib.hid hb
  have HROW := Lib.hid hrow
  have HOW := Lib.hid (Own.ofRow hrow)
  have hwi : IntKind.i64.wrap ((i : Int) + 1) = (i : Int) + 1 := i64_id _ (by omega) (by omega)
  have hwk : IntKind.i64.wrap ((k : Int) + 1) = (k : Int) + 1 := i64_id _ (by omega) (by omega)
  have HBD : Hid (es.length + 1 ≤ maxLen ∧ (es.length + 1) * 40 ≤ 140737488355328) := Lib.hid (by unfold maxLen; exact ⟨by omega, by omega⟩)
  clear hd hel hb hrow
  by_cases hi2 : i < n
  ·have hin2 : (i : Int) < (n : Int) := by omega
   have hil : i < xs.length := by rw [HXL.out]; exact hi2
   obtain ⟨ba, oa, -, hba, rfl, hcx⟩ := (HX.out.below HB.out).at (by omega)
   have hrx := hcx i hil
   obtain ⟨x, hx⟩ : ∃ x, x = xs[i]'hil := ⟨_, rfl⟩
   have HDX : Hid (xs.drop i = x :: xs.drop (i + 1)) := Lib.hid (by rw [hx]; exact List.drop_eq_getElem_cons hil)
   rw [← hx] at hrx
   obtain ⟨pa, hpa⟩ : ∃ pa, pa = oa + i * 2 := ⟨_, rfl⟩
   rw [← hpa] at hrx
   have HPA : Hid (oa + i * 2 = pa) := Lib.hid hpa.symm
   have HCA : Hid (wr.cell? ⟨ba, pa, none⟩ = some (.string x.k)) := Lib.hid (hrx 0 _ rfl)
   have HCA1 : Hid (wr.cell? ⟨ba, pa + 1, none⟩ = some (.string x.v)) := Lib.hid (hrx 1 _ rfl)
   have HLA := Lib.hid hba
   have HI0 : Hid (0 ≤ (i : Int)) := Lib.hid (by omega)
   have HI2 := Lib.hid hi2
   have HIN2 : Hid ((i : Int) < (n : Int)) := Lib.hid hin2
   clear hcx hrx hx hpa hil hba
   by_cases hk2 : k < m
   ·have hkm2 : (k : Int) < (m : Int) := by omega
    have hkl : k < ys.length := by rw [HYL.out]; exact hk2
    obtain ⟨bb, ob, -, hbb0, rfl, hcy⟩ := HY.out.at (by omega)
    have hbb : bb < wr.heap.size := Nat.lt_of_lt_of_le hbb0 HB.out.size
    have HLB0 := Lib.hid hbb0
    have hry := hcy k hkl
    obtain ⟨y, hy⟩ : ∃ y, y = ys[k]'hkl := ⟨_, rfl⟩
    have HDY : Hid (ys.drop k = y :: ys.drop (k + 1)) := Lib.hid (by rw [hy]; exact List.drop_eq_getElem_cons hkl)
    rw [← hy] at hry
    obtain ⟨pb, hpb⟩ : ∃ pb, pb = ob + k * 2 := ⟨_, rfl⟩
    rw [← hpb] at hry
    have HPB : Hid (ob + k * 2 = pb) := Lib.hid hpb.symm
    have HCB : Hid (wr.cell? ⟨bb, pb, none⟩ = some (.string y.k)) := Lib.hid ((HB.out.cell (p := ⟨bb, pb, none⟩) hbb0).trans (hry 0 _ rfl))
    have HCB1 : Hid (wr.cell? ⟨bb, pb + 1, none⟩ = some (.string y.v)) := Lib.hid ((HB.out.cell (p := ⟨bb, pb + 1, none⟩) hbb0).trans (hry 1 _ rfl))
    have HLB := Lib.hid hbb
    have HK0 : Hid (0 ≤ (k : Int)) := Lib.hid (by omega)
    have HK2 := Lib.hid hk2
    have HKN : Hid ((k : Int) < (m : Int)) := Lib.hid hkm2
    have HKM : Hid (¬ (k : Int) = (m : Int)) := Lib.hid (by omega)
    have HIN : Hid ((i : Int) < (n : Int)) := HIN2
    have HN1 : Hid (IntKind.i64.wrap ((n : Int) - 1) = (n : Int) - 1) := Lib.hid (i64_id _ (by omega) (by omega))
    have HM1 : Hid (IntKind.i64.wrap ((m : Int) - 1) = (m : Int) - 1) := Lib.hid (i64_id _ (by omega) (by omega))
    have HMI : Hid (min (i : Int) ((n : Int) - 1) = (i : Int)) := Lib.hid (by omega)
    have HMK : Hid (min (k : Int) ((m : Int) - 1) = (k : Int)) := Lib.hid (by omega)
    clear hcy hry hy hpb hkl hbb hbb0
    by_cases hless : cmpK x.k y.k < 0
    ·have HLS : Hid (Op.bytesLess x.k.toList y.k.toList = true) := Lib.hid (by rw [less_cmpK]; simpa using hless)
     clear hless
     go_upto_region 9 with fail
     refine Roll.region_f 32 125 Drd9 Lrd9 [(0, .slice (some ⟨ba, oa, none⟩) n c), (1, .slice (some ⟨bb, ob, none⟩) m e), (5, v0), (6, .int .i64 (i : Int)), (7, .int .i64 (k : Int))] (fun p => Below wr.heap.size wr p) (fun p p2 => Below p.heap.size p p2) [fun vv p => vv = .int .i64 (k : Int), fun vv p => vv = .slice (some ⟨bb, ob, none⟩) m e, fun vv p => vv = .int .i64 (m : Int), fun vv p => vv = .bool false, fun vv p => vv = .bool false, fun vv p => vv = .int .i64 (i : Int), fun vv p => vv = .slice (some ⟨ba, oa, none⟩) n c, fun vv p => vv = .int .i64 (n : Int), fun vv p => vv = .bool true, fun vv p => vv = .bool true, fun vv p => vv = .slice (some ⟨ba, oa, none⟩) n c, fun vv p => vv = .int .i64 (i : Int), fun vv p => vv = .slice (some ⟨ba, oa, none⟩) n c, fun vv p => vv = .int .i64 (n : Int), fun vv p => vv = .int .i64 ((n : Int) - 1), fun vv p => vv = .int .i64 (i : Int), fun vv p => vv = .pointer (some ⟨ba, pa, none⟩), fun vv p => vv = .pointer (some ⟨ba, pa, none⟩), fun vv p => vv = .string x.k, fun vv p => vv = .slice (some ⟨bb, ob, none⟩) m e, fun vv p => vv = .int .i64 (k : Int), fun vv p => vv = .slice (some ⟨bb, ob, none⟩) m e, fun vv p => vv = .int .i64 (m : Int), fun vv p => vv = .int .i64 ((m : Int) - 1), fun vv p => vv = .int .i64 (k : Int), fun vv p => vv = .pointer (some ⟨bb, pb, none⟩), fun vv p => vv = .pointer (some ⟨bb, pb, none⟩), fun vv p => vv = .string y.k, fun vv p => vv = .bool true, fun vv p => vv = .bool true, fun vv p => vv = .bool true, fun vv p => vv = .bool true] (by kernel_rfl) (by kernel_rfl) rfl ⟨rfl, rfl, rfl, rfl, rfl, trivial⟩ ((Below.refl _ _).drew) ?_ ?_ ?_
     ·exact ⟨fun _ _ _ _ h => h, fun _ _ _ _ h => h, fun _ _ _ _ h => h, fun _ _ _ _ h => h, fun _ _ _ _ h => h, fun _ _ _ _ h => h, fun _ _ _ _ h => h, fun _ _ _ _ h => h, fun _ _ _ _ h => h, fun _ _ _ _ h => h, fun _ _ _ _ h => h, fun _ _ _ _ h => h, fun _ _ _ _ h => h, fun _ _ _ _ h => h, fun _ _ _ _ h => h, fun _ _ _ _ h => h, fun _ _ _ _ h => h, fun _ _ _ _ h => h, fun _ _ _ _ h => h, fun _ _ _ _ h => h, fun _ _ _ _ h => h, fun _ _ _ _ h => h, fun _ _ _ _ h => h, fun _ _ _ _ h => h, fun _ _ _ _ h => h, fun _ _ _ _ h => h, fun _ _ _ _ h => h, fun _ _ _ _ h => h, fun _ _ _ _ h => h, fun _ _ _ _ h => h, fun _ _ _ _ h => h, fun _ _ _ _ h => h, trivial⟩
     ·intro b0 hN hlv
      refine ⟨?_, ?_, ?_, ?_, ?_, ?_, ?_, ?_, ?_, ?_, ?_, ?_, ?_, ?_, ?_, ?_, ?_, ?_, ?_, ?_, ?_, ?_, ?_, ?_, ?_, ?_, ?_, ?_, ?_, ?_, ?_, ?_, trivial⟩
      ·intro vs p hI hp
       have e7 : (Roll.putD Drd9 vs [] b0).eval (.tmp 7) = .int .i64 (k : Int) := (Roll.eval_old rfl).trans (hlv.at 4 (7, .int .i64 (k : Int)) rfl)
       clear hp hlv hN
       unfold Roll.Goes
       simp only [Lrd9, List.getD_cons_zero, List.getD_cons_succ]
       generalize Roll.putD Drd9 vs [] b0 = a1 at *
       refine Roll.goes_val (w' := p) (.int .i64 (k : Int)) rfl ?_ ⟨hI, Below.refl _ _, rfl⟩
       (have ⟨ec, ef⟩ := opn_a a1); generalize a1.eval = ρ at *
       skip
       go_simp <;> (intros; first | (exfalso; omega) | rfl | omega)
      ·intro vs p hI hp
       have e1 : (Roll.putD Drd9 vs [] b0).eval (.tmp 1) = .slice (some ⟨bb, ob, none⟩) m e := (Roll.eval_old rfl).trans (hlv.at 1 (1, .slice (some ⟨bb, ob, none⟩) m e) rfl)
       clear hp hlv hN
       unfold Roll.Goes
       simp only [Lrd9, List.getD_cons_zero, List.getD_cons_succ]
       generalize Roll.putD Drd9 vs [] b0 = a1 at *
       refine Roll.goes_val (w' := p) (.slice (some ⟨bb, ob, none⟩) m e) rfl ?_ ⟨hI, Below.refl _ _, rfl⟩
       (have ⟨ec, ef⟩ := opn_a a1); generalize a1.eval = ρ at *
       skip
       go_simp <;> (intros; first | (exfalso; omega) | rfl | omega)
      ·intro vs p hI hp
       have h1 : (vs 1) = .slice (some ⟨bb, ob, none⟩) m e := hp 1 (by simp [Lrd9])
       have e49 : (Roll.putD Drd9 vs [1] b0).eval (.tmp 49) = .slice (some ⟨bb, ob, none⟩) m e := (Roll.eval_new 1 rfl (by decide) (by decide) (by omega)).trans h1
       clear hp hlv hN
       unfold Roll.Goes
       simp only [Lrd9, List.getD_cons_zero, List.getD_cons_succ]
       generalize Roll.putD Drd9 vs [1] b0 = a1 at *
       refine Roll.goes_val (w' := p) (.int .i64 (m : Int)) rfl ?_ ⟨hI, Below.refl _ _, rfl⟩
       (have ⟨ec, ef⟩ := opn_a a1); generalize a1.eval = ρ at *
       clear h1
       go_simp <;> (intros; first | (exfalso; omega) | rfl | omega)
      ·intro vs p hI hp
       have h0 : (vs 0) = .int .i64 (k : Int) := hp 0 (by simp [Lrd9])
       have h2 : (vs 2) = .int .i64 (m : Int) := hp 2 (by simp [Lrd9])
       have e48 : (Roll.putD Drd9 vs [0, 2] b0).eval (.tmp 48) = .int .i64 (k : Int) := (Roll.eval_new 0 rfl (by decide) (by decide) (by omega)).trans h0
       have e50 : (Roll.putD Drd9 vs [0, 2] b0).eval (.tmp 50) = .int .i64 (m : Int) := (Roll.eval_new 2 rfl (by decide) (by decide) (by omega)).trans h2
       clear hp hlv hN
       unfold Roll.Goes
       simp only [Lrd9, List.getD_cons_zero, List.getD_cons_succ]
       generalize Roll.putD Drd9 vs [0, 2] b0 = a1 at *
       have f0 := HKM.out
       refine Roll.goes_val (w' := p) (.bool false) rfl ?_ ⟨hI, Below.refl _ _, rfl⟩
       (have ⟨ec, ef⟩ := opn_a a1); generalize a1.eval = ρ at *
       clear h0 h2
       go_simp <;> (intros; first | (exfalso; omega) | rfl | omega)
      ·intro vs p hI hp
       have h3 : (vs 3) = .bool false := hp 3 (by simp [Lrd9])
       have e51 : (Roll.putD Drd9 vs [3] b0).eval (.tmp 51) = .bool false := (Roll.eval_new 3 rfl (by decide) (by decide) (by omega)).trans h3
       clear hp hlv hN
       unfold Roll.Goes
       simp only [Lrd9, List.getD_cons_zero, List.getD_cons_succ]
       generalize Roll.putD Drd9 vs [3] b0 = a1 at *
       refine Roll.goes_val (w' := p) (.bool false) rfl ?_ ⟨hI, Below.refl _ _, rfl⟩
       (have ⟨ec, ef⟩ := opn_a a1); generalize a1.eval = ρ at *
       clear h3
       go_simp <;> (intros; first | (exfalso; omega) | rfl | omega)
      ·intro vs p hI hp
       have h4 : (vs 4) = .bool false := hp 4 (by simp [Lrd9])
       have e6 : (Roll.putD Drd9 vs [4] b0).eval (.tmp 6) = .int .i64 (i : Int) := (Roll.eval_old rfl).trans (hlv.at 3 (6, .int .i64 (i : Int)) rfl)
       clear hp hlv hN
       refine ⟨fun hg => ?_, fun hg => absurd h4 hg⟩
       clear hg
       unfold Roll.Goes
       simp only [Lrd9, List.getD_cons_zero, List.getD_cons_succ]
       generalize Roll.putD Drd9 vs [4] b0 = a1 at *
       refine Roll.goes_val (w' := p) (.int .i64 (i : Int)) rfl ?_ ⟨hI, Below.refl _ _, rfl⟩
       (have ⟨ec, ef⟩ := opn_a a1); generalize a1.eval = ρ at *
       clear h4
       go_simp <;> (intros; first | (exfalso; omega) | rfl | omega)
      ·intro vs p hI hp
       have h4 : (vs 4) = .bool false := hp 4 (by simp [Lrd9])
       have e0 : (Roll.putD Drd9 vs [4] b0).eval (.tmp 0) = .slice (some ⟨ba, oa, none⟩) n c := (Roll.eval_old rfl).trans (hlv.at 0 (0, .slice (some ⟨ba, oa, none⟩) n c) rfl)
       clear hp hlv hN
       refine ⟨fun hg => ?_, fun hg => absurd h4 hg⟩
       clear hg
       unfold Roll.Goes
       simp only [Lrd9, List.getD_cons_zero, List.getD_cons_succ]
       generalize Roll.putD Drd9 vs [4] b0 = a1 at *
       refine Roll.goes_val (w' := p) (.slice (some ⟨ba, oa, none⟩) n c) rfl ?_ ⟨hI, Below.refl _ _, rfl⟩
       (have ⟨ec, ef⟩ := opn_a a1); generalize a1.eval = ρ at *
       clear h4
       go_simp <;> (intros; first | (exfalso; omega) | rfl | omega)
      ·intro vs p hI hp
       have h6 : (vs 6) = .slice (some ⟨ba, oa, none⟩) n c := hp 6 (by simp [Lrd9])
       have h4 : (vs 4) = .bool false := hp 4 (by simp [Lrd9])
       have e54 : (Roll.putD Drd9 vs [6, 4] b0).eval (.tmp 54) = .slice (some ⟨ba, oa, none⟩) n c := (Roll.eval_new 6 rfl (by decide) (by decide) (by omega)).trans h6
       clear hp hlv hN
       refine ⟨fun hg => ?_, fun hg => absurd h4 hg⟩
       clear hg
       unfold Roll.Goes
       simp only [Lrd9, List.getD_cons_zero, List.getD_cons_succ]
       generalize Roll.putD Drd9 vs [6, 4] b0 = a1 at *
       refine Roll.goes_val (w' := p) (.int .i64 (n : Int)) rfl ?_ ⟨hI, Below.refl _ _, rfl⟩
       (have ⟨ec, ef⟩ := opn_a a1); generalize a1.eval = ρ at *
       clear h6 h4
       go_simp <;> (intros; first | (exfalso; omega) | rfl | omega)
      ·intro vs p hI hp
       have h5 : (vs 5) = .int .i64 (i : Int) := hp 5 (by simp [Lrd9])
       have h7 : (vs 7) = .int .i64 (n : Int) := hp 7 (by simp [Lrd9])
       have h4 : (vs 4) = .bool false := hp 4 (by simp [Lrd9])
       have e53 : (Roll.putD Drd9 vs [5, 7, 4] b0).eval (.tmp 53) = .int .i64 (i : Int) := (Roll.eval_new 5 rfl (by decide) (by decide) (by omega)).trans h5
       have e55 : (Roll.putD Drd9 vs [5, 7, 4] b0).eval (.tmp 55) = .int .i64 (n : Int) := (Roll.eval_new 7 rfl (by decide) (by decide) (by omega)).trans h7
       clear hp hlv hN
       refine ⟨fun hg => ?_, fun hg => absurd h4 hg⟩
       clear hg
       unfold Roll.Goes
       simp only [Lrd9, List.getD_cons_zero, List.getD_cons_succ]
       generalize Roll.putD Drd9 vs [5, 7, 4] b0 = a1 at *
       have f0 := HIN.out
       refine Roll.goes_val (w' := p) (.bool true) rfl ?_ ⟨hI, Below.refl _ _, rfl⟩
       (have ⟨ec, ef⟩ := opn_a a1); generalize a1.eval = ρ at *
       clear h5 h7 h4
       go_simp <;> (intros; first | (exfalso; omega) | rfl | omega)
      ·intro vs p hI hp
       have h8 : (vs 8) = .bool true := hp 8 (by simp [Lrd9])
       have h4 : (vs 4) = .bool false := hp 4 (by simp [Lrd9])
       have e56 : (Roll.putD Drd9 vs [8, 4] b0).eval (.tmp 56) = .bool true := (Roll.eval_new 8 rfl (by decide) (by decide) (by omega)).trans h8
       clear hp hlv hN
       refine ⟨fun hg => ?_, fun hg => absurd h4 hg⟩
       clear hg
       unfold Roll.Goes
       simp only [Lrd9, List.getD_cons_zero, List.getD_cons_succ]
       generalize Roll.putD Drd9 vs [8, 4] b0 = a1 at *
       refine Roll.goes_val (w' := p) (.bool true) rfl ?_ ⟨hI, Below.refl _ _, rfl⟩
       (have ⟨ec, ef⟩ := opn_a a1); generalize a1.eval = ρ at *
       clear h8 h4
       go_simp <;> (intros; first | (exfalso; omega) | rfl | omega)
      ·intro vs p hI hp
       have h9 : (vs 9) = .bool true := hp 9 (by simp [Lrd9])
       have e0 : (Roll.putD Drd9 vs [9] b0).eval (.tmp 0) = .slice (some ⟨ba, oa, none⟩) n c := (Roll.eval_old rfl).trans (hlv.at 0 (0, .slice (some ⟨ba, oa, none⟩) n c) rfl)
       clear hp hlv hN
       refine ⟨fun hg => ?_, fun hg => absurd h9 hg⟩
       clear hg
       unfold Roll.Goes
       simp only [Lrd9, List.getD_cons_zero, List.getD_cons_succ]
       generalize Roll.putD Drd9 vs [9] b0 = a1 at *
       refine Roll.goes_val (w' := p) (.slice (some ⟨ba, oa, none⟩) n c) rfl ?_ ⟨hI, Below.refl _ _, rfl⟩
       (have ⟨ec, ef⟩ := opn_a a1); generalize a1.eval = ρ at *
       clear h9
       go_simp <;> (intros; first | (exfalso; omega) | rfl | omega)
      ·intro vs p hI hp
       have h9 : (vs 9) = .bool true := hp 9 (by simp [Lrd9])
       have e6 : (Roll.putD Drd9 vs [9] b0).eval (.tmp 6) = .int .i64 (i : Int) := (Roll.eval_old rfl).trans (hlv.at 3 (6, .int .i64 (i : Int)) rfl)
       clear hp hlv hN
       refine ⟨fun hg => ?_, fun hg => absurd h9 hg⟩
       clear hg
       unfold Roll.Goes
       simp only [Lrd9, List.getD_cons_zero, List.getD_cons_succ]
       generalize Roll.putD Drd9 vs [9] b0 = a1 at *
       refine Roll.goes_val (w' := p) (.int .i64 (i : Int)) rfl ?_ ⟨hI, Below.refl _ _, rfl⟩
       (have ⟨ec, ef⟩ := opn_a a1); generalize a1.eval = ρ at *
       clear h9
       go_simp <;> (intros; first | (exfalso; omega) | rfl | omega)
      ·intro vs p hI hp
       have h9 : (vs 9) = .bool true := hp 9 (by simp [Lrd9])
       have e0 : (Roll.putD Drd9 vs [9] b0).eval (.tmp 0) = .slice (some ⟨ba, oa, none⟩) n c := (Roll.eval_old rfl).trans (hlv.at 0 (0, .slice (some ⟨ba, oa, none⟩) n c) rfl)
       clear hp hlv hN
       refine ⟨fun hg => ?_, fun hg => absurd h9 hg⟩
       clear hg
       unfold Roll.Goes
       simp only [Lrd9, List.getD_cons_zero, List.getD_cons_succ]
       generalize Roll.putD Drd9 vs [9] b0 = a1 at *
       refine Roll.goes_val (w' := p) (.slice (some ⟨ba, oa, none⟩) n c) rfl ?_ ⟨hI, Below.refl _ _, rfl⟩
       (have ⟨ec, ef⟩ := opn_a a1); generalize a1.eval = ρ at *
       clear h9
       go_simp <;> (intros; first | (exfalso; omega) | rfl | omega)
      ·intro vs p hI hp
       have h12 : (vs 12) = .slice (some ⟨ba, oa, none⟩) n c := hp 12 (by simp [Lrd9])
       have h9 : (vs 9) = .bool true := hp 9 (by simp [Lrd9])
       have e60 : (Roll.putD Drd9 vs [12, 9] b0).eval (.tmp 60) = .slice (some ⟨ba, oa, none⟩) n c := (Roll.eval_new 12 rfl (by decide) (by decide) (by omega)).trans h12
       clear hp hlv hN
       refine ⟨fun hg => ?_, fun hg => absurd h9 hg⟩
       clear hg
       unfold Roll.Goes
       simp only [Lrd9, List.getD_cons_zero, List.getD_cons_succ]
       generalize Roll.putD Drd9 vs [12, 9] b0 = a1 at *
       refine Roll.goes_val (w' := p) (.int .i64 (n : Int)) rfl ?_ ⟨hI, Below.refl _ _, rfl⟩
       (have ⟨ec, ef⟩ := opn_a a1); generalize a1.eval = ρ at *
       clear h12 h9
       go_simp <;> (intros; first | (exfalso; omega) | rfl | omega)
      ·intro vs p hI hp
       have h13 : (vs 13) = .int .i64 (n : Int) := hp 13 (by simp [Lrd9])
       have h9 : (vs 9) = .bool true := hp 9 (by simp [Lrd9])
       have e61 : (Roll.putD Drd9 vs [13, 9] b0).eval (.tmp 61) = .int .i64 (n : Int) := (Roll.eval_new 13 rfl (by decide) (by decide) (by omega)).trans h13
       clear hp hlv hN
       refine ⟨fun hg => ?_, fun hg => absurd h9 hg⟩
       clear hg
       unfold Roll.Goes
       simp only [Lrd9, List.getD_cons_zero, List.getD_cons_succ]
       generalize Roll.putD Drd9 vs [13, 9] b0 = a1 at *
       have f0 := HN1.out
       refine Roll.goes_val (w' := p) (.int .i64 ((n : Int) - 1)) rfl ?_ ⟨hI, Below.refl _ _, rfl⟩
       (have ⟨ec, ef⟩ := opn_a a1); generalize a1.eval = ρ at *
       clear h13 h9
       go_simp <;> (intros; first | (exfalso; omega) | rfl | omega)
      ·intro vs p hI hp
       have h11 : (vs 11) = .int .i64 (i : Int) := hp 11 (by simp [Lrd9])
       have h14 : (vs 14) = .int .i64 ((n : Int) - 1) := hp 14 (by simp [Lrd9])
       have h9 : (vs 9) = .bool true := hp 9 (by simp [Lrd9])
       have e59 : (Roll.putD Drd9 vs [11, 14, 9] b0).eval (.tmp 59) = .int .i64 (i : Int) := (Roll.eval_new 11 rfl (by decide) (by decide) (by omega)).trans h11
       have e62 : (Roll.putD Drd9 vs [11, 14, 9] b0).eval (.tmp 62) = .int .i64 ((n : Int) - 1) := (Roll.eval_new 14 rfl (by decide) (by decide) (by omega)).trans h14
       clear hp hlv hN
       refine ⟨fun hg => ?_, fun hg => absurd h9 hg⟩
       clear hg
       unfold Roll.Goes
       simp only [Lrd9, List.getD_cons_zero, List.getD_cons_succ]
       generalize Roll.putD Drd9 vs [11, 14, 9] b0 = a1 at *
       have f0 := HMI.out
       refine Roll.goes_val (w' := p) (.int .i64 (i : Int)) rfl ?_ ⟨hI, Below.refl _ _, rfl⟩
       (have ⟨ec, ef⟩ := opn_a a1); generalize a1.eval = ρ at *
       clear h11 h14 h9
       go_simp <;> (intros; first | (exfalso; omega) | rfl | omega)
      ·intro vs p hI hp
       have h10 : (vs 10) = .slice (some ⟨ba, oa, none⟩) n c := hp 10 (by simp [Lrd9])
       have h15 : (vs 15) = .int .i64 (i : Int) := hp 15 (by simp [Lrd9])
       have h9 : (vs 9) = .bool true := hp 9 (by simp [Lrd9])
       have e58 : (Roll.putD Drd9 vs [10, 15, 9] b0).eval (.tmp 58) = .slice (some ⟨ba, oa, none⟩) n c := (Roll.eval_new 10 rfl (by decide) (by decide) (by omega)).trans h10
       have e63 : (Roll.putD Drd9 vs [10, 15, 9] b0).eval (.tmp 63) = .int .i64 (i : Int) := (Roll.eval_new 15 rfl (by decide) (by decide) (by omega)).trans h15
       clear hp hlv hN
       refine ⟨fun hg => ?_, fun hg => absurd h9 hg⟩
       clear hg
       unfold Roll.Goes
       simp only [Lrd9, List.getD_cons_zero, List.getD_cons_succ]
       generalize Roll.putD Drd9 vs [10, 15, 9] b0 = a1 at *
       have f0 := HIN.out
       have f1 := HPA.out
       have f2 := HI0.out
       refine Roll.goes_val (w' := p) (.pointer (some ⟨ba, pa, none⟩)) rfl ?_ ⟨hI, Below.refl _ _, rfl⟩
       (have ⟨ec, ef⟩ := opn_a a1); generalize a1.eval = ρ at *
       clear h10 h15 h9
       go_simp <;> (intros; first | (exfalso; omega) | rfl | omega)
      ·intro vs p hI hp
       have h16 : (vs 16) = .pointer (some ⟨ba, pa, none⟩) := hp 16 (by simp [Lrd9])
       have h9 : (vs 9) = .bool true := hp 9 (by simp [Lrd9])
       have e64 : (Roll.putD Drd9 vs [16, 9] b0).eval (.tmp 64) = .pointer (some ⟨ba, pa, none⟩) := (Roll.eval_new 16 rfl (by decide) (by decide) (by omega)).trans h16
       clear hp hlv hN
       refine ⟨fun hg => ?_, fun hg => absurd h9 hg⟩
       clear hg
       unfold Roll.Goes
       simp only [Lrd9, List.getD_cons_zero, List.getD_cons_succ]
       generalize Roll.putD Drd9 vs [16, 9] b0 = a1 at *
       refine Roll.goes_val (w' := p) (.pointer (some ⟨ba, pa, none⟩)) rfl ?_ ⟨hI, Below.refl _ _, rfl⟩
       (have ⟨ec, ef⟩ := opn_a a1); generalize a1.eval = ρ at *
       clear h16 h9
       go_simp <;> (intros; first | (exfalso; omega) | rfl | omega)
      ·intro vs p hI hp
       have h17 : (vs 17) = .pointer (some ⟨ba, pa, none⟩) := hp 17 (by simp [Lrd9])
       have h9 : (vs 9) = .bool true := hp 9 (by simp [Lrd9])
       have e65 : (Roll.putD Drd9 vs [17, 9] b0).eval (.tmp 65) = .pointer (some ⟨ba, pa, none⟩) := (Roll.eval_new 17 rfl (by decide) (by decide) (by omega)).trans h17
       clear hp hlv hN
       refine ⟨fun hg => ?_, fun hg => absurd h9 hg⟩
       clear hg
       unfold Roll.Goes
       simp only [Lrd9, List.getD_cons_zero, List.getD_cons_succ]
       generalize Roll.putD Drd9 vs [17, 9] b0 = a1 at *
       have cf : p.cell? ⟨ba, pa, none⟩ = some (.string x.k) := (hI.cell (p := ⟨ba, pa, none⟩) HLA.out).trans HCA.out
       refine Roll.goes_val (w' := p) (.string x.k) rfl ?_ ⟨hI, Below.refl _ _, rfl⟩
       (have ⟨ec, ef⟩ := opn_a a1); generalize a1.eval = ρ at *
       clear h17 h9
       go_simp <;> (intros; first | (exfalso; omega) | rfl | omega)
      ·intro vs p hI hp
       have h9 : (vs 9) = .bool true := hp 9 (by simp [Lrd9])
       have e1 : (Roll.putD Drd9 vs [9] b0).eval (.tmp 1) = .slice (some ⟨bb, ob, none⟩) m e := (Roll.eval_old rfl).trans (hlv.at 1 (1, .slice (some ⟨bb, ob, none⟩) m e) rfl)
       clear hp hlv hN
       refine ⟨fun hg => ?_, fun hg => absurd h9 hg⟩
       clear hg
       unfold Roll.Goes
       simp only [Lrd9, List.getD_cons_zero, List.getD_cons_succ]
       generalize Roll.putD Drd9 vs [9] b0 = a1 at *
       refine Roll.goes_val (w' := p) (.slice (some ⟨bb, ob, none⟩) m e) rfl ?_ ⟨hI, Below.refl _ _, rfl⟩
       (have ⟨ec, ef⟩ := opn_a a1); generalize a1.eval = ρ at *
       clear h9
       go_simp <;> (intros; first | (exfalso; omega) | rfl | omega)
      ·intro vs p hI hp
       have h9 : (vs 9) = .bool true := hp 9 (by simp [Lrd9])
       have e7 : (Roll.putD Drd9 vs [9] b0).eval (.tmp 7) = .int .i64 (k : Int) := (Roll.eval_old rfl).trans (hlv.at 4 (7, .int .i64 (k : Int)) rfl)
       clear hp hlv hN
       refine ⟨fun hg => ?_, fun hg => absurd h9 hg⟩
       clear hg
       unfold Roll.Goes
       simp only [Lrd9, List.getD_cons_zero, List.getD_cons_succ]
       generalize Roll.putD Drd9 vs [9] b0 = a1 at *
       refine Roll.goes_val (w' := p) (.int .i64 (k : Int)) rfl ?_ ⟨hI, Below.refl _ _, rfl⟩
       (have ⟨ec, ef⟩ := opn_a a1); generalize a1.eval = ρ at *
       clear h9
       go_simp <;> (intros; first | (exfalso; omega) | rfl | omega)
      ·intro vs p hI hp
       have h9 : (vs 9) = .bool true := hp 9 (by simp [Lrd9])
       have e1 : (Roll.putD Drd9 vs [9] b0).eval (.tmp 1) = .slice (some ⟨bb, ob, none⟩) m e := (Roll.eval_old rfl).trans (hlv.at 1 (1, .slice (some ⟨bb, ob, none⟩) m e) rfl)
       clear hp hlv hN
       refine ⟨fun hg => ?_, fun hg => absurd h9 hg⟩
       clear hg
       unfold Roll.Goes
       simp only [Lrd9, List.getD_cons_zero, List.getD_cons_succ]
       generalize Roll.putD Drd9 vs [9] b0 = a1 at *
       refine Roll.goes_val (w' := p) (.slice (some ⟨bb, ob, none⟩) m e) rfl ?_ ⟨hI, Below.refl _ _, rfl⟩
       (have ⟨ec, ef⟩ := opn_a a1); generalize a1.eval = ρ at *
       clear h9
       go_simp <;> (intros; first | (exfalso; omega) | rfl | omega)
      ·intro vs p hI hp
       have h21 : (vs 21) = .slice (some ⟨bb, ob, none⟩) m e := hp 21 (by simp [Lrd9])
       have h9 : (vs 9) = .bool true := hp 9 (by simp [Lrd9])
       have e69 : (Roll.putD Drd9 vs [21, 9] b0).eval (.tmp 69) = .slice (some ⟨bb, ob, none⟩) m e := (Roll.eval_new 21 rfl (by decide) (by decide) (by omega)).trans h21
       clear hp hlv hN
       refine ⟨fun hg => ?_, fun hg => absurd h9 hg⟩
       clear hg
       unfold Roll.Goes
       simp only [Lrd9, List.getD_cons_zero, List.getD_cons_succ]
       generalize Roll.putD Drd9 vs [21, 9] b0 = a1 at *
       refine Roll.goes_val (w' := p) (.int .i64 (m : Int)) rfl ?_ ⟨hI, Below.refl _ _, rfl⟩
       (have ⟨ec, ef⟩ := opn_a a1); generalize a1.eval = ρ at *
       clear h21 h9
       go_simp <;> (intros; first | (exfalso; omega) | rfl | omega)
      ·intro vs p hI hp
       have h22 : (vs 22) = .int .i64 (m : Int) := hp 22 (by simp [Lrd9])
       have h9 : (vs 9) = .bool true := hp 9 (by simp [Lrd9])
       have e70 : (Roll.putD Drd9 vs [22, 9] b0).eval (.tmp 70) = .int .i64 (m : Int) := (Roll.eval_new 22 rfl (by decide) (by decide) (by omega)).trans h22
       clear hp hlv hN
       refine ⟨fun hg => ?_, fun hg => absurd h9 hg⟩
       clear hg
       unfold Roll.Goes
       simp only [Lrd9, List.getD_cons_zero, List.getD_cons_succ]
       generalize Roll.putD Drd9 vs [22, 9] b0 = a1 at *
       have f0 := HM1.out
       refine Roll.goes_val (w' := p) (.int .i64 ((m : Int) - 1)) rfl ?_ ⟨hI, Below.refl _ _, rfl⟩
       (have ⟨ec, ef⟩ := opn_a a1); generalize a1.eval = ρ at *
       clear h22 h9
       go_simp <;> (intros; first | (exfalso; omega) | rfl | omega)
      ·intro vs p hI hp
       have h20 : (vs 20) = .int .i64 (k : Int) := hp 20 (by simp [Lrd9])
       have h23 : (vs 23) = .int .i64 ((m : Int) - 1) := hp 23 (by simp [Lrd9])
       have h9 : (vs 9) = .bool true := hp 9 (by simp [Lrd9])
       have e68 : (Roll.putD Drd9 vs [20, 23, 9] b0).eval (.tmp 68) = .int .i64 (k : Int) := (Roll.eval_new 20 rfl (by decide) (by decide) (by omega)).trans h20
       have e71 : (Roll.putD Drd9 vs [20, 23, 9] b0).eval (.tmp 71) = .int .i64 ((m : Int) - 1) := (Roll.eval_new 23 rfl (by decide) (by decide) (by omega)).trans h23
       clear hp hlv hN
       refine ⟨fun hg => ?_, fun hg => absurd h9 hg⟩
       clear hg
       unfold Roll.Goes
       simp only [Lrd9, List.getD_cons_zero, List.getD_cons_succ]
       generalize Roll.putD Drd9 vs [20, 23, 9] b0 = a1 at *
       have f0 := HMK.out
       refine Roll.goes_val (w' := p) (.int .i64 (k : Int)) rfl ?_ ⟨hI, Below.refl _ _, rfl⟩
       (have ⟨ec, ef⟩ := opn_a a1); generalize a1.eval = ρ at *
       clear h20 h23 h9
       go_simp <;> (intros; first | (exfalso; omega) | rfl | omega)
      ·intro vs p hI hp
       have h19 : (vs 19) = .slice (some ⟨bb, ob, none⟩) m e := hp 19 (by simp [Lrd9])
       have h24 : (vs 24) = .int .i64 (k : Int) := hp 24 (by simp [Lrd9])
       have h9 : (vs 9) = .bool true := hp 9 (by simp [Lrd9])
       have e67 : (Roll.putD Drd9 vs [19, 24, 9] b0).eval (.tmp 67) = .slice (some ⟨bb, ob, none⟩) m e := (Roll.eval_new 19 rfl (by decide) (by decide) (by omega)).trans h19
       have e72 : (Roll.putD Drd9 vs [19, 24, 9] b0).eval (.tmp 72) = .int .i64 (k : Int) := (Roll.eval_new 24 rfl (by decide) (by decide) (by omega)).trans h24
       clear hp hlv hN
       refine ⟨fun hg => ?_, fun hg => absurd h9 hg⟩
       clear hg
       unfold Roll.Goes
       simp only [Lrd9, List.getD_cons_zero, List.getD_cons_succ]
       generalize Roll.putD Drd9 vs [19, 24, 9] b0 = a1 at *
       have f0 := HKN.out
       have f1 := HPB.out
       have f2 := HK0.out
       refine Roll.goes_val (w' := p) (.pointer (some ⟨bb, pb, none⟩)) rfl ?_ ⟨hI, Below.refl _ _, rfl⟩
       (have ⟨ec, ef⟩ := opn_a a1); generalize a1.eval = ρ at *
       clear h19 h24 h9
       go_simp <;> (intros; first | (exfalso; omega) | rfl | omega)
      ·intro vs p hI hp
       have h25 : (vs 25) = .pointer (some ⟨bb, pb, none⟩) := hp 25 (by simp [Lrd9])
       have h9 : (vs 9) = .bool true := hp 9 (by simp [Lrd9])
       have e73 : (Roll.putD Drd9 vs [25, 9] b0).eval (.tmp 73) = .pointer (some ⟨bb, pb, none⟩) := (Roll.eval_new 25 rfl (by decide) (by decide) (by omega)).trans h25
       clear hp hlv hN
       refine ⟨fun hg => ?_, fun hg => absurd h9 hg⟩
       clear hg
       unfold Roll.Goes
       simp only [Lrd9, List.getD_cons_zero, List.getD_cons_succ]
       generalize Roll.putD Drd9 vs [25, 9] b0 = a1 at *
       refine Roll.goes_val (w' := p) (.pointer (some ⟨bb, pb, none⟩)) rfl ?_ ⟨hI, Below.refl _ _, rfl⟩
       (have ⟨ec, ef⟩ := opn_a a1); generalize a1.eval = ρ at *
       clear h25 h9
       go_simp <;> (intros; first | (exfalso; omega) | rfl | omega)
      ·intro vs p hI hp
       have h26 : (vs 26) = .pointer (some ⟨bb, pb, none⟩) := hp 26 (by simp [Lrd9])
       have h9 : (vs 9) = .bool true := hp 9 (by simp [Lrd9])
       have e74 : (Roll.putD Drd9 vs [26, 9] b0).eval (.tmp 74) = .pointer (some ⟨bb, pb, none⟩) := (Roll.eval_new 26 rfl (by decide) (by decide) (by omega)).trans h26
       clear hp hlv hN
       refine ⟨fun hg => ?_, fun hg => absurd h9 hg⟩
       clear hg
       unfold Roll.Goes
       simp only [Lrd9, List.getD_cons_zero, List.getD_cons_succ]
       generalize Roll.putD Drd9 vs [26, 9] b0 = a1 at *
       have cf : p.cell? ⟨bb, pb, none⟩ = some (.string y.k) := (hI.cell (p := ⟨bb, pb, none⟩) HLB.out).trans HCB.out
       refine Roll.goes_val (w' := p) (.string y.k) rfl ?_ ⟨hI, Below.refl _ _, rfl⟩
       (have ⟨ec, ef⟩ := opn_a a1); generalize a1.eval = ρ at *
       clear h26 h9
       go_simp <;> (intros; first | (exfalso; omega) | rfl | omega)
      ·intro vs p hI hp
       have h18 : (vs 18) = .string x.k := hp 18 (by simp [Lrd9])
       have h27 : (vs 27) = .string y.k := hp 27 (by simp [Lrd9])
       have h9 : (vs 9) = .bool true := hp 9 (by simp [Lrd9])
       have e66 : (Roll.putD Drd9 vs [18, 27, 9] b0).eval (.tmp 66) = .string x.k := (Roll.eval_new 18 rfl (by decide) (by decide) (by omega)).trans h18
       have e75 : (Roll.putD Drd9 vs [18, 27, 9] b0).eval (.tmp 75) = .string y.k := (Roll.eval_new 27 rfl (by decide) (by decide) (by omega)).trans h27
       clear hp hlv hN
       refine ⟨fun hg => ?_, fun hg => absurd h9 hg⟩
       clear hg
       unfold Roll.Goes
       simp only [Lrd9, List.getD_cons_zero, List.getD_cons_succ]
       generalize Roll.putD Drd9 vs [18, 27, 9] b0 = a1 at *
       have f0 := HLS.out
       refine Roll.goes_val (w' := p) (.bool true) rfl ?_ ⟨hI, Below.refl _ _, rfl⟩
       (have ⟨ec, ef⟩ := opn_a a1); generalize a1.eval = ρ at *
       clear h18 h27 h9
       go_simp <;> (intros; first | (exfalso; omega) | rfl | omega)
      ·intro vs p hI hp
       have h9 : (vs 9) = .bool true := hp 9 (by simp [Lrd9])
       have h28 : (vs 28) = .bool true := hp 28 (by simp [Lrd9])
       have h4 : (vs 4) = .bool false := hp 4 (by simp [Lrd9])
       have e57 : (Roll.putD Drd9 vs [9, 28, 4] b0).eval (.tmp 57) = .bool true := (Roll.eval_new 9 rfl (by decide) (by decide) (by omega)).trans h9
       have e76 : (Roll.putD Drd9 vs [9, 28, 4] b0).eval (.tmp 76) = .bool true := (Roll.eval_new 28 rfl (by decide) (by decide) (by omega)).trans h28
       clear hp hlv hN
       refine ⟨fun hg => ?_, fun hg => absurd h4 hg⟩
       clear hg
       unfold Roll.Goes
       simp only [Lrd9, List.getD_cons_zero, List.getD_cons_succ]
       generalize Roll.putD Drd9 vs [9, 28, 4] b0 = a1 at *
       refine Roll.goes_val (w' := p) (.bool true) rfl ?_ ⟨hI, Below.refl _ _, rfl⟩
       (have ⟨ec, ef⟩ := opn_a a1); generalize a1.eval = ρ at *
       clear h9 h28 h4
       go_simp <;> (intros; first | (exfalso; omega) | rfl | omega)
      ·intro vs p hI hp
       have h4 : (vs 4) = .bool false := hp 4 (by simp [Lrd9])
       have h29 : (vs 29) = .bool true := hp 29 (by simp [Lrd9])
       have e52 : (Roll.putD Drd9 vs [4, 29] b0).eval (.tmp 52) = .bool false := (Roll.eval_new 4 rfl (by decide) (by decide) (by omega)).trans h4
       have e77 : (Roll.putD Drd9 vs [4, 29] b0).eval (.tmp 77) = .bool true := (Roll.eval_new 29 rfl (by decide) (by decide) (by omega)).trans h29
       clear hp hlv hN
       unfold Roll.Goes
       simp only [Lrd9, List.getD_cons_zero, List.getD_cons_succ]
       generalize Roll.putD Drd9 vs [4, 29] b0 = a1 at *
       refine Roll.goes_val (w' := p) (.bool true) rfl ?_ ⟨hI, Below.refl _ _, rfl⟩
       (have ⟨ec, ef⟩ := opn_a a1); generalize a1.eval = ρ at *
       clear h4 h29
       go_simp <;> (intros; first | (exfalso; omega) | rfl | omega)
      ·intro vs p hI hp
       have h30 : (vs 30) = .bool true := hp 30 (by simp [Lrd9])
       have e78 : (Roll.putD Drd9 vs [30] b0).eval (.tmp 78) = .bool true := (Roll.eval_new 30 rfl (by decide) (by decide) (by omega)).trans h30
       clear hp hlv hN
       unfold Roll.Goes
       simp only [Lrd9, List.getD_cons_zero, List.getD_cons_succ]
       generalize Roll.putD Drd9 vs [30] b0 = a1 at *
       refine Roll.goes_val (w' := p) (.bool true) rfl ?_ ⟨hI, Below.refl _ _, rfl⟩
       (have ⟨ec, ef⟩ := opn_a a1); generalize a1.eval = ρ at *
       clear h30
       go_simp <;> (intros; first | (exfalso; omega) | rfl | omega)
     ·intro vs p hI hR
      have h0 : (vs 0) = .int .i64 (k : Int) := hR 0 (by omega)
      have h1 : (vs 1) = .slice (some ⟨bb, ob, none⟩) m e := hR 1 (by omega)
      have h2 : (vs 2) = .int .i64 (m : Int) := hR 2 (by omega)
      have h3 : (vs 3) = .bool false := hR 3 (by omega)
      have h4 : (vs 4) = .bool false := hR 4 (by omega)
      have h5 : (vs 5) = .int .i64 (i : Int) := hR 5 (by omega)
      have h6 : (vs 6) = .slice (some ⟨ba, oa, none⟩) n c := hR 6 (by omega)
      have h7 : (vs 7) = .int .i64 (n : Int) := hR 7 (by omega)
      have h8 : (vs 8) = .bool true := hR 8 (by omega)
      have h9 : (vs 9) = .bool true := hR 9 (by omega)
      have h10 : (vs 10) = .slice (some ⟨ba, oa, none⟩) n c := hR 10 (by omega)
      have h11 : (vs 11) = .int .i64 (i : Int) := hR 11 (by omega)
      have h12 : (vs 12) = .slice (some ⟨ba, oa, none⟩) n c := hR 12 (by omega)
      have h13 : (vs 13) = .int .i64 (n : Int) := hR 13 (by omega)
      have h14 : (vs 14) = .int .i64 ((n : Int) - 1) := hR 14 (by omega)
      have h15 : (vs 15) = .int .i64 (i : Int) := hR 15 (by omega)
      have h16 : (vs 16) = .pointer (some ⟨ba, pa, none⟩) := hR 16 (by omega)
      have h17 : (vs 17) = .pointer (some ⟨ba, pa, none⟩) := hR 17 (by omega)
      have h18 : (vs 18) = .string x.k := hR 18 (by omega)
      have h19 : (vs 19) = .slice (some ⟨bb, ob, none⟩) m e := hR 19 (by omega)
      have h20 : (vs 20) = .int .i64 (k : Int) := hR 20 (by omega)
      have h21 : (vs 21) = .slice (some ⟨bb, ob, none⟩) m e := hR 21 (by omega)
      have h22 : (vs 22) = .int .i64 (m : Int) := hR 22 (by omega)
      have h23 : (vs 23) = .int .i64 ((m : Int) - 1) := hR 23 (by omega)
      have h24 : (vs 24) = .int .i64 (k : Int) := hR 24 (by omega)
      have h25 : (vs 25) = .pointer (some ⟨bb, pb, none⟩) := hR 25 (by omega)
      have h26 : (vs 26) = .pointer (some ⟨bb, pb, none⟩) := hR 26 (by omega)
      have h27 : (vs 27) = .string y.k := hR 27 (by omega)
      have h28 : (vs 28) = .bool true := hR 28 (by omega)
      have h29 : (vs 29) = .bool true := hR 29 (by omega)
      have h30 : (vs 30) = .bool true := hR 30 (by omega)
      have h31 : (vs 31) = .bool true := hR 31 (by omega)
      clear hR
      simp only [List.range_succ, List.range_zero, List.nil_append, List.cons_append, Roll.putD, Act.put, List.getD_cons_zero, List.getD_cons_succ, List.setIfInBounds_toArray, List.set_cons_zero, List.set_cons_succ, List.drop_succ_cons, List.drop_zero, Drd9]
      simp only [h0, h1, h2, h3, h4, h5, h6, h7, h8, h9, h10, h11, h12, h13, h14, h15, h16, h17, h18, h19, h20, h21, h22, h23, h24, h25, h26, h27, h28, h29, h30, h31]
      clear h0 h1 h2 h3 h4 h5 h6 h7 h8 h9 h10 h11 h12 h13 h14 h15 h16 h17 h18 h19 h20 h21 h22 h23 h24 h25 h26 h27 h28 h29 h30 h31
      obtain ⟨p9, hp9⟩ : ∃ z, z = p := ⟨_, rfl⟩
      subst hp9
      have HI9 := Lib.hid hI
      have c0 : p9.cell? ⟨ba, pa, none⟩ = some (.string x.k) := (hI.cell (p := ⟨ba, pa, none⟩) HLA.out).trans HCA.out
      have f0 := HIN2.out
      have f1 := HPA.out
      have f2 := HI0.out
      clear hI
      apply wpList_nil
      go_step
      go_step
      go_wp2_with (at_builtin; refine wpList_append_any _ rfl (.tmp 79) (.tmp 86) 56 56 rfl 61 i0 (.agg #[.string ⟨#[]⟩, .string ⟨#[]⟩, .bool false]) 3 40 Try.underlying56 hi hz0 hz1 hz2 rfl v0.ownBlock v0 es.length (ecells es) rfl (HOW.out.1.kept ((Kept.of_below (fun _ => False) HI9.out).alloc _) (fun _ _ h => h)) 1 (ecells [remE x]) (one_srcE _ (remE x) (World.alloc_heap_new p9 _)) HBD.out.1 HBD.out.2 ?_; intro k9 v9 w9 ho9 hf9 hK9 _; obtain ⟨hro9, hbe9⟩ := rd_app (e1 := remE x) HB.out HOW.out.2 (HI9.out.trans ((Below.refl _ p9).alloc (Nat.le_refl _) _ |>.mono HI9.out.size)) ho9 (fun j hj => (hf9 j hj).imp id (fun e => by rw [World.size_alloc] at e; have := HI9.out.size; omega)) hK9; have HRO9 := Lib.hid hro9; have HBE9 := Lib.hid hbe9; clear ho9 hf9 hK9 hro9 hbe9)
      go_roundw
      case rel =>
       refine ⟨i + 1, k, v9, es ++ [remE x], rfl, by go_num, rfl, by have := HI2.out; omega, by omega, HRO9.out, ?_, by rw [List.length_append]; simp only [List.length_cons, List.length_nil]; have := HEL.out; omega, HBE9.out⟩
       have h := HD.out
       rw [HDX.out, HDY.out, diffR, if_pos (by have h2 := HLS.out; rw [less_cmpK] at h2; simpa using h2), ← HDY.out] at h
       rw [← h, List.append_assoc]
       all_goals rfl
      case measure => (try go_num); (try (simp only [intOf])); have := HI2.out; omega
    ·have HLS : Hid (Op.bytesLess x.k.toList y.k.toList = false) := Lib.hid (by rw [less_cmpK]; simpa using hless)
     have HNL : Hid (¬ cmpK x.k y.k < 0) := Lib.hid hless
     clear hless
     go_upto_region 9 with fail
     refine Roll.region_f 32 125 Drd9 Lrd9 [(0, .slice (some ⟨ba, oa, none⟩) n c), (1, .slice (some ⟨bb, ob, none⟩) m e), (5, v0), (6, .int .i64 (i : Int)), (7, .int .i64 (k : Int))] (fun p => Below wr.heap.size wr p) (fun p p2 => Below p.heap.size p p2) [fun vv p => vv = .int .i64 (k : Int), fun vv p => vv = .slice (some ⟨bb, ob, none⟩) m e, fun vv p => vv = .int .i64 (m : Int), fun vv p => vv = .bool false, fun vv p => vv = .bool false, fun vv p => vv = .int .i64 (i : Int), fun vv p => vv = .slice (some ⟨ba, oa, none⟩) n c, fun vv p => vv = .int .i64 (n : Int), fun vv p => vv = .bool true, fun vv p => vv = .bool true, fun vv p => vv = .slice (some ⟨ba, oa, none⟩) n c, fun vv p => vv = .int .i64 (i : Int), fun vv p => vv = .slice (some ⟨ba, oa, none⟩) n c, fun vv p => vv = .int .i64 (n : Int), fun vv p => vv = .int .i64 ((n : Int) - 1), fun vv p => vv = .int .i64 (i : Int), fun vv p => vv = .pointer (some ⟨ba, pa, none⟩), fun vv p => vv = .pointer (some ⟨ba, pa, none⟩), fun vv p => vv = .string x.k, fun vv p => vv = .slice (some ⟨bb, ob, none⟩) m e, fun vv p => vv = .int .i64 (k : Int), fun vv p => vv = .slice (some ⟨bb, ob, none⟩) m e, fun vv p => vv = .int .i64 (m : Int), fun vv p => vv = .int .i64 ((m : Int) - 1), fun vv p => vv = .int .i64 (k : Int), fun vv p => vv = .pointer (some ⟨bb, pb, none⟩), fun vv p => vv = .pointer (some ⟨bb, pb, none⟩), fun vv p => vv = .string y.k, fun vv p => vv = .bool false, fun vv p => vv = .bool false, fun vv p => vv = .bool false, fun vv p => vv = .bool false] (by kernel_rfl) (by kernel_rfl) rfl ⟨rfl, rfl, rfl, rfl, rfl, trivial⟩ ((Below.refl _ _).drew) ?_ ?_ ?_
     ·exact ⟨fun _ _ _ _ h => h, fun _ _ _ _ h => h, fun _ _ _ _ h => h, fun _ _ _ _ h => h, fun _ _ _ _ h => h, fun _ _ _ _ h => h, fun _ _ _ _ h => h, fun _ _ _ _ h => h, fun _ _ _ _ h => h, fun _ _ _ _ h => h, fun _ _ _ _ h => h, fun _ _ _ _ h => h, fun _ _ _ _ h => h, fun _ _ _ _ h => h, fun _ _ _ _ h => h, fun _ _ _ _ h => h, fun _ _ _ _ h => h, fun _ _ _ _ h => h, fun _ _ _ _ h => h, fun _ _ _ _ h => h, fun _ _ _ _ h => h, fun _ _ _ _ h => h, fun _ _ _ _ h => h, fun _ _ _ _ h => h, fun _ _ _ _ h => h, fun _ _ _ _ h => h, fun _ _ _ _ h => h, fun _ _ _ _ h => h, fun _ _ _ _ h => h, fun _ _ _ _ h => h, fun _ _ _ _ h => h, fun _ _ _ _ h => h, trivial⟩
     ·intro b0 hN hlv
      refine ⟨?_, ?_, ?_, ?_, ?_, ?_, ?_, ?_, ?_, ?_, ?_, ?_, ?_, ?_, ?_, ?_, ?_, ?_, ?_, ?_, ?_, ?_, ?_, ?_, ?_, ?_, ?_, ?_, ?_, ?_, ?_, ?_, trivial⟩
      ·intro vs p hI hp
       have e7 : (Roll.putD Drd9 vs [] b0).eval (.tmp 7) = .int .i64 (k : Int) := (Roll.eval_old rfl).trans (hlv.at 4 (7, .int .i64 (k : Int)) rfl)
       clear hp hlv hN
       unfold Roll.Goes
       simp only [Lrd9, List.getD_cons_zero, List.getD_cons_succ]
       generalize Roll.putD Drd9 vs [] b0 = a1 at *
       refine Roll.goes_val (w' := p) (.int .i64 (k : Int)) rfl ?_ ⟨hI, Below.refl _ _, rfl⟩
       (have ⟨ec, ef⟩ := opn_a a1); generalize a1.eval = ρ at *
       skip
       go_simp <;> (intros; first | (exfalso; omega) | rfl | omega)
      ·intro vs p hI hp
       have e1 : (Roll.putD Drd9 vs [] b0).eval (.tmp 1) = .slice (some ⟨bb, ob, none⟩) m e := (Roll.eval_old rfl).trans (hlv.at 1 (1, .slice (some ⟨bb, ob, none⟩) m e) rfl)
       clear hp hlv hN
       unfold Roll.Goes
       simp only [Lrd9, List.getD_cons_zero, List.getD_cons_succ]
       generalize Roll.putD Drd9 vs [] b0 = a1 at *
       refine Roll.goes_val (w' := p) (.slice (some ⟨bb, ob, none⟩) m e) rfl ?_ ⟨hI, Below.refl _ _, rfl⟩
       (have ⟨ec, ef⟩ := opn_a a1); generalize a1.eval = ρ at *
       skip
       go_simp <;> (intros; first | (exfalso; omega) | rfl | omega)
      ·intro vs p hI hp
       have h1 : (vs 1) = .slice (some ⟨bb, ob, none⟩) m e := hp 1 (by simp [Lrd9])
       have e49 : (Roll.putD Drd9 vs [1] b0).eval (.tmp 49) = .slice (some ⟨bb, ob, none⟩) m e := (Roll.eval_new 1 rfl (by decide) (by decide) (by omega)).trans h1
       clear hp hlv hN
       unfold Roll.Goes
       simp only [Lrd9, List.getD_cons_zero, List.getD_cons_succ]
       generalize Roll.putD Drd9 vs [1] b0 = a1 at *
       refine Roll.goes_val (w' := p) (.int .i64 (m : Int)) rfl ?_ ⟨hI, Below.refl _ _, rfl⟩
       (have ⟨ec, ef⟩ := opn_a a1); generalize a1.eval = ρ at *
       clear h1
       go_simp <;> (intros; first | (exfalso; omega) | rfl | omega)
      ·intro vs p hI hp
       have h0 : (vs 0) = .int .i64 (k : Int) := hp 0 (by simp [Lrd9])
       have h2 : (vs 2) = .int .i64 (m : Int) := hp 2 (by simp [Lrd9])
       have e48 : (Roll.putD Drd9 vs [0, 2] b0).eval (.tmp 48) = .int .i64 (k : Int) := (Roll.eval_new 0 rfl (by decide) (by decide) (by omega)).trans h0
       have e50 : (Roll.putD Drd9 vs [0, 2] b0).eval (.tmp 50) = .int .i64 (m : Int) := (Roll.eval_new 2 rfl (by decide) (by decide) (by omega)).trans h2
       clear hp hlv hN
       unfold Roll.Goes
       simp only [Lrd9, List.getD_cons_zero, List.getD_cons_succ]
       generalize Roll.putD Drd9 vs [0, 2] b0 = a1 at *
       have f0 := HKM.out
       refine Roll.goes_val (w' := p) (.bool false) rfl ?_ ⟨hI, Below.refl _ _, rfl⟩
       (have ⟨ec, ef⟩ := opn_a a1); generalize a1.eval = ρ at *
       clear h0 h2
       go_simp <;> (intros; first | (exfalso; omega) | rfl | omega)
      ·intro vs p hI hp
       have h3 : (vs 3) = .bool false := hp 3 (by simp [Lrd9])
       have e51 : (Roll.putD Drd9 vs [3] b0).eval (.tmp 51) = .bool false := (Roll.eval_new 3 rfl (by decide) (by decide) (by omega)).trans h3
       clear hp hlv hN
       unfold Roll.Goes
       simp only [Lrd9, List.getD_cons_zero, List.getD_cons_succ]
       generalize Roll.putD Drd9 vs [3] b0 = a1 at *
       refine Roll.goes_val (w' := p) (.bool false) rfl ?_ ⟨hI, Below.refl _ _, rfl⟩
       (have ⟨ec, ef⟩ := opn_a a1); generalize a1.eval = ρ at *
       clear h3
       go_simp <;> (intros; first | (exfalso; omega) | rfl | omega)
      ·intro vs p hI hp
       have h4 : (vs 4) = .bool false := hp 4 (by simp [Lrd9])
       have e6 : (Roll.putD Drd9 vs [4] b0).eval (.tmp 6) = .int .i64 (i : Int) := (Roll.eval_old rfl).trans (hlv.at 3 (6, .int .i64 (i : Int)) rfl)
       clear hp hlv hN
       refine ⟨fun hg => ?_, fun hg => absurd h4 hg⟩
       clear hg
       unfold Roll.Goes
       simp only [Lrd9, List.getD_cons_zero, List.getD_cons_succ]
       generalize Roll.putD Drd9 vs [4] b0 = a1 at *
       refine Roll.goes_val (w' := p) (.int .i64 (i : Int)) rfl ?_ ⟨hI, Below.refl _ _, rfl⟩
       (have ⟨ec, ef⟩ := opn_a a1); generalize a1.eval = ρ at *
       clear h4
       go_simp <;> (intros; first | (exfalso; omega) | rfl | omega)
      ·intro vs p hI hp
       have h4 : (vs 4) = .bool false := hp 4 (by simp [Lrd9])
       have e0 : (Roll.putD Drd9 vs [4] b0).eval (.tmp 0) = .slice (some ⟨ba, oa, none⟩) n c := (Roll.eval_old rfl).trans (hlv.at 0 (0, .slice (some ⟨ba, oa, none⟩) n c) rfl)
       clear hp hlv hN
       refine ⟨fun hg => ?_, fun hg => absurd h4 hg⟩
       clear hg
       unfold Roll.Goes
       simp only [Lrd9, List.getD_cons_zero, List.getD_cons_succ]
       generalize Roll.putD Drd9 vs [4] b0 = a1 at *
       refine Roll.goes_val (w' := p) (.slice (some ⟨ba, oa, none⟩) n c) rfl ?_ ⟨hI, Below.refl _ _, rfl⟩
       (have ⟨ec, ef⟩ := opn_a a1); generalize a1.eval = ρ at *
       clear h4
       go_simp <;> (intros; first | (exfalso; omega) | rfl | omega)
      ·intro vs p hI hp
       have h6 : (vs 6) = .slice (some ⟨ba, oa, none⟩) n c := hp 6 (by simp [Lrd9])
       have h4 : (vs 4) = .bool false := hp 4 (by simp [Lrd9])
       have e54 : (Roll.putD Drd9 vs [6, 4] b0).eval (.tmp 54) = .slice (some ⟨ba, oa, none⟩) n c := (Roll.eval_new 6 rfl (by decide) (by decide) (by omega)).trans h6
       clear hp hlv hN
       refine ⟨fun hg => ?_, fun hg => absurd h4 hg⟩
       clear hg
       unfold Roll.Goes
       simp only [Lrd9, List.getD_cons_zero, List.getD_cons_succ]
       generalize Roll.putD Drd9 vs [6, 4] b0 = a1 at *
       refine Roll.goes_val (w' := p) (.int .i64 (n : Int)) rfl ?_ ⟨hI, Below.refl _ _, rfl⟩
       (have ⟨ec, ef⟩ := opn_a a1); generalize a1.eval = ρ at *
       clear h6 h4
       go_simp <;> (intros; first | (exfalso; omega) | rfl | omega)
      ·intro vs p hI hp
       have h5 : (vs 5) = .int .i64 (i : Int) := hp 5 (by simp [Lrd9])
       have h7 : (vs 7) = .int .i64 (n : Int) := hp 7 (by simp [Lrd9])
       have h4 : (vs 4) = .bool false := hp 4 (by simp [Lrd9])
       have e53 : (Roll.putD Drd9 vs [5, 7, 4] b0).eval (.tmp 53) = .int .i64 (i : Int) := (Roll.eval_new 5 rfl (by decide) (by decide) (by omega)).trans h5
       have e55 : (Roll.putD Drd9 vs [5, 7, 4] b0).eval (.tmp 55) = .int .i64 (n : Int) := (Roll.eval_new 7 rfl (by decide) (by decide) (by omega)).trans h7
       clear hp hlv hN
       refine ⟨fun hg => ?_, fun hg => absurd h4 hg⟩
       clear hg
       unfold Roll.Goes
       simp only [Lrd9, List.getD_cons_zero, List.getD_cons_succ]
       generalize Roll.putD Drd9 vs [5, 7, 4] b0 = a1 at *
       have f0 := HIN.out
       refine Roll.goes_val (w' := p) (.bool true) rfl ?_ ⟨hI, Below.refl _ _, rfl⟩
       (have ⟨ec, ef⟩ := opn_a a1); generalize a1.eval = ρ at *
       clear h5 h7 h4
       go_simp <;> (intros; first | (exfalso; omega) | rfl | omega)
      ·intro vs p hI hp
       have h8 : (vs 8) = .bool true := hp 8 (by simp [Lrd9])
       have h4 : (vs 4) = .bool false := hp 4 (by simp [Lrd9])
       have e56 : (Roll.putD Drd9 vs [8, 4] b0).eval (.tmp 56) = .bool true := (Roll.eval_new 8 rfl (by decide) (by decide) (by omega)).trans h8
       clear hp hlv hN
       refine ⟨fun hg => ?_, fun hg => absurd h4 hg⟩
       clear hg
       unfold Roll.Goes
       simp only [Lrd9, List.getD_cons_zero, List.getD_cons_succ]
       generalize Roll.putD Drd9 vs [8, 4] b0 = a1 at *
       refine Roll.goes_val (w' := p) (.bool true) rfl ?_ ⟨hI, Below.refl _ _, rfl⟩
       (have ⟨ec, ef⟩ := opn_a a1); generalize a1.eval = ρ at *
       clear h8 h4
       go_simp <;> (intros; first | (exfalso; omega) | rfl | omega)
      ·intro vs p hI hp
       have h9 : (vs 9) = .bool true := hp 9 (by simp [Lrd9])
       have e0 : (Roll.putD Drd9 vs [9] b0).eval (.tmp 0) = .slice (some ⟨ba, oa, none⟩) n c := (Roll.eval_old rfl).trans (hlv.at 0 (0, .slice (some ⟨ba, oa, none⟩) n c) rfl)
       clear hp hlv hN
       refine ⟨fun hg => ?_, fun hg => absurd h9 hg⟩
       clear hg
       unfold Roll.Goes
       simp only [Lrd9, List.getD_cons_zero, List.getD_cons_succ]
       generalize Roll.putD Drd9 vs [9] b0 = a1 at *
       refine Roll.goes_val (w' := p) (.slice (some ⟨ba, oa, none⟩) n c) rfl ?_ ⟨hI, Below.refl _ _, rfl⟩
       (have ⟨ec, ef⟩ := opn_a a1); generalize a1.eval = ρ at *
       clear h9
       go_simp <;> (intros; first | (exfalso; omega) | rfl | omega)
      ·intro vs p hI hp
       have h9 : (vs 9) = .bool true := hp 9 (by simp [Lrd9])
       have e6 : (Roll.putD Drd9 vs [9] b0).eval (.tmp 6) = .int .i64 (i : Int) := (Roll.eval_old rfl).trans (hlv.at 3 (6, .int .i64 (i : Int)) rfl)
       clear hp hlv hN
       refine ⟨fun hg => ?_, fun hg => absurd h9 hg⟩
       clear hg
       unfold Roll.Goes
       simp only [Lrd9, List.getD_cons_zero, List.getD_cons_succ]
       generalize Roll.putD Drd9 vs [9] b0 = a1 at *
       refine Roll.goes_val (w' := p) (.int .i64 (i : Int)) rfl ?_ ⟨hI, Below.refl _ _, rfl⟩
       (have ⟨ec, ef⟩ := opn_a a1); generalize a1.eval = ρ at *
       clear h9
       go_simp <;> (intros; first | (exfalso; omega) | rfl | omega)
      ·intro vs p hI hp
       have h9 : (vs 9) = .bool true := hp 9 (by simp [Lrd9])
       have e0 : (Roll.putD Drd9 vs [9] b0).eval (.tmp 0) = .slice (some ⟨ba, oa, none⟩) n c := (Roll.eval_old rfl).trans (hlv.at 0 (0, .slice (some ⟨ba, oa, none⟩) n c) rfl)
       clear hp hlv hN
       refine ⟨fun hg => ?_, fun hg => absurd h9 hg⟩
       clear hg
       unfold Roll.Goes
       simp only [Lrd9, List.getD_cons_zero, List.getD_cons_succ]
       generalize Roll.putD Drd9 vs [9] b0 = a1 at *
       refine Roll.goes_val (w' := p) (.slice (some ⟨ba, oa, none⟩) n c) rfl ?_ ⟨hI, Below.refl _ _, rfl⟩
       (have ⟨ec, ef⟩ := opn_a a1); generalize a1.eval = ρ at *
       clear h9
       go_simp <;> (intros; first | (exfalso; omega) | rfl | omega)
      ·intro vs p hI hp
       have h12 : (vs 12) = .slice (some ⟨ba, oa, none⟩) n c := hp 12 (by simp [Lrd9])
       have h9 : (vs 9) = .bool true := hp 9 (by simp [Lrd9])
       have e60 : (Roll.putD Drd9 vs [12, 9] b0).eval (.tmp 60) = .slice (some ⟨ba, oa, none⟩) n c := (Roll.eval_new 12 rfl (by decide) (by decide) (by omega)).trans h12
       clear hp hlv hN
       refine ⟨fun hg => ?_, fun hg => absurd h9 hg⟩
       clear hg
       unfold Roll.Goes
       simp only [Lrd9, List.getD_cons_zero, List.getD_cons_succ]
       generalize Roll.putD Drd9 vs [12, 9] b0 = a1 at *
       refine Roll.goes_val (w' := p) (.int .i64 (n : Int)) rfl ?_ ⟨hI, Below.refl _ _, rfl⟩
       (have ⟨ec, ef⟩ := opn_a a1); generalize a1.eval = ρ at *
       clear h12 h9
       go_simp <;> (intros; first | (exfalso; omega) | rfl | omega)
      ·intro vs p hI hp
       have h13 : (vs 13) = .int .i64 (n : Int) := hp 13 (by simp [Lrd9])
       have h9 : (vs 9) = .bool true := hp 9 (by simp [Lrd9])
       have e61 : (Roll.putD Drd9 vs [13, 9] b0).eval (.tmp 61) = .int .i64 (n : Int) := (Roll.eval_new 13 rfl (by decide) (by decide) (by omega)).trans h13
       clear hp hlv hN
       refine ⟨fun hg => ?_, fun hg => absurd h9 hg⟩
       clear hg
       unfold Roll.Goes
       simp only [Lrd9, List.getD_cons_zero, List.getD_cons_succ]
       generalize Roll.putD Drd9 vs [13, 9] b0 = a1 at *
       have f0 := HN1.out
       refine Roll.goes_val (w' := p) (.int .i64 ((n : Int) - 1)) rfl ?_ ⟨hI, Below.refl _ _, rfl⟩
       (have ⟨ec, ef⟩ := opn_a a1); generalize a1.eval = ρ at *
       clear h13 h9
       go_simp <;> (intros; first | (exfalso; omega) | rfl | omega)
      ·intro vs p hI hp
       have h11 : (vs 11) = .int .i64 (i : Int) := hp 11 (by simp [Lrd9])
       have h14 : (vs 14) = .int .i64 ((n : Int) - 1) := hp 14 (by simp [Lrd9])
       have h9 : (vs 9) = .bool true := hp 9 (by simp [Lrd9])
       have e59 : (Roll.putD Drd9 vs [11, 14, 9] b0).eval (.tmp 59) = .int .i64 (i : Int) := (Roll.eval_new 11 rfl (by decide) (by decide) (by omega)).trans h11
       have e62 : (Roll.putD Drd9 vs [11, 14, 9] b0).eval (.tmp 62) = .int .i64 ((n : Int) - 1) := (Roll.eval_new 14 rfl (by decide) (by decide) (by omega)).trans h14
       clear hp hlv hN
       refine ⟨fun hg => ?_, fun hg => absurd h9 hg⟩
       clear hg
       unfold Roll.Goes
       simp only [Lrd9, List.getD_cons_zero, List.getD_cons_succ]
       generalize Roll.putD Drd9 vs [11, 14, 9] b0 = a1 at *
       have f0 := HMI.out
       refine Roll.goes_val (w' := p) (.int .i64 (i : Int)) rfl ?_ ⟨hI, Below.refl _ _, rfl⟩
       (have ⟨ec, ef⟩ := opn_a a1); generalize a1.eval = ρ at *
       clear h11 h14 h9
       go_simp <;> (intros; first | (exfalso; omega) | rfl | omega)
      ·intro vs p hI hp
       have h10 : (vs 10) = .slice (some ⟨ba, oa, none⟩) n c := hp 10 (by simp [Lrd9])
       have h15 : (vs 15) = .int .i64 (i : Int) := hp 15 (by simp [Lrd9])
       have h9 : (vs 9) = .bool true := hp 9 (by simp [Lrd9])
       have e58 : (Roll.putD Drd9 vs [10, 15, 9] b0).eval (.tmp 58) = .slice (some ⟨ba, oa, none⟩) n c := (Roll.eval_new 10 rfl (by decide) (by decide) (by omega)).trans h10
       have e63 : (Roll.putD Drd9 vs [10, 15, 9] b0).eval (.tmp 63) = .int .i64 (i : Int) := (Roll.eval_new 15 rfl (by decide) (by decide) (by omega)).trans h15
       clear hp hlv hN
       refine ⟨fun hg => ?_, fun hg => absurd h9 hg⟩
       clear hg
       unfold Roll.Goes
       simp only [Lrd9, List.getD_cons_zero, List.getD_cons_succ]
       generalize Roll.putD Drd9 vs [10, 15, 9] b0 = a1 at *
       have f0 := HIN.out
       have f1 := HPA.out
       have f2 := HI0.out
       refine Roll.goes_val (w' := p) (.pointer (some ⟨ba, pa, none⟩)) rfl ?_ ⟨hI, Below.refl _ _, rfl⟩
       (have ⟨ec, ef⟩ := opn_a a1); generalize a1.eval = ρ at *
       clear h10 h15 h9
       go_simp <;> (intros; first | (exfalso; omega) | rfl | omega)
      ·intro vs p hI hp
       have h16 : (vs 16) = .pointer (some ⟨ba, pa, none⟩) := hp 16 (by simp [Lrd9])
       have h9 : (vs 9) = .bool true := hp 9 (by simp [Lrd9])
       have e64 : (Roll.putD Drd9 vs [16, 9] b0).eval (.tmp 64) = .pointer (some ⟨ba, pa, none⟩) := (Roll.eval_new 16 rfl (by decide) (by decide) (by omega)).trans h16
       clear hp hlv hN
       refine ⟨fun hg => ?_, fun hg => absurd h9 hg⟩
       clear hg
       unfold Roll.Goes
       simp only [Lrd9, List.getD_cons_zero, List.getD_cons_succ]
       generalize Roll.putD Drd9 vs [16, 9] b0 = a1 at *
       refine Roll.goes_val (w' := p) (.pointer (some ⟨ba, pa, none⟩)) rfl ?_ ⟨hI, Below.refl _ _, rfl⟩
       (have ⟨ec, ef⟩ := opn_a a1); generalize a1.eval = ρ at *
       clear h16 h9
       go_simp <;> (intros; first | (exfalso; omega) | rfl | omega)
      ·intro vs p hI hp
       have h17 : (vs 17) = .pointer (some ⟨ba, pa, none⟩) := hp 17 (by simp [Lrd9])
       have h9 : (vs 9) = .bool true := hp 9 (by simp [Lrd9])
       have e65 : (Roll.putD Drd9 vs [17, 9] b0).eval (.tmp 65) = .pointer (some ⟨ba, pa, none⟩) := (Roll.eval_new 17 rfl (by decide) (by decide) (by omega)).trans h17
       clear hp hlv hN
       refine ⟨fun hg => ?_, fun hg => absurd h9 hg⟩
       clear hg
       unfold Roll.Goes
       simp only [Lrd9, List.getD_cons_zero, List.getD_cons_succ]
       generalize Roll.putD Drd9 vs [17, 9] b0 = a1 at *
       have cf : p.cell? ⟨ba, pa, none⟩ = some (.string x.k) := (hI.cell (p := ⟨ba, pa, none⟩) HLA.out).trans HCA.out
       refine Roll.goes_val (w' := p) (.string x.k) rfl ?_ ⟨hI, Below.refl _ _, rfl⟩
       (have ⟨ec, ef⟩ := opn_a a1); generalize a1.eval = ρ at *
       clear h17 h9
       go_simp <;> (intros; first | (exfalso; omega) | rfl | omega)
      ·intro vs p hI hp
       have h9 : (vs 9) = .bool true := hp 9 (by simp [Lrd9])
       have e1 : (Roll.putD Drd9 vs [9] b0).eval (.tmp 1) = .slice (some ⟨bb, ob, none⟩) m e := (Roll.eval_old rfl).trans (hlv.at 1 (1, .slice (some ⟨bb, ob, none⟩) m e) rfl)
       clear hp hlv hN
       refine ⟨fun hg => ?_, fun hg => absurd h9 hg⟩
       clear hg
       unfold Roll.Goes
       simp only [Lrd9, List.getD_cons_zero, List.getD_cons_succ]
       generalize Roll.putD Drd9 vs [9] b0 = a1 at *
       refine Roll.goes_val (w' := p) (.slice (some ⟨bb, ob, none⟩) m e) rfl ?_ ⟨hI, Below.refl _ _, rfl⟩
       (have ⟨ec, ef⟩ := opn_a a1); generalize a1.eval = ρ at *
       clear h9
       go_simp <;> (intros; first | (exfalso; omega) | rfl | omega)
      ·intro vs p hI hp
       have h9 : (vs 9) = .bool true := hp 9 (by simp [Lrd9])
       have e7 : (Roll.putD Drd9 vs [9] b0).eval (.tmp 7) = .int .i64 (k : Int) := (Roll.eval_old rfl).trans (hlv.at 4 (7, .int .i64 (k : Int)) rfl)
       clear hp hlv hN
       refine ⟨fun hg => ?_, fun hg => absurd h9 hg⟩
       clear hg
       unfold Roll.Goes
       simp only [Lrd9, List.getD_cons_zero, List.getD_cons_succ]
       generalize Roll.putD Drd9 vs [9] b0 = a1 at *
       refine Roll.goes_val (w' := p) (.int .i64 (k : Int)) rfl ?_ ⟨hI, Below.refl _ _, rfl⟩
       (have ⟨ec, ef⟩ := opn_a a1); generalize a1.eval = ρ at *
       clear h9
       go_simp <;> (intros; first | (exfalso; omega) | rfl | omega)
      ·intro vs p hI hp
       have h9 : (vs 9) = .bool true := hp 9 (by simp [Lrd9])
       have e1 : (Roll.putD Drd9 vs [9] b0).eval (.tmp 1) = .slice (some ⟨bb, ob, none⟩) m e := (Roll.eval_old rfl).trans (hlv.at 1 (1, .slice (some ⟨bb, ob, none⟩) m e) rfl)
       clear hp hlv hN
       refine ⟨fun hg => ?_, fun hg => absurd h9 hg⟩
       clear hg
       unfold Roll.Goes
       simp only [Lrd9, List.getD_cons_zero, List.getD_cons_succ]
       generalize Roll.putD Drd9 vs [9] b0 = a1 at *
       refine Roll.goes_val (w' := p) (.slice (some ⟨bb, ob, none⟩) m e) rfl ?_ ⟨hI, Below.refl _ _, rfl⟩
       (have ⟨ec, ef⟩ := opn_a a1); generalize a1.eval = ρ at *
       clear h9
       go_simp <;> (intros; first | (exfalso; omega) | rfl | omega)
      ·intro vs p hI hp
       have h21 : (vs 21) = .slice (some ⟨bb, ob, none⟩) m e := hp 21 (by simp [Lrd9])
       have h9 : (vs 9) = .bool true := hp 9 (by simp [Lrd9])
       have e69 : (Roll.putD Drd9 vs [21, 9] b0).eval (.tmp 69) = .slice (some ⟨bb, ob, none⟩) m e := (Roll.eval_new 21 rfl (by decide) (by decide) (by omega)).trans h21
       clear hp hlv hN
       refine ⟨fun hg => ?_, fun hg => absurd h9 hg⟩
       clear hg
       unfold Roll.Goes
       simp only [Lrd9, List.getD_cons_zero, List.getD_cons_succ]
       generalize Roll.putD Drd9 vs [21, 9] b0 = a1 at *
       refine Roll.goes_val (w' := p) (.int .i64 (m : Int)) rfl ?_ ⟨hI, Below.refl _ _, rfl⟩
       (have ⟨ec, ef⟩ := opn_a a1); generalize a1.eval = ρ at *
       clear h21 h9
       go_simp <;> (intros; first | (exfalso; omega) | rfl | omega)
      ·intro vs p hI hp
       have h22 : (vs 22) = .int .i64 (m : Int) := hp 22 (by simp [Lrd9])
       have h9 : (vs 9) = .bool true := hp 9 (by simp [Lrd9])
       have e70 : (Roll.putD Drd9 vs [22, 9] b0).eval (.tmp 70) = .int .i64 (m : Int) := (Roll.eval_new 22 rfl (by decide) (by decide) (by omega)).trans h22
       clear hp hlv hN
       refine ⟨fun hg => ?_, fun hg => absurd h9 hg⟩
       clear hg
       unfold Roll.Goes
       simp only [Lrd9, List.getD_cons_zero, List.getD_cons_succ]
       generalize Roll.putD Drd9 vs [22, 9] b0 = a1 at *
       have f0 := HM1.out
       refine Roll.goes_val (w' := p) (.int .i64 ((m : Int) - 1)) rfl ?_ ⟨hI, Below.refl _ _, rfl⟩
       (have ⟨ec, ef⟩ := opn_a a1); generalize a1.eval = ρ at *
       clear h22 h9
       go_simp <;> (intros; first | (exfalso; omega) | rfl | omega)
      ·intro vs p hI hp
       have h20 : (vs 20) = .int .i64 (k : Int) := hp 20 (by simp [Lrd9])
       have h23 : (vs 23) = .int .i64 ((m : Int) - 1) := hp 23 (by simp [Lrd9])
       have h9 : (vs 9) = .bool true := hp 9 (by simp [Lrd9])
       have e68 : (Roll.putD Drd9 vs [20, 23, 9] b0).eval (.tmp 68) = .int .i64 (k : Int) := (Roll.eval_new 20 rfl (by decide) (by decide) (by omega)).trans h20
       have e71 : (Roll.putD Drd9 vs [20, 23, 9] b0).eval (.tmp 71) = .int .i64 ((m : Int) - 1) := (Roll.eval_new 23 rfl (by decide) (by decide) (by omega)).trans h23
       clear hp hlv hN
       refine ⟨fun hg => ?_, fun hg => absurd h9 hg⟩
       clear hg
       unfold Roll.Goes
       simp only [Lrd9, List.getD_cons_zero, List.getD_cons_succ]
       generalize Roll.putD Drd9 vs [20, 23, 9] b0 = a1 at *
       have f0 := HMK.out
       refine Roll.goes_val (w' := p) (.int .i64 (k : Int)) rfl ?_ ⟨hI, Below.refl _ _, rfl⟩
       (have ⟨ec, ef⟩ := opn_a a1); generalize a1.eval = ρ at *
       clear h20 h23 h9
       go_simp <;> (intros; first | (exfalso; omega) | rfl | omega)
      ·intro vs p hI hp
       have h19 : (vs 19) = .slice (some ⟨bb, ob, none⟩) m e := hp 19 (by simp [Lrd9])
       have h24 : (vs 24) = .int .i64 (k : Int) := hp 24 (by simp [Lrd9])
       have h9 : (vs 9) = .bool true := hp 9 (by simp [Lrd9])
       have e67 : (Roll.putD Drd9 vs [19, 24, 9] b0).eval (.tmp 67) = .slice (some ⟨bb, ob, none⟩) m e := (Roll.eval_new 19 rfl (by decide) (by decide) (by omega)).trans h19
       have e72 : (Roll.putD Drd9 vs [19, 24, 9] b0).eval (.tmp 72) = .int .i64 (k : Int) := (Roll.eval_new 24 rfl (by decide) (by decide) (by omega)).trans h24
       clear hp hlv hN
       refine ⟨fun hg => ?_, fun hg => absurd h9 hg⟩
       clear hg
       unfold Roll.Goes
       simp only [Lrd9, List.getD_cons_zero, List.getD_cons_succ]
       generalize Roll.putD Drd9 vs [19, 24, 9] b0 = a1 at *
       have f0 := HKN.out
       have f1 := HPB.out
       have f2 := HK0.out
       refine Roll.goes_val (w' := p) (.pointer (some ⟨bb, pb, none⟩)) rfl ?_ ⟨hI, Below.refl _ _, rfl⟩
       (have ⟨ec, ef⟩ := opn_a a1); generalize a1.eval = ρ at *
       clear h19 h24 h9
       go_simp <;> (intros; first | (exfalso; omega) | rfl | omega)
      ·intro vs p hI hp
       have h25 : (vs 25) = .pointer (some ⟨bb, pb, none⟩) := hp 25 (by simp [Lrd9])
       have h9 : (vs 9) = .bool true := hp 9 (by simp [Lrd9])
       have e73 : (Roll.putD Drd9 vs [25, 9] b0).eval (.tmp 73) = .pointer (some ⟨bb, pb, none⟩) := (Roll.eval_new 25 rfl (by decide) (by decide) (by omega)).trans h25
       clear hp hlv hN
       refine ⟨fun hg => ?_, fun hg => absurd h9 hg⟩
       clear hg
       unfold Roll.Goes
       simp only [Lrd9, List.getD_cons_zero, List.getD_cons_succ]
       generalize Roll.putD Drd9 vs [25, 9] b0 = a1 at *
       refine Roll.goes_val (w' := p) (.pointer (some ⟨bb, pb, none⟩)) rfl ?_ ⟨hI, Below.refl _ _, rfl⟩
       (have ⟨ec, ef⟩ := opn_a a1); generalize a1.eval = ρ at *
       clear h25 h9
       go_simp <;> (intros; first | (exfalso; omega) | rfl | omega)
      ·intro vs p hI hp
       have h26 : (vs 26) = .pointer (some ⟨bb, pb, none⟩) := hp 26 (by simp [Lrd9])
       have h9 : (vs 9) = .bool true := hp 9 (by simp [Lrd9])
       have e74 : (Roll.putD Drd9 vs [26, 9] b0).eval (.tmp 74) = .pointer (some ⟨bb, pb, none⟩) := (Roll.eval_new 26 rfl (by decide) (by decide) (by omega)).trans h26
       clear hp hlv hN
       refine ⟨fun hg => ?_, fun hg => absurd h9 hg⟩
       clear hg
       unfold Roll.Goes
       simp only [Lrd9, List.getD_cons_zero, List.getD_cons_succ]
       generalize Roll.putD Drd9 vs [26, 9] b0 = a1 at *
       have cf : p.cell? ⟨bb, pb, none⟩ = some (.string y.k) := (hI.cell (p := ⟨bb, pb, none⟩) HLB.out).trans HCB.out
       refine Roll.goes_val (w' := p) (.string y.k) rfl ?_ ⟨hI, Below.refl _ _, rfl⟩
       (have ⟨ec, ef⟩ := opn_a a1); generalize a1.eval = ρ at *
       clear h26 h9
       go_simp <;> (intros; first | (exfalso; omega) | rfl | omega)
      ·intro vs p hI hp
       have h18 : (vs 18) = .string x.k := hp 18 (by simp [Lrd9])
       have h27 : (vs 27) = .string y.k := hp 27 (by simp [Lrd9])
       have h9 : (vs 9) = .bool true := hp 9 (by simp [Lrd9])
       have e66 : (Roll.putD Drd9 vs [18, 27, 9] b0).eval (.tmp 66) = .string x.k := (Roll.eval_new 18 rfl (by decide) (by decide) (by omega)).trans h18
       have e75 : (Roll.putD Drd9 vs [18, 27, 9] b0).eval (.tmp 75) = .string y.k := (Roll.eval_new 27 rfl (by decide) (by decide) (by omega)).trans h27
       clear hp hlv hN
       refine ⟨fun hg => ?_, fun hg => absurd h9 hg⟩
       clear hg
       unfold Roll.Goes
       simp only [Lrd9, List.getD_cons_zero, List.getD_cons_succ]
       generalize Roll.putD Drd9 vs [18, 27, 9] b0 = a1 at *
       have f0 := HLS.out
       refine Roll.goes_val (w' := p) (.bool false) rfl ?_ ⟨hI, Below.refl _ _, rfl⟩
       (have ⟨ec, ef⟩ := opn_a a1); generalize a1.eval = ρ at *
       clear h18 h27 h9
       go_simp <;> (intros; first | (exfalso; omega) | rfl | omega)
      ·intro vs p hI hp
       have h9 : (vs 9) = .bool true := hp 9 (by simp [Lrd9])
       have h28 : (vs 28) = .bool false := hp 28 (by simp [Lrd9])
       have h4 : (vs 4) = .bool false := hp 4 (by simp [Lrd9])
       have e57 : (Roll.putD Drd9 vs [9, 28, 4] b0).eval (.tmp 57) = .bool true := (Roll.eval_new 9 rfl (by decide) (by decide) (by omega)).trans h9
       have e76 : (Roll.putD Drd9 vs [9, 28, 4] b0).eval (.tmp 76) = .bool false := (Roll.eval_new 28 rfl (by decide) (by decide) (by omega)).trans h28
       clear hp hlv hN
       refine ⟨fun hg => ?_, fun hg => absurd h4 hg⟩
       clear hg
       unfold Roll.Goes
       simp only [Lrd9, List.getD_cons_zero, List.getD_cons_succ]
       generalize Roll.putD Drd9 vs [9, 28, 4] b0 = a1 at *
       refine Roll.goes_val (w' := p) (.bool false) rfl ?_ ⟨hI, Below.refl _ _, rfl⟩
       (have ⟨ec, ef⟩ := opn_a a1); generalize a1.eval = ρ at *
       clear h9 h28 h4
       go_simp <;> (intros; first | (exfalso; omega) | rfl | omega)
      ·intro vs p hI hp
       have h4 : (vs 4) = .bool false := hp 4 (by simp [Lrd9])
       have h29 : (vs 29) = .bool false := hp 29 (by simp [Lrd9])
       have e52 : (Roll.putD Drd9 vs [4, 29] b0).eval (.tmp 52) = .bool false := (Roll.eval_new 4 rfl (by decide) (by decide) (by omega)).trans h4
       have e77 : (Roll.putD Drd9 vs [4, 29] b0).eval (.tmp 77) = .bool false := (Roll.eval_new 29 rfl (by decide) (by decide) (by omega)).trans h29
       clear hp hlv hN
       unfold Roll.Goes
       simp only [Lrd9, List.getD_cons_zero, List.getD_cons_succ]
       generalize Roll.putD Drd9 vs [4, 29] b0 = a1 at *
       refine Roll.goes_val (w' := p) (.bool false) rfl ?_ ⟨hI, Below.refl _ _, rfl⟩
       (have ⟨ec, ef⟩ := opn_a a1); generalize a1.eval = ρ at *
       clear h4 h29
       go_simp <;> (intros; first | (exfalso; omega) | rfl | omega)
      ·intro vs p hI hp
       have h30 : (vs 30) = .bool false := hp 30 (by simp [Lrd9])
       have e78 : (Roll.putD Drd9 vs [30] b0).eval (.tmp 78) = .bool false := (Roll.eval_new 30 rfl (by decide) (by decide) (by omega)).trans h30
       clear hp hlv hN
       unfold Roll.Goes
       simp only [Lrd9, List.getD_cons_zero, List.getD_cons_succ]
       generalize Roll.putD Drd9 vs [30] b0 = a1 at *
       refine Roll.goes_val (w' := p) (.bool false) rfl ?_ ⟨hI, Below.refl _ _, rfl⟩
       (have ⟨ec, ef⟩ := opn_a a1); generalize a1.eval = ρ at *
       clear h30
       go_simp <;> (intros; first | (exfalso; omega) | rfl | omega)
     ·intro vs p hI hR
      have h0 : (vs 0) = .int .i64 (k : Int) := hR 0 (by omega)
      have h1 : (vs 1) = .slice (some ⟨bb, ob, none⟩) m e := hR 1 (by omega)
      have h2 : (vs 2) = .int .i64 (m : Int) := hR 2 (by omega)
      have h3 : (vs 3) = .bool false := hR 3 (by omega)
      have h4 : (vs 4) = .bool false := hR 4 (by omega)
      have h5 : (vs 5) = .int .i64 (i : Int) := hR 5 (by omega)
      have h6 : (vs 6) = .slice (some ⟨ba, oa, none⟩) n c := hR 6 (by omega)
      have h7 : (vs 7) = .int .i64 (n : Int) := hR 7 (by omega)
      have h8 : (vs 8) = .bool true := hR 8 (by omega)
      have h9 : (vs 9) = .bool true := hR 9 (by omega)
      have h10 : (vs 10) = .slice (some ⟨ba, oa, none⟩) n c := hR 10 (by omega)
      have h11 : (vs 11) = .int .i64 (i : Int) := hR 11 (by omega)
      have h12 : (vs 12) = .slice (some ⟨ba, oa, none⟩) n c := hR 12 (by omega)
      have h13 : (vs 13) = .int .i64 (n : Int) := hR 13 (by omega)
      have h14 : (vs 14) = .int .i64 ((n : Int) - 1) := hR 14 (by omega)
      have h15 : (vs 15) = .int .i64 (i : Int) := hR 15 (by omega)
      have h16 : (vs 16) = .pointer (some ⟨ba, pa, none⟩) := hR 16 (by omega)
      have h17 : (vs 17) = .pointer (some ⟨ba, pa, none⟩) := hR 17 (by omega)
      have h18 : (vs 18) = .string x.k := hR 18 (by omega)
      have h19 : (vs 19) = .slice (some ⟨bb, ob, none⟩) m e := hR 19 (by omega)
      have h20 : (vs 20) = .int .i64 (k : Int) := hR 20 (by omega)
      have h21 : (vs 21) = .slice (some ⟨bb, ob, none⟩) m e := hR 21 (by omega)
      have h22 : (vs 22) = .int .i64 (m : Int) := hR 22 (by omega)
      have h23 : (vs 23) = .int .i64 ((m : Int) - 1) := hR 23 (by omega)
      have h24 : (vs 24) = .int .i64 (k : Int) := hR 24 (by omega)
      have h25 : (vs 25) = .pointer (some ⟨bb, pb, none⟩) := hR 25 (by omega)
      have h26 : (vs 26) = .pointer (some ⟨bb, pb, none⟩) := hR 26 (by omega)
      have h27 : (vs 27) = .string y.k := hR 27 (by omega)
      have h28 : (vs 28) = .bool false := hR 28 (by omega)
      have h29 : (vs 29) = .bool false := hR 29 (by omega)
      have h30 : (vs 30) = .bool false := hR 30 (by omega)
      have h31 : (vs 31) = .bool false := hR 31 (by omega)
      clear hR
      simp only [List.range_succ, List.range_zero, List.nil_append, List.cons_append, Roll.putD, Act.put, List.getD_cons_zero, List.getD_cons_succ, List.setIfInBounds_toArray, List.set_cons_zero, List.set_cons_succ, List.drop_succ_cons, List.drop_zero, Drd9]
      simp only [h0, h1, h2, h3, h4, h5, h6, h7, h8, h9, h10, h11, h12, h13, h14, h15, h16, h17, h18, h19, h20, h21, h22, h23, h24, h25, h26, h27, h28, h29, h30, h31]
      clear h0 h1 h2 h3 h4 h5 h6 h7 h8 h9 h10 h11 h12 h13 h14 h15 h16 h17 h18 h19 h20 h21 h22 h23 h24 h25 h26 h27 h28 h29 h30 h31
      obtain ⟨p9, hp9⟩ : ∃ z, z = p := ⟨_, rfl⟩
      subst hp9
      have HI9 := Lib.hid hI
      clear hI
      apply wpList_nil
      go_step
      go_step
      go_wp2_with fail
      have HB := Lib.hid (HB.out.trans (HI9.out.mono HB.out.size))
      have HOW := Lib.hid (show Own p9 61 3 v0.ownBlock v0 es.length (ecells es) ∧ ∀ j, v0.ownBlock = some j → w.heap.size ≤ j from ⟨HOW.out.1.kept (Kept.of_below (fun _ => False) HI9.out) (fun _ _ h => h), HOW.out.2⟩)
      have HROW := Lib.hid (ownsRow_below HROW.out HI9.out)
      have HCA : Hid (p9.cell? ⟨ba, pa, none⟩ = some (.string x.k)) := Lib.hid ((HI9.out.cell (p := ⟨ba, pa, none⟩) HLA.out).trans HCA.out)
      have HCA1 : Hid (p9.cell? ⟨ba, pa + 1, none⟩ = some (.string x.v)) := Lib.hid ((HI9.out.cell (p := ⟨ba, pa + 1, none⟩) HLA.out).trans HCA1.out)
      have HLA : Hid (ba < p9.heap.size) := Lib.hid (Nat.lt_of_lt_of_le HLA.out HI9.out.size)
      have HCB : Hid (p9.cell? ⟨bb, pb, none⟩ = some (.string y.k)) := Lib.hid ((HI9.out.cell (p := ⟨bb, pb, none⟩) HLB.out).trans HCB.out)
      have HCB1 : Hid (p9.cell? ⟨bb, pb + 1, none⟩ = some (.string y.v)) := Lib.hid ((HI9.out.cell (p := ⟨bb, pb + 1, none⟩) HLB.out).trans HCB1.out)
      have HLB : Hid (bb < p9.heap.size) := Lib.hid (Nat.lt_of_lt_of_le HLB.out HI9.out.size)
      obtain ⟨wr, hwr⟩ : ∃ z, z = p9 := ⟨_, rfl⟩
      subst hwr
      clear HI9
      have HINE : Hid (¬ (i : Int) = (n : Int)) := Lib.hid (by have := HI2.out; omega)
      by_cases hgt : cmpK y.k x.k < 0
      ·have HLS2 : Hid (Op.bytesLess y.k.toList x.k.toList = true) := Lib.hid (by rw [less_cmpK]; simpa using hgt)
       have HGT := Lib.hid hgt
       clear hgt
       refine Roll.region_f 18 125 Drd12 Lrd12 [(0, .slice (some ⟨ba, oa, none⟩) n c), (1, .slice (some ⟨bb, ob, none⟩) m e), (5, v0), (6, .int .i64 (i : Int)), (7, .int .i64 (k : Int))] (fun p => Below wr.heap.size wr p) (fun p p2 => Below p.heap.size p p2) [fun vv p => vv = .int .i64 (i : Int), fun vv p => vv = .slice (some ⟨ba, oa, none⟩) n c, fun vv p => vv = .int .i64 (n : Int), fun vv p => vv = .bool false, fun vv p => vv = .bool false, fun vv p => vv = .slice (some ⟨bb, ob, none⟩) m e, fun vv p => vv = .int .i64 (k : Int), fun vv p => vv = .pointer (some ⟨bb, pb, none⟩), fun vv p => vv = .pointer (some ⟨bb, pb, none⟩), fun vv p => vv = .string y.k, fun vv p => vv = .slice (some ⟨ba, oa, none⟩) n c, fun vv p => vv = .int .i64 (i : Int), fun vv p => vv = .pointer (some ⟨ba, pa, none⟩), fun vv p => vv = .pointer (some ⟨ba, pa, none⟩), fun vv p => vv = .string x.k, fun vv p => vv = .bool true, fun vv p => vv = .bool true, fun vv p => vv = .bool true] (by kernel_rfl) (by kernel_rfl) rfl ⟨rfl, rfl, rfl, rfl, rfl, trivial⟩ ((Below.refl _ _).drew) ?_ ?_ ?_
       ·exact ⟨fun _ _ _ _ h => h, fun _ _ _ _ h => h, fun _ _ _ _ h => h, fun _ _ _ _ h => h, fun _ _ _ _ h => h, fun _ _ _ _ h => h, fun _ _ _ _ h => h, fun _ _ _ _ h => h, fun _ _ _ _ h => h, fun _ _ _ _ h => h, fun _ _ _ _ h => h, fun _ _ _ _ h => h, fun _ _ _ _ h => h, fun _ _ _ _ h => h, fun _ _ _ _ h => h, fun _ _ _ _ h => h, fun _ _ _ _ h => h, fun _ _ _ _ h => h, trivial⟩
       ·intro b0 hN hlv
        refine ⟨?_, ?_, ?_, ?_, ?_, ?_, ?_, ?_, ?_, ?_, ?_, ?_, ?_, ?_, ?_, ?_, ?_, ?_, trivial⟩
        ·intro vs p hI hp
         have e6 : (Roll.putD Drd12 vs [] b0).eval (.tmp 6) = .int .i64 (i : Int) := (Roll.eval_old rfl).trans (hlv.at 3 (6, .int .i64 (i : Int)) rfl)
         clear hp hlv hN
         unfold Roll.Goes
         simp only [Lrd12, List.getD_cons_zero, List.getD_cons_succ]
         generalize Roll.putD Drd12 vs [] b0 = a1 at *
         refine Roll.goes_val (w' := p) (.int .i64 (i : Int)) rfl ?_ ⟨hI, Below.refl _ _, rfl⟩
         (have ⟨ec, ef⟩ := opn_a a1); generalize a1.eval = ρ at *
         skip
         go_simp <;> (intros; first | (exfalso; omega) | rfl | omega)
        ·intro vs p hI hp
         have e0 : (Roll.putD Drd12 vs [] b0).eval (.tmp 0) = .slice (some ⟨ba, oa, none⟩) n c := (Roll.eval_old rfl).trans (hlv.at 0 (0, .slice (some ⟨ba, oa, none⟩) n c) rfl)
         clear hp hlv hN
         unfold Roll.Goes
         simp only [Lrd12, List.getD_cons_zero, List.getD_cons_succ]
         generalize Roll.putD Drd12 vs [] b0 = a1 at *
         refine Roll.goes_val (w' := p) (.slice (some ⟨ba, oa, none⟩) n c) rfl ?_ ⟨hI, Below.refl _ _, rfl⟩
         (have ⟨ec, ef⟩ := opn_a a1); generalize a1.eval = ρ at *
         skip
         go_simp <;> (intros; first | (exfalso; omega) | rfl | omega)
        ·intro vs p hI hp
         have h1 : (vs 1) = .slice (some ⟨ba, oa, none⟩) n c := hp 1 (by simp [Lrd12])
         have e92 : (Roll.putD Drd12 vs [1] b0).eval (.tmp 92) = .slice (some ⟨ba, oa, none⟩) n c := (Roll.eval_new 1 rfl (by decide) (by decide) (by omega)).trans h1
         clear hp hlv hN
         unfold Roll.Goes
         simp only [Lrd12, List.getD_cons_zero, List.getD_cons_succ]
         generalize Roll.putD Drd12 vs [1] b0 = a1 at *
         refine Roll.goes_val (w' := p) (.int .i64 (n : Int)) rfl ?_ ⟨hI, Below.refl _ _, rfl⟩
         (have ⟨ec, ef⟩ := opn_a a1); generalize a1.eval = ρ at *
         clear h1
         go_simp <;> (intros; first | (exfalso; omega) | rfl | omega)
        ·intro vs p hI hp
         have h0 : (vs 0) = .int .i64 (i : Int) := hp 0 (by simp [Lrd12])
         have h2 : (vs 2) = .int .i64 (n : Int) := hp 2 (by simp [Lrd12])
         have e91 : (Roll.putD Drd12 vs [0, 2] b0).eval (.tmp 91) = .int .i64 (i : Int) := (Roll.eval_new 0 rfl (by decide) (by decide) (by omega)).trans h0
         have e93 : (Roll.putD Drd12 vs [0, 2] b0).eval (.tmp 93) = .int .i64 (n : Int) := (Roll.eval_new 2 rfl (by decide) (by decide) (by omega)).trans h2
         clear hp hlv hN
         unfold Roll.Goes
         simp only [Lrd12, List.getD_cons_zero, List.getD_cons_succ]
         generalize Roll.putD Drd12 vs [0, 2] b0 = a1 at *
         have f0 := HINE.out
         refine Roll.goes_val (w' := p) (.bool false) rfl ?_ ⟨hI, Below.refl _ _, rfl⟩
         (have ⟨ec, ef⟩ := opn_a a1); generalize a1.eval = ρ at *
         clear h0 h2
         go_simp <;> (intros; first | (exfalso; omega) | rfl | omega)
        ·intro vs p hI hp
         have h3 : (vs 3) = .bool false := hp 3 (by simp [Lrd12])
         have e94 : (Roll.putD Drd12 vs [3] b0).eval (.tmp 94) = .bool false := (Roll.eval_new 3 rfl (by decide) (by decide) (by omega)).trans h3
         clear hp hlv hN
         unfold Roll.Goes
         simp only [Lrd12, List.getD_cons_zero, List.getD_cons_succ]
         generalize Roll.putD Drd12 vs [3] b0 = a1 at *
         refine Roll.goes_val (w' := p) (.bool false) rfl ?_ ⟨hI, Below.refl _ _, rfl⟩
         (have ⟨ec, ef⟩ := opn_a a1); generalize a1.eval = ρ at *
         clear h3
         go_simp <;> (intros; first | (exfalso; omega) | rfl | omega)
        ·intro vs p hI hp
         have h4 : (vs 4) = .bool false := hp 4 (by simp [Lrd12])
         have e1 : (Roll.putD Drd12 vs [4] b0).eval (.tmp 1) = .slice (some ⟨bb, ob, none⟩) m e := (Roll.eval_old rfl).trans (hlv.at 1 (1, .slice (some ⟨bb, ob, none⟩) m e) rfl)
         clear hp hlv hN
         refine ⟨fun hg => ?_, fun hg => absurd h4 hg⟩
         clear hg
         unfold Roll.Goes
         simp only [Lrd12, List.getD_cons_zero, List.getD_cons_succ]
         generalize Roll.putD Drd12 vs [4] b0 = a1 at *
         refine Roll.goes_val (w' := p) (.slice (some ⟨bb, ob, none⟩) m e) rfl ?_ ⟨hI, Below.refl _ _, rfl⟩
         (have ⟨ec, ef⟩ := opn_a a1); generalize a1.eval = ρ at *
         clear h4
         go_simp <;> (intros; first | (exfalso; omega) | rfl | omega)
        ·intro vs p hI hp
         have h4 : (vs 4) = .bool false := hp 4 (by simp [Lrd12])
         have e7 : (Roll.putD Drd12 vs [4] b0).eval (.tmp 7) = .int .i64 (k : Int) := (Roll.eval_old rfl).trans (hlv.at 4 (7, .int .i64 (k : Int)) rfl)
         clear hp hlv hN
         refine ⟨fun hg => ?_, fun hg => absurd h4 hg⟩
         clear hg
         unfold Roll.Goes
         simp only [Lrd12, List.getD_cons_zero, List.getD_cons_succ]
         generalize Roll.putD Drd12 vs [4] b0 = a1 at *
         refine Roll.goes_val (w' := p) (.int .i64 (k : Int)) rfl ?_ ⟨hI, Below.refl _ _, rfl⟩
         (have ⟨ec, ef⟩ := opn_a a1); generalize a1.eval = ρ at *
         clear h4
         go_simp <;> (intros; first | (exfalso; omega) | rfl | omega)
        ·intro vs p hI hp
         have h5 : (vs 5) = .slice (some ⟨bb, ob, none⟩) m e := hp 5 (by simp [Lrd12])
         have h6 : (vs 6) = .int .i64 (k : Int) := hp 6 (by simp [Lrd12])
         have h4 : (vs 4) = .bool false := hp 4 (by simp [Lrd12])
         have e96 : (Roll.putD Drd12 vs [5, 6, 4] b0).eval (.tmp 96) = .slice (some ⟨bb, ob, none⟩) m e := (Roll.eval_new 5 rfl (by decide) (by decide) (by omega)).trans h5
         have e97 : (Roll.putD Drd12 vs [5, 6, 4] b0).eval (.tmp 97) = .int .i64 (k : Int) := (Roll.eval_new 6 rfl (by decide) (by decide) (by omega)).trans h6
         clear hp hlv hN
         refine ⟨fun hg => ?_, fun hg => absurd h4 hg⟩
         clear hg
         unfold Roll.Goes
         simp only [Lrd12, List.getD_cons_zero, List.getD_cons_succ]
         generalize Roll.putD Drd12 vs [5, 6, 4] b0 = a1 at *
         have f0 := HKN.out
         have f1 := HPB.out
         have f2 := HK0.out
         refine Roll.goes_val (w' := p) (.pointer (some ⟨bb, pb, none⟩)) rfl ?_ ⟨hI, Below.refl _ _, rfl⟩
         (have ⟨ec, ef⟩ := opn_a a1); generalize a1.eval = ρ at *
         clear h5 h6 h4
         go_simp <;> (intros; first | (exfalso; omega) | rfl | omega)
        ·intro vs p hI hp
         have h7 : (vs 7) = .pointer (some ⟨bb, pb, none⟩) := hp 7 (by simp [Lrd12])
         have h4 : (vs 4) = .bool false := hp 4 (by simp [Lrd12])
         have e98 : (Roll.putD Drd12 vs [7, 4] b0).eval (.tmp 98) = .pointer (some ⟨bb, pb, none⟩) := (Roll.eval_new 7 rfl (by decide) (by decide) (by omega)).trans h7
         clear hp hlv hN
         refine ⟨fun hg => ?_, fun hg => absurd h4 hg⟩
         clear hg
         unfold Roll.Goes
         simp only [Lrd12, List.getD_cons_zero, List.getD_cons_succ]
         generalize Roll.putD Drd12 vs [7, 4] b0 = a1 at *
         refine Roll.goes_val (w' := p) (.pointer (some ⟨bb, pb, none⟩)) rfl ?_ ⟨hI, Below.refl _ _, rfl⟩
         (have ⟨ec, ef⟩ := opn_a a1); generalize a1.eval = ρ at *
         clear h7 h4
         go_simp <;> (intros; first | (exfalso; omega) | rfl | omega)
        ·intro vs p hI hp
         have h8 : (vs 8) = .pointer (some ⟨bb, pb, none⟩) := hp 8 (by simp [Lrd12])
         have h4 : (vs 4) = .bool false := hp 4 (by simp [Lrd12])
         have e99 : (Roll.putD Drd12 vs [8, 4] b0).eval (.tmp 99) = .pointer (some ⟨bb, pb, none⟩) := (Roll.eval_new 8 rfl (by decide) (by decide) (by omega)).trans h8
         clear hp hlv hN
         refine ⟨fun hg => ?_, fun hg => absurd h4 hg⟩
         clear hg
         unfold Roll.Goes
         simp only [Lrd12, List.getD_cons_zero, List.getD_cons_succ]
         generalize Roll.putD Drd12 vs [8, 4] b0 = a1 at *
         have cf : p.cell? ⟨bb, pb, none⟩ = some (.string y.k) := (hI.cell (p := ⟨bb, pb, none⟩) HLB.out).trans HCB.out
         refine Roll.goes_val (w' := p) (.string y.k) rfl ?_ ⟨hI, Below.refl _ _, rfl⟩
         (have ⟨ec, ef⟩ := opn_a a1); generalize a1.eval = ρ at *
         clear h8 h4
         go_simp <;> (intros; first | (exfalso; omega) | rfl | omega)
        ·intro vs p hI hp
         have h4 : (vs 4) = .bool false := hp 4 (by simp [Lrd12])
         have e0 : (Roll.putD Drd12 vs [4] b0).eval (.tmp 0) = .slice (some ⟨ba, oa, none⟩) n c := (Roll.eval_old rfl).trans (hlv.at 0 (0, .slice (some ⟨ba, oa, none⟩) n c) rfl)
         clear hp hlv hN
         refine ⟨fun hg => ?_, fun hg => absurd h4 hg⟩
         clear hg
         unfold Roll.Goes
         simp only [Lrd12, List.getD_cons_zero, List.getD_cons_succ]
         generalize Roll.putD Drd12 vs [4] b0 = a1 at *
         refine Roll.goes_val (w' := p) (.slice (some ⟨ba, oa, none⟩) n c) rfl ?_ ⟨hI, Below.refl _ _, rfl⟩
         (have ⟨ec, ef⟩ := opn_a a1); generalize a1.eval = ρ at *
         clear h4
         go_simp <;> (intros; first | (exfalso; omega) | rfl | omega)
        ·intro vs p hI hp
         have h4 : (vs 4) = .bool false := hp 4 (by simp [Lrd12])
         have e6 : (Roll.putD Drd12 vs [4] b0).eval (.tmp 6) = .int .i64 (i : Int) := (Roll.eval_old rfl).trans (hlv.at 3 (6, .int .i64 (i : Int)) rfl)
         clear hp hlv hN
         refine ⟨fun hg => ?_, fun hg => absurd h4 hg⟩
         clear hg
         unfold Roll.Goes
         simp only [Lrd12, List.getD_cons_zero, List.getD_cons_succ]
         generalize Roll.putD Drd12 vs [4] b0 = a1 at *
         refine Roll.goes_val (w' := p) (.int .i64 (i : Int)) rfl ?_ ⟨hI, Below.refl _ _, rfl⟩
         (have ⟨ec, ef⟩ := opn_a a1); generalize a1.eval = ρ at *
         clear h4
         go_simp <;> (intros; first | (exfalso; omega) | rfl | omega)
        ·intro vs p hI hp
         have h10 : (vs 10) = .slice (some ⟨ba, oa, none⟩) n c := hp 10 (by simp [Lrd12])
         have h11 : (vs 11) = .int .i64 (i : Int) := hp 11 (by simp [Lrd12])
         have h4 : (vs 4) = .bool false := hp 4 (by simp [Lrd12])
         have e101 : (Roll.putD Drd12 vs [10, 11, 4] b0).eval (.tmp 101) = .slice (some ⟨ba, oa, none⟩) n c := (Roll.eval_new 10 rfl (by decide) (by decide) (by omega)).trans h10
         have e102 : (Roll.putD Drd12 vs [10, 11, 4] b0).eval (.tmp 102) = .int .i64 (i : Int) := (Roll.eval_new 11 rfl (by decide) (by decide) (by omega)).trans h11
         clear hp hlv hN
         refine ⟨fun hg => ?_, fun hg => absurd h4 hg⟩
         clear hg
         unfold Roll.Goes
         simp only [Lrd12, List.getD_cons_zero, List.getD_cons_succ]
         generalize Roll.putD Drd12 vs [10, 11, 4] b0 = a1 at *
         have f0 := HIN2.out
         have f1 := HPA.out
         have f2 := HI0.out
         refine Roll.goes_val (w' := p) (.pointer (some ⟨ba, pa, none⟩)) rfl ?_ ⟨hI, Below.refl _ _, rfl⟩
         (have ⟨ec, ef⟩ := opn_a a1); generalize a1.eval = ρ at *
         clear h10 h11 h4
         go_simp <;> (intros; first | (exfalso; omega) | rfl | omega)
        ·intro vs p hI hp
         have h12 : (vs 12) = .pointer (some ⟨ba, pa, none⟩) := hp 12 (by simp [Lrd12])
         have h4 : (vs 4) = .bool false := hp 4 (by simp [Lrd12])
         have e103 : (Roll.putD Drd12 vs [12, 4] b0).eval (.tmp 103) = .pointer (some ⟨ba, pa, none⟩) := (Roll.eval_new 12 rfl (by decide) (by decide) (by omega)).trans h12
         clear hp hlv hN
         refine ⟨fun hg => ?_, fun hg => absurd h4 hg⟩
         clear hg
         unfold Roll.Goes
         simp only [Lrd12, List.getD_cons_zero, List.getD_cons_succ]
         generalize Roll.putD Drd12 vs [12, 4] b0 = a1 at *
         refine Roll.goes_val (w' := p) (.pointer (some ⟨ba, pa, none⟩)) rfl ?_ ⟨hI, Below.refl _ _, rfl⟩
         (have ⟨ec, ef⟩ := opn_a a1); generalize a1.eval = ρ at *
         clear h12 h4
         go_simp <;> (intros; first | (exfalso; omega) | rfl | omega)
        ·intro vs p hI hp
         have h13 : (vs 13) = .pointer (some ⟨ba, pa, none⟩) := hp 13 (by simp [Lrd12])
         have h4 : (vs 4) = .bool false := hp 4 (by simp [Lrd12])
         have e104 : (Roll.putD Drd12 vs [13, 4] b0).eval (.tmp 104) = .pointer (some ⟨ba, pa, none⟩) := (Roll.eval_new 13 rfl (by decide) (by decide) (by omega)).trans h13
         clear hp hlv hN
         refine ⟨fun hg => ?_, fun hg => absurd h4 hg⟩
         clear hg
         unfold Roll.Goes
         simp only [Lrd12, List.getD_cons_zero, List.getD_cons_succ]
         generalize Roll.putD Drd12 vs [13, 4] b0 = a1 at *
         have cf : p.cell? ⟨ba, pa, none⟩ = some (.string x.k) := (hI.cell (p := ⟨ba, pa, none⟩) HLA.out).trans HCA.out
         refine Roll.goes_val (w' := p) (.string x.k) rfl ?_ ⟨hI, Below.refl _ _, rfl⟩
         (have ⟨ec, ef⟩ := opn_a a1); generalize a1.eval = ρ at *
         clear h13 h4
         go_simp <;> (intros; first | (exfalso; omega) | rfl | omega)
        ·intro vs p hI hp
         have h9 : (vs 9) = .string y.k := hp 9 (by simp [Lrd12])
         have h14 : (vs 14) = .string x.k := hp 14 (by simp [Lrd12])
         have h4 : (vs 4) = .bool false := hp 4 (by simp [Lrd12])
         have e100 : (Roll.putD Drd12 vs [9, 14, 4] b0).eval (.tmp 100) = .string y.k := (Roll.eval_new 9 rfl (by decide) (by decide) (by omega)).trans h9
         have e105 : (Roll.putD Drd12 vs [9, 14, 4] b0).eval (.tmp 105) = .string x.k := (Roll.eval_new 14 rfl (by decide) (by decide) (by omega)).trans h14
         clear hp hlv hN
         refine ⟨fun hg => ?_, fun hg => absurd h4 hg⟩
         clear hg
         unfold Roll.Goes
         simp only [Lrd12, List.getD_cons_zero, List.getD_cons_succ]
         generalize Roll.putD Drd12 vs [9, 14, 4] b0 = a1 at *
         have f0 := HLS2.out
         refine Roll.goes_val (w' := p) (.bool true) rfl ?_ ⟨hI, Below.refl _ _, rfl⟩
         (have ⟨ec, ef⟩ := opn_a a1); generalize a1.eval = ρ at *
         clear h9 h14 h4
         go_simp <;> (intros; first | (exfalso; omega) | rfl | omega)
        ·intro vs p hI hp
         have h4 : (vs 4) = .bool false := hp 4 (by simp [Lrd12])
         have h15 : (vs 15) = .bool true := hp 15 (by simp [Lrd12])
         have e95 : (Roll.putD Drd12 vs [4, 15] b0).eval (.tmp 95) = .bool false := (Roll.eval_new 4 rfl (by decide) (by decide) (by omega)).trans h4
         have e106 : (Roll.putD Drd12 vs [4, 15] b0).eval (.tmp 106) = .bool true := (Roll.eval_new 15 rfl (by decide) (by decide) (by omega)).trans h15
         clear hp hlv hN
         unfold Roll.Goes
         simp only [Lrd12, List.getD_cons_zero, List.getD_cons_succ]
         generalize Roll.putD Drd12 vs [4, 15] b0 = a1 at *
         refine Roll.goes_val (w' := p) (.bool true) rfl ?_ ⟨hI, Below.refl _ _, rfl⟩
         (have ⟨ec, ef⟩ := opn_a a1); generalize a1.eval = ρ at *
         clear h4 h15
         go_simp <;> (intros; first | (exfalso; omega) | rfl | omega)
        ·intro vs p hI hp
         have h16 : (vs 16) = .bool true := hp 16 (by simp [Lrd12])
         have e107 : (Roll.putD Drd12 vs [16] b0).eval (.tmp 107) = .bool true := (Roll.eval_new 16 rfl (by decide) (by decide) (by omega)).trans h16
         clear hp hlv hN
         unfold Roll.Goes
         simp only [Lrd12, List.getD_cons_zero, List.getD_cons_succ]
         generalize Roll.putD Drd12 vs [16] b0 = a1 at *
         refine Roll.goes_val (w' := p) (.bool true) rfl ?_ ⟨hI, Below.refl _ _, rfl⟩
         (have ⟨ec, ef⟩ := opn_a a1); generalize a1.eval = ρ at *
         clear h16
         go_simp <;> (intros; first | (exfalso; omega) | rfl | omega)
       ·intro vs p hI hR
        have h0 : (vs 0) = .int .i64 (i : Int) := hR 0 (by omega)
        have h1 : (vs 1) = .slice (some ⟨ba, oa, none⟩) n c := hR 1 (by omega)
        have h2 : (vs 2) = .int .i64 (n : Int) := hR 2 (by omega)
        have h3 : (vs 3) = .bool false := hR 3 (by omega)
        have h4 : (vs 4) = .bool false := hR 4 (by omega)
        have h5 : (vs 5) = .slice (some ⟨bb, ob, none⟩) m e := hR 5 (by omega)
        have h6 : (vs 6) = .int .i64 (k : Int) := hR 6 (by omega)
        have h7 : (vs 7) = .pointer (some ⟨bb, pb, none⟩) := hR 7 (by omega)
        have h8 : (vs 8) = .pointer (some ⟨bb, pb, none⟩) := hR 8 (by omega)
        have h9 : (vs 9) = .string y.k := hR 9 (by omega)
        have h10 : (vs 10) = .slice (some ⟨ba, oa, none⟩) n c := hR 10 (by omega)
        have h11 : (vs 11) = .int .i64 (i : Int) := hR 11 (by omega)
        have h12 : (vs 12) = .pointer (some ⟨ba, pa, none⟩) := hR 12 (by omega)
        have h13 : (vs 13) = .pointer (some ⟨ba, pa, none⟩) := hR 13 (by omega)
        have h14 : (vs 14) = .string x.k := hR 14 (by omega)
        have h15 : (vs 15) = .bool true := hR 15 (by omega)
        have h16 : (vs 16) = .bool true := hR 16 (by omega)
        have h17 : (vs 17) = .bool true := hR 17 (by omega)
        clear hR
        simp only [List.range_succ, List.range_zero, List.nil_append, List.cons_append, Roll.putD, Act.put, List.getD_cons_zero, List.getD_cons_succ, List.setIfInBounds_toArray, List.set_cons_zero, List.set_cons_succ, List.drop_succ_cons, List.drop_zero, Drd12]
        simp only [h0, h1, h2, h3, h4, h5, h6, h7, h8, h9, h10, h11, h12, h13, h14, h15, h16, h17]
        clear h0 h1 h2 h3 h4 h5 h6 h7 h8 h9 h10 h11 h12 h13 h14 h15 h16 h17
        obtain ⟨p9, hp9⟩ : ∃ z, z = p := ⟨_, rfl⟩
        subst hp9
        have HI9 := Lib.hid hI
        clear hI
        apply wpList_nil
        go_step
        go_step
        go_wp2_with fail
        have HB := Lib.hid (HB.out.trans (HI9.out.mono HB.out.size))
        have HOW := Lib.hid (show Own p9 61 3 v0.ownBlock v0 es.length (ecells es) ∧ ∀ j, v0.ownBlock = some j → w.heap.size ≤ j from ⟨HOW.out.1.kept (Kept.of_below (fun _ => False) HI9.out) (fun _ _ h => h), HOW.out.2⟩)
        have HROW := Lib.hid (ownsRow_below HROW.out HI9.out)
        have HCA : Hid (p9.cell? ⟨ba, pa, none⟩ = some (.string x.k)) := Lib.hid ((HI9.out.cell (p := ⟨ba, pa, none⟩) HLA.out).trans HCA.out)
        have HCA1 : Hid (p9.cell? ⟨ba, pa + 1, none⟩ = some (.string x.v)) := Lib.hid ((HI9.out.cell (p := ⟨ba, pa + 1, none⟩) HLA.out).trans HCA1.out)
        have HLA : Hid (ba < p9.heap.size) := Lib.hid (Nat.lt_of_lt_of_le HLA.out HI9.out.size)
        have HCB : Hid (p9.cell? ⟨bb, pb, none⟩ = some (.string y.k)) := Lib.hid ((HI9.out.cell (p := ⟨bb, pb, none⟩) HLB.out).trans HCB.out)
        have HCB1 : Hid (p9.cell? ⟨bb, pb + 1, none⟩ = some (.string y.v)) := Lib.hid ((HI9.out.cell (p := ⟨bb, pb + 1, none⟩) HLB.out).trans HCB1.out)
        have HLB : Hid (bb < p9.heap.size) := Lib.hid (Nat.lt_of_lt_of_le HLB.out HI9.out.size)
        obtain ⟨wr, hwr⟩ : ∃ z, z = p9 := ⟨_, rfl⟩
        subst hwr
        clear HI9
        have HNB : Hid (¬ v0.ownBlock = some bb) := Lib.hid (fun e => by have h1 := HOW.out.2 bb e; have := HLB0.out; omega)
        refine Roll.region_v 14 125 Drd13 Lrd13 [(0, .slice (some ⟨ba, oa, none⟩) n c), (1, .slice (some ⟨bb, ob, none⟩) m e), (5, v0), (6, .int .i64 (i : Int)), (7, .int .i64 (k : Int))] 13 [true, true, true, true, true, true, true, true, true, true, true, true, false, false] (fun p => Below wr.heap.size wr p) (fun vv p => ∃ p8 k', Below wr.heap.size wr p8 ∧ Own p 61 3 k' vv (es.length + 1) (ecells es ++ ecells [setE y]) ∧ (∀ j, k' = some j → v0.ownBlock = some j ∨ wr.heap.size ≤ j) ∧ Kept (fun j => v0.ownBlock = some j) p8 p) (fun p => Kept (fun j => v0.ownBlock = some j) wr p) (fun p p2 => Kept (fun j => v0.ownBlock = some j) p p2) [fun vv p => (vv 0) = v0, fun vv p => (vv 1) = .slice (some ⟨bb, ob, none⟩) m e, fun vv p => (vv 2) = .int .i64 (k : Int), fun vv p => (vv 3) = .pointer (some ⟨bb, pb, none⟩), fun vv p => (vv 4) = .pointer (some ⟨bb, pb, none⟩), fun vv p => (vv 5) = .string y.k, fun vv p => (vv 6) = .slice (some ⟨bb, ob, none⟩) m e, fun vv p => (vv 7) = .int .i64 (k : Int), fun vv p => (vv 8) = .pointer (some ⟨bb, pb, none⟩), fun vv p => (vv 9) = .pointer (some ⟨bb, pb + 1, none⟩), fun vv p => (vv 10) = .string y.v, fun vv p => (vv 11) = .agg #[.string y.k, .string y.v, .bool false], fun vv p => ∃ x, (vv 12) = .slice (some ⟨x, 0, none⟩) 1 1 ∧ wr.heap.size ≤ x ∧ p.heap[x]? = some (.cells #[.string y.k, .string y.v, .bool false] 61 (0, 0)), fun vv p => True] (by kernel_rfl) (by kernel_rfl) rfl ⟨rfl, rfl, rfl, rfl, rfl, trivial⟩ ((Below.refl _ _).drew) (by decide) (by kernel_rfl) (fun _ h => Kept.of_below _ h) (fun _ _ h => by obtain ⟨_, _, h1, _, _, h4⟩ := h; exact (Kept.of_below _ h1).trans h4 (fun _ _ h => h)) (fun _ => Kept.refl _ _) ?_ ?_ ?_
        ·exact ⟨fun _ _ _ _ h => h, fun _ _ _ _ h => h, fun _ _ _ _ h => h, fun _ _ _ _ h => h, fun _ _ _ _ h => h, fun _ _ _ _ h => h, fun _ _ _ _ h => h, fun _ _ _ _ h => h, fun _ _ _ _ h => h, fun _ _ _ _ h => h, fun _ _ _ _ h => h, fun _ _ _ _ h => h, fun _ _ _ hs h => by obtain ⟨x, e1, e2, e3⟩ := h; exact ⟨x, e1, e2, hs.heap e3 (fun e => by have := HOW.out.1.lt x e; omega)⟩, fun _ _ _ _ h => h, trivial⟩
        ·intro b0 hN hlv
         refine ⟨?_, ?_, ?_, ?_, ?_, ?_, ?_, ?_, ?_, ?_, ?_, ?_, ?_, ?_, trivial⟩
         ·intro vs p hI0 hp
          have hI := Roll.inw_pure (by decide) rfl hI0
          clear hI0
          have e5 : (Roll.putD Drd13 vs [] b0).eval (.tmp 5) = v0 := (Roll.eval_old rfl).trans (hlv.at 2 (5, v0) rfl)
          clear hp hlv hN
          unfold Roll.Goes
          simp only [Lrd13, List.getD_cons_zero, List.getD_cons_succ]
          generalize Roll.putD Drd13 vs [] b0 = a1 at *
          refine Roll.goes_val (w' := p) (v0) rfl ?_ ⟨(Roll.outw_pure (by decide) rfl), rfl⟩
          (have ⟨ec, ef⟩ := opn_a a1); generalize a1.eval = ρ at *
          skip
          go_simp <;> (intros; first | (exfalso; omega) | rfl | omega)
         ·intro vs p hI0 hp
          have hI := Roll.inw_pure (by decide) rfl hI0
          clear hI0
          have e1 : (Roll.putD Drd13 vs [] b0).eval (.tmp 1) = .slice (some ⟨bb, ob, none⟩) m e := (Roll.eval_old rfl).trans (hlv.at 1 (1, .slice (some ⟨bb, ob, none⟩) m e) rfl)
          clear hp hlv hN
          unfold Roll.Goes
          simp only [Lrd13, List.getD_cons_zero, List.getD_cons_succ]
          generalize Roll.putD Drd13 vs [] b0 = a1 at *
          refine Roll.goes_val (w' := p) (.slice (some ⟨bb, ob, none⟩) m e) rfl ?_ ⟨(Roll.outw_pure (by decide) rfl), rfl⟩
          (have ⟨ec, ef⟩ := opn_a a1); generalize a1.eval = ρ at *
          skip
          go_simp <;> (intros; first | (exfalso; omega) | rfl | omega)
         ·intro vs p hI0 hp
          have hI := Roll.inw_pure (by decide) rfl hI0
          clear hI0
          have e7 : (Roll.putD Drd13 vs [] b0).eval (.tmp 7) = .int .i64 (k : Int) := (Roll.eval_old rfl).trans (hlv.at 4 (7, .int .i64 (k : Int)) rfl)
          clear hp hlv hN
          unfold Roll.Goes
          simp only [Lrd13, List.getD_cons_zero, List.getD_cons_succ]
          generalize Roll.putD Drd13 vs [] b0 = a1 at *
          refine Roll.goes_val (w' := p) (.int .i64 (k : Int)) rfl ?_ ⟨(Roll.outw_pure (by decide) rfl), rfl⟩
          (have ⟨ec, ef⟩ := opn_a a1); generalize a1.eval = ρ at *
          skip
          go_simp <;> (intros; first | (exfalso; omega) | rfl | omega)
         ·intro vs p hI0 hp
          have hI := Roll.inw_pure (by decide) rfl hI0
          clear hI0
          have h1 : (vs 1) = .slice (some ⟨bb, ob, none⟩) m e := hp 1 (by simp [Lrd13])
          have h2 : (vs 2) = .int .i64 (k : Int) := hp 2 (by simp [Lrd13])
          have e109 : (Roll.putD Drd13 vs [1, 2] b0).eval (.tmp 109) = .slice (some ⟨bb, ob, none⟩) m e := (Roll.eval_new 1 rfl (by decide) (by decide) (by omega)).trans h1
          have e110 : (Roll.putD Drd13 vs [1, 2] b0).eval (.tmp 110) = .int .i64 (k : Int) := (Roll.eval_new 2 rfl (by decide) (by decide) (by omega)).trans h2
          clear hp hlv hN
          unfold Roll.Goes
          simp only [Lrd13, List.getD_cons_zero, List.getD_cons_succ]
          generalize Roll.putD Drd13 vs [1, 2] b0 = a1 at *
          have f0 := HKN.out
          have f1 := HPB.out
          have f2 := HK0.out
          refine Roll.goes_val (w' := p) (.pointer (some ⟨bb, pb, none⟩)) rfl ?_ ⟨(Roll.outw_pure (by decide) rfl), rfl⟩
          (have ⟨ec, ef⟩ := opn_a a1); generalize a1.eval = ρ at *
          clear h1 h2
          go_simp <;> (intros; first | (exfalso; omega) | rfl | omega)
         ·intro vs p hI0 hp
          have hI := Roll.inw_pure (by decide) rfl hI0
          clear hI0
          have h3 : (vs 3) = .pointer (some ⟨bb, pb, none⟩) := hp 3 (by simp [Lrd13])
          have e111 : (Roll.putD Drd13 vs [3] b0).eval (.tmp 111) = .pointer (some ⟨bb, pb, none⟩) := (Roll.eval_new 3 rfl (by decide) (by decide) (by omega)).trans h3
          clear hp hlv hN
          unfold Roll.Goes
          simp only [Lrd13, List.getD_cons_zero, List.getD_cons_succ]
          generalize Roll.putD Drd13 vs [3] b0 = a1 at *
          refine Roll.goes_val (w' := p) (.pointer (some ⟨bb, pb, none⟩)) rfl ?_ ⟨(Roll.outw_pure (by decide) rfl), rfl⟩
          (have ⟨ec, ef⟩ := opn_a a1); generalize a1.eval = ρ at *
          clear h3
          go_simp <;> (intros; first | (exfalso; omega) | rfl | omega)
         ·intro vs p hI0 hp
          have hI := Roll.inw_pure (by decide) rfl hI0
          clear hI0
          have h4 : (vs 4) = .pointer (some ⟨bb, pb, none⟩) := hp 4 (by simp [Lrd13])
          have e112 : (Roll.putD Drd13 vs [4] b0).eval (.tmp 112) = .pointer (some ⟨bb, pb, none⟩) := (Roll.eval_new 4 rfl (by decide) (by decide) (by omega)).trans h4
          clear hp hlv hN
          unfold Roll.Goes
          simp only [Lrd13, List.getD_cons_zero, List.getD_cons_succ]
          generalize Roll.putD Drd13 vs [4] b0 = a1 at *
          have cf : p.cell? ⟨bb, pb, none⟩ = some (.string y.k) := (hI.cell (p := ⟨bb, pb, none⟩) HLB.out HNB.out).trans HCB.out
          refine Roll.goes_val (w' := p) (.string y.k) rfl ?_ ⟨(Roll.outw_pure (by decide) rfl), rfl⟩
          (have ⟨ec, ef⟩ := opn_a a1); generalize a1.eval = ρ at *
          clear h4
          go_simp <;> (intros; first | (exfalso; omega) | rfl | omega)
         ·intro vs p hI0 hp
          have hI := Roll.inw_pure (by decide) rfl hI0
          clear hI0
          have e1 : (Roll.putD Drd13 vs [] b0).eval (.tmp 1) = .slice (some ⟨bb, ob, none⟩) m e := (Roll.eval_old rfl).trans (hlv.at 1 (1, .slice (some ⟨bb, ob, none⟩) m e) rfl)
          clear hp hlv hN
          unfold Roll.Goes
          simp only [Lrd13, List.getD_cons_zero, List.getD_cons_succ]
          generalize Roll.putD Drd13 vs [] b0 = a1 at *
          refine Roll.goes_val (w' := p) (.slice (some ⟨bb, ob, none⟩) m e) rfl ?_ ⟨(Roll.outw_pure (by decide) rfl), rfl⟩
          (have ⟨ec, ef⟩ := opn_a a1); generalize a1.eval = ρ at *
          skip
          go_simp <;> (intros; first | (exfalso; omega) | rfl | omega)
         ·intro vs p hI0 hp
          have hI := Roll.inw_pure (by decide) rfl hI0
          clear hI0
          have e7 : (Roll.putD Drd13 vs [] b0).eval (.tmp 7) = .int .i64 (k : Int) := (Roll.eval_old rfl).trans (hlv.at 4 (7, .int .i64 (k : Int)) rfl)
          clear hp hlv hN
          unfold Roll.Goes
          simp only [Lrd13, List.getD_cons_zero, List.getD_cons_succ]
          generalize Roll.putD Drd13 vs [] b0 = a1 at *
          refine Roll.goes_val (w' := p) (.int .i64 (k : Int)) rfl ?_ ⟨(Roll.outw_pure (by decide) rfl), rfl⟩
          (have ⟨ec, ef⟩ := opn_a a1); generalize a1.eval = ρ at *
          skip
          go_simp <;> (intros; first | (exfalso; omega) | rfl | omega)
         ·intro vs p hI0 hp
          have hI := Roll.inw_pure (by decide) rfl hI0
          clear hI0
          have h6 : (vs 6) = .slice (some ⟨bb, ob, none⟩) m e := hp 6 (by simp [Lrd13])
          have h7 : (vs 7) = .int .i64 (k : Int) := hp 7 (by simp [Lrd13])
          have e114 : (Roll.putD Drd13 vs [6, 7] b0).eval (.tmp 114) = .slice (some ⟨bb, ob, none⟩) m e := (Roll.eval_new 6 rfl (by decide) (by decide) (by omega)).trans h6
          have e115 : (Roll.putD Drd13 vs [6, 7] b0).eval (.tmp 115) = .int .i64 (k : Int) := (Roll.eval_new 7 rfl (by decide) (by decide) (by omega)).trans h7
          clear hp hlv hN
          unfold Roll.Goes
          simp only [Lrd13, List.getD_cons_zero, List.getD_cons_succ]
          generalize Roll.putD Drd13 vs [6, 7] b0 = a1 at *
          have f0 := HKN.out
          have f1 := HPB.out
          have f2 := HK0.out
          refine Roll.goes_val (w' := p) (.pointer (some ⟨bb, pb, none⟩)) rfl ?_ ⟨(Roll.outw_pure (by decide) rfl), rfl⟩
          (have ⟨ec, ef⟩ := opn_a a1); generalize a1.eval = ρ at *
          clear h6 h7
          go_simp <;> (intros; first | (exfalso; omega) | rfl | omega)
         ·intro vs p hI0 hp
          have hI := Roll.inw_pure (by decide) rfl hI0
          clear hI0
          have h8 : (vs 8) = .pointer (some ⟨bb, pb, none⟩) := hp 8 (by simp [Lrd13])
          have e116 : (Roll.putD Drd13 vs [8] b0).eval (.tmp 116) = .pointer (some ⟨bb, pb, none⟩) := (Roll.eval_new 8 rfl (by decide) (by decide) (by omega)).trans h8
          clear hp hlv hN
          unfold Roll.Goes
          simp only [Lrd13, List.getD_cons_zero, List.getD_cons_succ]
          generalize Roll.putD Drd13 vs [8] b0 = a1 at *
          refine Roll.goes_val (w' := p) (.pointer (some ⟨bb, pb + 1, none⟩)) rfl ?_ ⟨(Roll.outw_pure (by decide) rfl), rfl⟩
          (have ⟨ec, ef⟩ := opn_a a1); generalize a1.eval = ρ at *
          clear h8
          go_simp <;> (intros; first | (exfalso; omega) | rfl | omega)
         ·intro vs p hI0 hp
          have hI := Roll.inw_pure (by decide) rfl hI0
          clear hI0
          have h9 : (vs 9) = .pointer (some ⟨bb, pb + 1, none⟩) := hp 9 (by simp [Lrd13])
          have e117 : (Roll.putD Drd13 vs [9] b0).eval (.tmp 117) = .pointer (some ⟨bb, pb + 1, none⟩) := (Roll.eval_new 9 rfl (by decide) (by decide) (by omega)).trans h9
          clear hp hlv hN
          unfold Roll.Goes
          simp only [Lrd13, List.getD_cons_zero, List.getD_cons_succ]
          generalize Roll.putD Drd13 vs [9] b0 = a1 at *
          have cf : p.cell? ⟨bb, pb + 1, none⟩ = some (.string y.v) := (hI.cell (p := ⟨bb, pb + 1, none⟩) HLB.out HNB.out).trans HCB1.out
          refine Roll.goes_val (w' := p) (.string y.v) rfl ?_ ⟨(Roll.outw_pure (by decide) rfl), rfl⟩
          (have ⟨ec, ef⟩ := opn_a a1); generalize a1.eval = ρ at *
          clear h9
          go_simp <;> (intros; first | (exfalso; omega) | rfl | omega)
         ·intro vs p hI0 hp
          have hI := Roll.inw_pure (by decide) rfl hI0
          clear hI0
          have h5 : (vs 5) = .string y.k := hp 5 (by simp [Lrd13])
          have h10 : (vs 10) = .string y.v := hp 10 (by simp [Lrd13])
          have e113 : (Roll.putD Drd13 vs [5, 10] b0).eval (.tmp 113) = .string y.k := (Roll.eval_new 5 rfl (by decide) (by decide) (by omega)).trans h5
          have e118 : (Roll.putD Drd13 vs [5, 10] b0).eval (.tmp 118) = .string y.v := (Roll.eval_new 10 rfl (by decide) (by decide) (by omega)).trans h10
          clear hp hlv hN
          unfold Roll.Goes
          simp only [Lrd13, List.getD_cons_zero, List.getD_cons_succ]
          generalize Roll.putD Drd13 vs [5, 10] b0 = a1 at *
          refine Roll.goes_val (w' := p) (.agg #[.string y.k, .string y.v, .bool false]) rfl ?_ ⟨(Roll.outw_pure (by decide) rfl), rfl⟩
          (have ⟨ec, ef⟩ := opn_a a1); generalize a1.eval = ρ at *
          clear h5 h10
          go_simp <;> (intros; first | (exfalso; omega) | rfl | omega)
         ·intro vs p hI0 hp
          have hI := Roll.inw_pre (by decide) rfl hI0
          clear hI0
          have h11 : (vs 11) = .agg #[.string y.k, .string y.v, .bool false] := hp 11 (by simp [Lrd13])
          have e119 : (Roll.putD Drd13 vs [11] b0).eval (.tmp 119) = .agg #[.string y.k, .string y.v, .bool false] := (Roll.eval_new 11 rfl (by decide) (by decide) (by omega)).trans h11
          clear hp hlv hN
          unfold Roll.Goes
          simp only [Lrd13, List.getD_cons_zero, List.getD_cons_succ]
          generalize Roll.putD Drd13 vs [11] b0 = a1 at *
          have hal : Below p.heap.size p (p.alloc (.cells #[.string y.k, .string y.v, .bool false] 61)) := (Below.refl _ _).alloc (Nat.le_refl _) _
          refine Roll.goes_val (w' := p.alloc (.cells #[.string y.k, .string y.v, .bool false] 61)) (.slice (some ⟨p.heap.size, 0, none⟩) 1 1) rfl (by have ec : ∀ x, a1.eval (.const x) = x := fun _ => rfl; have ef : ∀ x, a1.eval (.func x) = .func (.func x) #[] #[] := fun _ => rfl; generalize a1.eval = ρ at *; go_simp <;> (intros; first | (exfalso; omega) | rfl)) ⟨Roll.outw_pre (by decide) rfl (hI.trans (hal.mono hI.size)) (Kept.of_below _ hal), p.heap.size, rfl, hI.size, heap_new rfl⟩
         ·intro vs p hI0 hp
          have hI := Roll.inw_k0 rfl hI0
          clear hI0
          have h0 : (vs 0) = v0 := hp 0 (by simp [Lrd13])
          have h12 : ∃ x, (vs 12) = .slice (some ⟨x, 0, none⟩) 1 1 ∧ wr.heap.size ≤ x ∧ p.heap[x]? = some (.cells #[.string y.k, .string y.v, .bool false] 61 (0, 0)) := hp 12 (by simp [Lrd13])
          have e108 : (Roll.putD Drd13 vs [0, 12] b0).eval (.tmp 108) = v0 := (Roll.eval_new 0 rfl (by decide) (by decide) (by omega)).trans h0
          have e120 : (Roll.putD Drd13 vs [0, 12] b0).eval (.tmp 120) = vs 12 := (Roll.eval_new 12 rfl (by decide) (by decide) (by omega))
          clear hp hlv hN
          unfold Roll.Goes
          simp only [Lrd13, List.getD_cons_zero, List.getD_cons_succ]
          generalize Roll.putD Drd13 vs [0, 12] b0 = a1 at *
          obtain ⟨z, hvz, hzz, hhz⟩ := h12
          rw [hvz] at e120
          refine wpList_append_any _ rfl (.tmp 108) (.tmp 120) _ _ rfl 61 i0 _ 3 40 Try.underlying56 hi hz0 hz1 hz2 rfl v0.ownBlock v0 es.length (ecells es) e108 (HOW.out.1.kept (Kept.of_below (fun _ => False) hI) (fun _ _ h => h)) 1 (ecells [setE y]) (by rw [e120]; exact one_src _ _ hhz) HBD.out.1 HBD.out.2 ?_
          intro k' v' w' ho' hf' hK' _
          exact ⟨v', rfl, Roll.outw_k0 rfl ⟨_, k', hI, ho', fun j hj => (hf' j hj).imp id (fun e => Nat.le_trans hI.size e), hK'⟩ hK', trivial⟩
        ·intro vs p hI hR
         have h0 : (vs 0) = v0 := hR 0 (by omega)
         have h1 : (vs 1) = .slice (some ⟨bb, ob, none⟩) m e := hR 1 (by omega)
         have h2 : (vs 2) = .int .i64 (k : Int) := hR 2 (by omega)
         have h3 : (vs 3) = .pointer (some ⟨bb, pb, none⟩) := hR 3 (by omega)
         have h4 : (vs 4) = .pointer (some ⟨bb, pb, none⟩) := hR 4 (by omega)
         have h5 : (vs 5) = .string y.k := hR 5 (by omega)
         have h6 : (vs 6) = .slice (some ⟨bb, ob, none⟩) m e := hR 6 (by omega)
         have h7 : (vs 7) = .int .i64 (k : Int) := hR 7 (by omega)
         have h8 : (vs 8) = .pointer (some ⟨bb, pb, none⟩) := hR 8 (by omega)
         have h9 : (vs 9) = .pointer (some ⟨bb, pb + 1, none⟩) := hR 9 (by omega)
         have h10 : (vs 10) = .string y.v := hR 10 (by omega)
         have h11 : (vs 11) = .agg #[.string y.k, .string y.v, .bool false] := hR 11 (by omega)
         have h12 : ∃ x, (vs 12) = .slice (some ⟨x, 0, none⟩) 1 1 ∧ wr.heap.size ≤ x ∧ p.heap[x]? = some (.cells #[.string y.k, .string y.v, .bool false] 61 (0, 0)) := hR 12 (by omega)
         have h13 : True := hR 13 (by omega)
         clear hR
         simp only [List.range_succ, List.range_zero, List.nil_append, List.cons_append, Roll.putD, Act.put, List.getD_cons_zero, List.getD_cons_succ, List.setIfInBounds_toArray, List.set_cons_zero, List.set_cons_succ, List.drop_succ_cons, List.drop_zero, Drd13]
         simp only [h0, h1, h2, h3, h4, h5, h6, h7, h8, h9, h10, h11]
         clear h0 h1 h2 h3 h4 h5 h6 h7 h8 h9 h10 h11
         clear h12 h13
         generalize vs 12 = v12 at *
         generalize vs 13 = v13 at *
         obtain ⟨p8, k', hb8, ho', hf', hK'⟩ := hI
         obtain ⟨hro9, hbe9⟩ := rd_app (e1 := setE y) HB.out HOW.out.2 hb8 ho' hf' hK'
         have HRO9 := Lib.hid hro9
         have HBE9 := Lib.hid hbe9
         clear hb8 ho' hf' hK' hro9 hbe9
         go_wp2_with fail
         go_roundw
         case rel =>
          refine ⟨i, k + 1, v13, es ++ [setE y], rfl, (by first | rfl | go_num), by go_num, (by have := HEL.out; have := HI2.out; omega), by have := HK2.out; omega, HRO9.out, ?_, by rw [List.length_append]; simp only [List.length_cons, List.length_nil]; have := HEL.out; omega, HBE9.out⟩
          have h := HD.out
          rw [HDX.out, HDY.out, diffR, if_neg (by have := HNL.out; omega), if_pos HGT.out, ← HDX.out] at h
          rw [← h, List.append_assoc]
          all_goals rfl
         case measure => (try go_num); (try (simp only [intOf])); have := HK2.out; omega
      ·have HLS2 : Hid (Op.bytesLess y.k.toList x.k.toList = false) := Lib.hid (by rw [less_cmpK]; simpa using hgt)
       have HGT := Lib.hid hgt
       clear hgt
       refine Roll.region_f 18 125 Drd12 Lrd12 [(0, .slice (some ⟨ba, oa, none⟩) n c), (1, .slice (some ⟨bb, ob, none⟩) m e), (5, v0), (6, .int .i64 (i : Int)), (7, .int .i64 (k : Int))] (fun p => Below wr.heap.size wr p) (fun p p2 => Below p.heap.size p p2) [fun vv p => vv = .int .i64 (i : Int), fun vv p => vv = .slice (some ⟨ba, oa, none⟩) n c, fun vv p => vv = .int .i64 (n : Int), fun vv p => vv = .bool false, fun vv p => vv = .bool false, fun vv p => vv = .slice (some ⟨bb, ob, none⟩) m e, fun vv p => vv = .int .i64 (k : Int), fun vv p => vv = .pointer (some ⟨bb, pb, none⟩), fun vv p => vv = .pointer (some ⟨bb, pb, none⟩), fun vv p => vv = .string y.k, fun vv p => vv = .slice (some ⟨ba, oa, none⟩) n c, fun vv p => vv = .int .i64 (i : Int), fun vv p => vv = .pointer (some ⟨ba, pa, none⟩), fun vv p => vv = .pointer (some ⟨ba, pa, none⟩), fun vv p => vv = .string x.k, fun vv p => vv = .bool false, fun vv p => vv = .bool false, fun vv p => vv = .bool false] (by kernel_rfl) (by kernel_rfl) rfl ⟨rfl, rfl, rfl, rfl, rfl, trivial⟩ ((Below.refl _ _).drew) ?_ ?_ ?_
       ·exact ⟨fun _ _ _ _ h => h, fun _ _ _ _ h => h, fun _ _ _ _ h => h, fun _ _ _ _ h => h, fun _ _ _ _ h => h, fun _ _ _ _ h => h, fun _ _ _ _ h => h, fun _ _ _ _ h => h, fun _ _ _ _ h => h, fun _ _ _ _ h => h, fun _ _ _ _ h => h, fun _ _ _ _ h => h, fun _ _ _ _ h => h, fun _ _ _ _ h => h, fun _ _ _ _ h => h, fun _ _ _ _ h => h, fun _ _ _ _ h => h, fun _ _ _ _ h => h, trivial⟩
       ·intro b0 hN hlv
        refine ⟨?_, ?_, ?_, ?_, ?_, ?_, ?_, ?_, ?_, ?_, ?_, ?_, ?_, ?_, ?_, ?_, ?_, ?_, trivial⟩
        ·intro vs p hI hp
         have e6 : (Roll.putD Drd12 vs [] b0).eval (.tmp 6) = .int .i64 (i : Int) := (Roll.eval_old rfl).trans (hlv.at 3 (6, .int .i64 (i : Int)) rfl)
         clear hp hlv hN
         unfold Roll.Goes
         simp only [Lrd12, List.getD_cons_zero, List.getD_cons_succ]
         generalize Roll.putD Drd12 vs [] b0 = a1 at *
         refine Roll.goes_val (w' := p) (.int .i64 (i : Int)) rfl ?_ ⟨hI, Below.refl _ _, rfl⟩
         (have ⟨ec, ef⟩ := opn_a a1); generalize a1.eval = ρ at *
         skip
         go_simp <;> (intros; first | (exfalso; omega) | rfl | omega)
        ·intro vs p hI hp
         have e0 : (Roll.putD Drd12 vs [] b0).eval (.tmp 0) = .slice (some ⟨ba, oa, none⟩) n c := (Roll.eval_old rfl).trans (hlv.at 0 (0, .slice (some ⟨ba, oa, none⟩) n c) rfl)
         clear hp hlv hN
         unfold Roll.Goes
         simp only [Lrd12, List.getD_cons_zero, List.getD_cons_succ]
         generalize Roll.putD Drd12 vs [] b0 = a1 at *
         refine Roll.goes_val (w' := p) (.slice (some ⟨ba, oa, none⟩) n c) rfl ?_ ⟨hI, Below.refl _ _, rfl⟩
         (have ⟨ec, ef⟩ := opn_a a1); generalize a1.eval = ρ at *
         skip
         go_simp <;> (intros; first | (exfalso; omega) | rfl | omega)
        ·intro vs p hI hp
         have h1 : (vs 1) = .slice (some ⟨ba, oa, none⟩) n c := hp 1 (by simp [Lrd12])
         have e92 : (Roll.putD Drd12 vs [1] b0).eval (.tmp 92) = .slice (some ⟨ba, oa, none⟩) n c := (Roll.eval_new 1 rfl (by decide) (by decide) (by omega)).trans h1
         clear hp hlv hN
         unfold Roll.Goes
         simp only [Lrd12, List.getD_cons_zero, List.getD_cons_succ]
         generalize Roll.putD Drd12 vs [1] b0 = a1 at *
         refine Roll.goes_val (w' := p) (.int .i64 (n : Int)) rfl ?_ ⟨hI, Below.refl _ _, rfl⟩
         (have ⟨ec, ef⟩ := opn_a a1); generalize a1.eval = ρ at *
         clear h1
         go_simp <;> (intros; first | (exfalso; omega) | rfl | omega)
        ·intro vs p hI hp
         have h0 : (vs 0) = .int .i64 (i : Int) := hp 0 (by simp [Lrd12])
         have h2 : (vs 2) = .int .i64 (n : Int) := hp 2 (by simp [Lrd12])
         have e91 : (Roll.putD Drd12 vs [0, 2] b0).eval (.tmp 91) = .int .i64 (i : Int) := (Roll.eval_new 0 rfl (by decide) (by decide) (by omega)).trans h0
         have e93 : (Roll.putD Drd12 vs [0, 2] b0).eval (.tmp 93) = .int .i64 (n : Int) := (Roll.eval_new 2 rfl (by decide) (by decide) (by omega)).trans h2
         clear hp hlv hN
         unfold Roll.Goes
         simp only [Lrd12, List.getD_cons_zero, List.getD_cons_succ]
         generalize Roll.putD Drd12 vs [0, 2] b0 = a1 at *
         have f0 := HINE.out
         refine Roll.goes_val (w' := p) (.bool false) rfl ?_ ⟨hI, Below.refl _ _, rfl⟩
         (have ⟨ec, ef⟩ := opn_a a1); generalize a1.eval = ρ at *
         clear h0 h2
         go_simp <;> (intros; first | (exfalso; omega) | rfl | omega)
        ·intro vs p hI hp
         have h3 : (vs 3) = .bool false := hp 3 (by simp [Lrd12])
         have e94 : (Roll.putD Drd12 vs [3] b0).eval (.tmp 94) = .bool false := (Roll.eval_new 3 rfl (by decide) (by decide) (by omega)).trans h3
         clear hp hlv hN
         unfold Roll.Goes
         simp only [Lrd12, List.getD_cons_zero, List.getD_cons_succ]
         generalize Roll.putD Drd12 vs [3] b0 = a1 at *
         refine Roll.goes_val (w' := p) (.bool false) rfl ?_ ⟨hI, Below.refl _ _, rfl⟩
         (have ⟨ec, ef⟩ := opn_a a1); generalize a1.eval = ρ at *
         clear h3
         go_simp <;> (intros; first | (exfalso; omega) | rfl | omega)
        ·intro vs p hI hp
         have h4 : (vs 4) = .bool false := hp 4 (by simp [Lrd12])
         have e1 : (Roll.putD Drd12 vs [4] b0).eval (.tmp 1) = .slice (some ⟨bb, ob, none⟩) m e := (Roll.eval_old rfl).trans (hlv.at 1 (1, .slice (some ⟨bb, ob, none⟩) m e) rfl)
         clear hp hlv hN
         refine ⟨fun hg => ?_, fun hg => absurd h4 hg⟩
         clear hg
         unfold Roll.Goes
         simp only [Lrd12, List.getD_cons_zero, List.getD_cons_succ]
         generalize Roll.putD Drd12 vs [4] b0 = a1 at *
         refine Roll.goes_val (w' := p) (.slice (some ⟨bb, ob, none⟩) m e) rfl ?_ ⟨hI, Below.refl _ _, rfl⟩
         (have ⟨ec, ef⟩ := opn_a a1); generalize a1.eval = ρ at *
         clear h4
         go_simp <;> (intros; first | (exfalso; omega) | rfl | omega)
        ·intro vs p hI hp
         have h4 : (vs 4) = .bool false := hp 4 (by simp [Lrd12])
         have e7 : (Roll.putD Drd12 vs [4] b0).eval (.tmp 7) = .int .i64 (k : Int) := (Roll.eval_old rfl).trans (hlv.at 4 (7, .int .i64 (k : Int)) rfl)
         clear hp hlv hN
         refine ⟨fun hg => ?_, fun hg => absurd h4 hg⟩
         clear hg
         unfold Roll.Goes
         simp only [Lrd12, List.getD_cons_zero, List.getD_cons_succ]
         generalize Roll.putD Drd12 vs [4] b0 = a1 at *
         refine Roll.goes_val (w' := p) (.int .i64 (k : Int)) rfl ?_ ⟨hI, Below.refl _ _, rfl⟩
         (have ⟨ec, ef⟩ := opn_a a1); generalize a1.eval = ρ at *
         clear h4
         go_simp <;> (intros; first | (exfalso; omega) | rfl | omega)
        ·intro vs p hI hp
         have h5 : (vs 5) = .slice (some ⟨bb, ob, none⟩) m e := hp 5 (by simp [Lrd12])
         have h6 : (vs 6) = .int .i64 (k : Int) := hp 6 (by simp [Lrd12])
         have h4 : (vs 4) = .bool false := hp 4 (by simp [Lrd12])
         have e96 : (Roll.putD Drd12 vs [5, 6, 4] b0).eval (.tmp 96) = .slice (some ⟨bb, ob, none⟩) m e := (Roll.eval_new 5 rfl (by decide) (by decide) (by omega)).trans h5
         have e97 : (Roll.putD Drd12 vs [5, 6, 4] b0).eval (.tmp 97) = .int .i64 (k : Int) := (Roll.eval_new 6 rfl (by decide) (by decide) (by omega)).trans h6
         clear hp hlv hN
         refine ⟨fun hg => ?_, fun hg => absurd h4 hg⟩
         clear hg
         unfold Roll.Goes
         simp only [Lrd12, List.getD_cons_zero, List.getD_cons_succ]
         generalize Roll.putD Drd12 vs [5, 6, 4] b0 = a1 at *
         have f0 := HKN.out
         have f1 := HPB.out
         have f2 := HK0.out
         refine Roll.goes_val (w' := p) (.pointer (some ⟨bb, pb, none⟩)) rfl ?_ ⟨hI, Below.refl _ _, rfl⟩
         (have ⟨ec, ef⟩ := opn_a a1); generalize a1.eval = ρ at *
         clear h5 h6 h4
         go_simp <;> (intros; first | (exfalso; omega) | rfl | omega)
        ·intro vs p hI hp
         have h7 : (vs 7) = .pointer (some ⟨bb, pb, none⟩) := hp 7 (by simp [Lrd12])
         have h4 : (vs 4) = .bool false := hp 4 (by simp [Lrd12])
         have e98 : (Roll.putD Drd12 vs [7, 4] b0).eval (.tmp 98) = .pointer (some ⟨bb, pb, none⟩) := (Roll.eval_new 7 rfl (by decide) (by decide) (by omega)).trans h7
         clear hp hlv hN
         refine ⟨fun hg => ?_, fun hg => absurd h4 hg⟩
         clear hg
         unfold Roll.Goes
         simp only [Lrd12, List.getD_cons_zero, List.getD_cons_succ]
         generalize Roll.putD Drd12 vs [7, 4] b0 = a1 at *
         refine Roll.goes_val (w' := p) (.pointer (some ⟨bb, pb, none⟩)) rfl ?_ ⟨hI, Below.refl _ _, rfl⟩
         (have ⟨ec, ef⟩ := opn_a a1); generalize a1.eval = ρ at *
         clear h7 h4
         go_simp <;> (intros; first | (exfalso; omega) | rfl | omega)
        ·intro vs p hI hp
         have h8 : (vs 8) = .pointer (some ⟨bb, pb, none⟩) := hp 8 (by simp [Lrd12])
         have h4 : (vs 4) = .bool false := hp 4 (by simp [Lrd12])
         have e99 : (Roll.putD Drd12 vs [8, 4] b0).eval (.tmp 99) = .pointer (some ⟨bb, pb, none⟩) := (Roll.eval_new 8 rfl (by decide) (by decide) (by omega)).trans h8
         clear hp hlv hN
         refine ⟨fun hg => ?_, fun hg => absurd h4 hg⟩
         clear hg
         unfold Roll.Goes
         simp only [Lrd12, List.getD_cons_zero, List.getD_cons_succ]
         generalize Roll.putD Drd12 vs [8, 4] b0 = a1 at *
         have cf : p.cell? ⟨bb, pb, none⟩ = some (.string y.k) := (hI.cell (p := ⟨bb, pb, none⟩) HLB.out).trans HCB.out
         refine Roll.goes_val (w' := p) (.string y.k) rfl ?_ ⟨hI, Below.refl _ _, rfl⟩
         (have ⟨ec, ef⟩ := opn_a a1); generalize a1.eval = ρ at *
         clear h8 h4
         go_simp <;> (intros; first | (exfalso; omega) | rfl | omega)
        ·intro vs p hI hp
         have h4 : (vs 4) = .bool false := hp 4 (by simp [Lrd12])
         have e0 : (Roll.putD Drd12 vs [4] b0).eval (.tmp 0) = .slice (some ⟨ba, oa, none⟩) n c := (Roll.eval_old rfl).trans (hlv.at 0 (0, .slice (some ⟨ba, oa, none⟩) n c) rfl)
         clear hp hlv hN
         refine ⟨fun hg => ?_, fun hg => absurd h4 hg⟩
         clear hg
         unfold Roll.Goes
         simp only [Lrd12, List.getD_cons_zero, List.getD_cons_succ]
         generalize Roll.putD Drd12 vs [4] b0 = a1 at *
         refine Roll.goes_val (w' := p) (.slice (some ⟨ba, oa, none⟩) n c) rfl ?_ ⟨hI, Below.refl _ _, rfl⟩
         (have ⟨ec, ef⟩ := opn_a a1); generalize a1.eval = ρ at *
         clear h4
         go_simp <;> (intros; first | (exfalso; omega) | rfl | omega)
        ·intro vs p hI hp
         have h4 : (vs 4) = .bool false := hp 4 (by simp [Lrd12])
         have e6 : (Roll.putD Drd12 vs [4] b0).eval (.tmp 6) = .int .i64 (i : Int) := (Roll.eval_old rfl).trans (hlv.at 3 (6, .int .i64 (i : Int)) rfl)
         clear hp hlv hN
         refine ⟨fun hg => ?_, fun hg => absurd h4 hg⟩
         clear hg
         unfold Roll.Goes
         simp only [Lrd12, List.getD_cons_zero, List.getD_cons_succ]
         generalize Roll.putD Drd12 vs [4] b0 = a1 at *
         refine Roll.goes_val (w' := p) (.int .i64 (i : Int)) rfl ?_ ⟨hI, Below.refl _ _, rfl⟩
         (have ⟨ec, ef⟩ := opn_a a1); generalize a1.eval = ρ at *
         clear h4
         go_simp <;> (intros; first | (exfalso; omega) | rfl | omega)
        ·intro vs p hI hp
         have h10 : (vs 10) = .slice (some ⟨ba, oa, none⟩) n c := hp 10 (by simp [Lrd12])
         have h11 : (vs 11) = .int .i64 (i : Int) := hp 11 (by simp [Lrd12])
         have h4 : (vs 4) = .bool false := hp 4 (by simp [Lrd12])
         have e101 : (Roll.putD Drd12 vs [10, 11, 4] b0).eval (.tmp 101) = .slice (some ⟨ba, oa, none⟩) n c := (Roll.eval_new 10 rfl (by decide) (by decide) (by omega)).trans h10
         have e102 : (Roll.putD Drd12 vs [10, 11, 4] b0).eval (.tmp 102) = .int .i64 (i : Int) := (Roll.eval_new 11 rfl (by decide) (by decide) (by omega)).trans h11
         clear hp hlv hN
         refine ⟨fun hg => ?_, fun hg => absurd h4 hg⟩
         clear hg
         unfold Roll.Goes
         simp only [Lrd12, List.getD_cons_zero, List.getD_cons_succ]
         generalize Roll.putD Drd12 vs [10, 11, 4] b0 = a1 at *
         have f0 := HIN2.out
         have f1 := HPA.out
         have f2 := HI0.out
         refine Roll.goes_val (w' := p) (.pointer (some ⟨ba, pa, none⟩)) rfl ?_ ⟨hI, Below.refl _ _, rfl⟩
         (have ⟨ec, ef⟩ := opn_a a1); generalize a1.eval = ρ at *
         clear h10 h11 h4
         go_simp <;> (intros; first | (exfalso; omega) | rfl | omega)
        ·intro vs p hI hp
         have h12 : (vs 12) = .pointer (some ⟨ba, pa, none⟩) := hp 12 (by simp [Lrd12])
         have h4 : (vs 4) = .bool false := hp 4 (by simp [Lrd12])
         have e103 : (Roll.putD Drd12 vs [12, 4] b0).eval (.tmp 103) = .pointer (some ⟨ba, pa, none⟩) := (Roll.eval_new 12 rfl (by decide) (by decide) (by omega)).trans h12
         clear hp hlv hN
         refine ⟨fun hg => ?_, fun hg => absurd h4 hg⟩
         clear hg
         unfold Roll.Goes
         simp only [Lrd12, List.getD_cons_zero, List.getD_cons_succ]
         generalize Roll.putD Drd12 vs [12, 4] b0 = a1 at *
         refine Roll.goes_val (w' := p) (.pointer (some ⟨ba, pa, none⟩)) rfl ?_ ⟨hI, Below.refl _ _, rfl⟩
         (have ⟨ec, ef⟩ := opn_a a1); generalize a1.eval = ρ at *
         clear h12 h4
         go_simp <;> (intros; first | (exfalso; omega) | rfl | omega)
        ·intro vs p hI hp
         have h13 : (vs 13) = .pointer (some ⟨ba, pa, none⟩) := hp 13 (by simp [Lrd12])
         have h4 : (vs 4) = .bool false := hp 4 (by simp [Lrd12])
         have e104 : (Roll.putD Drd12 vs [13, 4] b0).eval (.tmp 104) = .pointer (some ⟨ba, pa, none⟩) := (Roll.eval_new 13 rfl (by decide) (by decide) (by omega)).trans h13
         clear hp hlv hN
         refine ⟨fun hg => ?_, fun hg => absurd h4 hg⟩
         clear hg
         unfold Roll.Goes
         simp only [Lrd12, List.getD_cons_zero, List.getD_cons_succ]
         generalize Roll.putD Drd12 vs [13, 4] b0 = a1 at *
         have cf : p.cell? ⟨ba, pa, none⟩ = some (.string x.k) := (hI.cell (p := ⟨ba, pa, none⟩) HLA.out).trans HCA.out
         refine Roll.goes_val (w' := p) (.string x.k) rfl ?_ ⟨hI, Below.refl _ _, rfl⟩
         (have ⟨ec, ef⟩ := opn_a a1); generalize a1.eval = ρ at *
         clear h13 h4
         go_simp <;> (intros; first | (exfalso; omega) | rfl | omega)
        ·intro vs p hI hp
         have h9 : (vs 9) = .string y.k := hp 9 (by simp [Lrd12])
         have h14 : (vs 14) = .string x.k := hp 14 (by simp [Lrd12])
         have h4 : (vs 4) = .bool false := hp 4 (by simp [Lrd12])
         have e100 : (Roll.putD Drd12 vs [9, 14, 4] b0).eval (.tmp 100) = .string y.k := (Roll.eval_new 9 rfl (by decide) (by decide) (by omega)).trans h9
         have e105 : (Roll.putD Drd12 vs [9, 14, 4] b0).eval (.tmp 105) = .string x.k := (Roll.eval_new 14 rfl (by decide) (by decide) (by omega)).trans h14
         clear hp hlv hN
         refine ⟨fun hg => ?_, fun hg => absurd h4 hg⟩
         clear hg
         unfold Roll.Goes
         simp only [Lrd12, List.getD_cons_zero, List.getD_cons_succ]
         generalize Roll.putD Drd12 vs [9, 14, 4] b0 = a1 at *
         have f0 := HLS2.out
         refine Roll.goes_val (w' := p) (.bool false) rfl ?_ ⟨hI, Below.refl _ _, rfl⟩
         (have ⟨ec, ef⟩ := opn_a a1); generalize a1.eval = ρ at *
         clear h9 h14 h4
         go_simp <;> (intros; first | (exfalso; omega) | rfl | omega)
        ·intro vs p hI hp
         have h4 : (vs 4) = .bool false := hp 4 (by simp [Lrd12])
         have h15 : (vs 15) = .bool false := hp 15 (by simp [Lrd12])
         have e95 : (Roll.putD Drd12 vs [4, 15] b0).eval (.tmp 95) = .bool false := (Roll.eval_new 4 rfl (by decide) (by decide) (by omega)).trans h4
         have e106 : (Roll.putD Drd12 vs [4, 15] b0).eval (.tmp 106) = .bool false := (Roll.eval_new 15 rfl (by decide) (by decide) (by omega)).trans h15
         clear hp hlv hN
         unfold Roll.Goes
         simp only [Lrd12, List.getD_cons_zero, List.getD_cons_succ]
         generalize Roll.putD Drd12 vs [4, 15] b0 = a1 at *
         refine Roll.goes_val (w' := p) (.bool false) rfl ?_ ⟨hI, Below.refl _ _, rfl⟩
         (have ⟨ec, ef⟩ := opn_a a1); generalize a1.eval = ρ at *
         clear h4 h15
         go_simp <;> (intros; first | (exfalso; omega) | rfl | omega)
        ·intro vs p hI hp
         have h16 : (vs 16) = .bool false := hp 16 (by simp [Lrd12])
         have e107 : (Roll.putD Drd12 vs [16] b0).eval (.tmp 107) = .bool false := (Roll.eval_new 16 rfl (by decide) (by decide) (by omega)).trans h16
         clear hp hlv hN
         unfold Roll.Goes
         simp only [Lrd12, List.getD_cons_zero, List.getD_cons_succ]
         generalize Roll.putD Drd12 vs [16] b0 = a1 at *
         refine Roll.goes_val (w' := p) (.bool false) rfl ?_ ⟨hI, Below.refl _ _, rfl⟩
         (have ⟨ec, ef⟩ := opn_a a1); generalize a1.eval = ρ at *
         clear h16
         go_simp <;> (intros; first | (exfalso; omega) | rfl | omega)
       ·intro vs p hI hR
        have h0 : (vs 0) = .int .i64 (i : Int) := hR 0 (by omega)
        have h1 : (vs 1) = .slice (some ⟨ba, oa, none⟩) n c := hR 1 (by omega)
        have h2 : (vs 2) = .int .i64 (n : Int) := hR 2 (by omega)
        have h3 : (vs 3) = .bool false := hR 3 (by omega)
        have h4 : (vs 4) = .bool false := hR 4 (by omega)
        have h5 : (vs 5) = .slice (some ⟨bb, ob, none⟩) m e := hR 5 (by omega)
        have h6 : (vs 6) = .int .i64 (k : Int) := hR 6 (by omega)
        have h7 : (vs 7) = .pointer (some ⟨bb, pb, none⟩) := hR 7 (by omega)
        have h8 : (vs 8) = .pointer (some ⟨bb, pb, none⟩) := hR 8 (by omega)
        have h9 : (vs 9) = .string y.k := hR 9 (by omega)
        have h10 : (vs 10) = .slice (some ⟨ba, oa, none⟩) n c := hR 10 (by omega)
        have h11 : (vs 11) = .int .i64 (i : Int) := hR 11 (by omega)
        have h12 : (vs 12) = .pointer (some ⟨ba, pa, none⟩) := hR 12 (by omega)
        have h13 : (vs 13) = .pointer (some ⟨ba, pa, none⟩) := hR 13 (by omega)
        have h14 : (vs 14) = .string x.k := hR 14 (by omega)
        have h15 : (vs 15) = .bool false := hR 15 (by omega)
        have h16 : (vs 16) = .bool false := hR 16 (by omega)
        have h17 : (vs 17) = .bool false := hR 17 (by omega)
        clear hR
        simp only [List.range_succ, List.range_zero, List.nil_append, List.cons_append, Roll.putD, Act.put, List.getD_cons_zero, List.getD_cons_succ, List.setIfInBounds_toArray, List.set_cons_zero, List.set_cons_succ, List.drop_succ_cons, List.drop_zero, Drd12]
        simp only [h0, h1, h2, h3, h4, h5, h6, h7, h8, h9, h10, h11, h12, h13, h14, h15, h16, h17]
        clear h0 h1 h2 h3 h4 h5 h6 h7 h8 h9 h10 h11 h12 h13 h14 h15 h16 h17
        obtain ⟨p9, hp9⟩ : ∃ z, z = p := ⟨_, rfl⟩
        subst hp9
        have HI9 := Lib.hid hI
        clear hI
        apply wpList_nil
        go_step
        go_step
        go_wp2_with fail
        have HB := Lib.hid (HB.out.trans (HI9.out.mono HB.out.size))
        have HOW := Lib.hid (show Own p9 61 3 v0.ownBlock v0 es.length (ecells es) ∧ ∀ j, v0.ownBlock = some j → w.heap.size ≤ j from ⟨HOW.out.1.kept (Kept.of_below (fun _ => False) HI9.out) (fun _ _ h => h), HOW.out.2⟩)
        have HROW := Lib.hid (ownsRow_below HROW.out HI9.out)
        have HCA : Hid (p9.cell? ⟨ba, pa, none⟩ = some (.string x.k)) := Lib.hid ((HI9.out.cell (p := ⟨ba, pa, none⟩) HLA.out).trans HCA.out)
        have HCA1 : Hid (p9.cell? ⟨ba, pa + 1, none⟩ = some (.string x.v)) := Lib.hid ((HI9.out.cell (p := ⟨ba, pa + 1, none⟩) HLA.out).trans HCA1.out)
        have HLA : Hid (ba < p9.heap.size) := Lib.hid (Nat.lt_of_lt_of_le HLA.out HI9.out.size)
        have HCB : Hid (p9.cell? ⟨bb, pb, none⟩ = some (.string y.k)) := Lib.hid ((HI9.out.cell (p := ⟨bb, pb, none⟩) HLB.out).trans HCB.out)
        have HCB1 : Hid (p9.cell? ⟨bb, pb + 1, none⟩ = some (.string y.v)) := Lib.hid ((HI9.out.cell (p := ⟨bb, pb + 1, none⟩) HLB.out).trans HCB1.out)
        have HLB : Hid (bb < p9.heap.size) := Lib.hid (Nat.lt_of_lt_of_le HLB.out HI9.out.size)
        obtain ⟨wr, hwr⟩ : ∃ z, z = p9 := ⟨_, rfl⟩
        subst hwr
        clear HI9
        by_cases hv : x.v = y.v
        ·have HVE := Lib.hid hv
         have HV1 : Hid (x.v.toList = y.v.toList) := Lib.hid (by rw [hv])
         have HV2 : Hid ((x.v.toList == y.v.toList) = true) := Lib.hid (by rw [str_beq]; simpa using hv)
         clear hv
         refine Roll.region_f 11 125 Drd5 Lrd5 [(0, .slice (some ⟨ba, oa, none⟩) n c), (1, .slice (some ⟨bb, ob, none⟩) m e), (5, v0), (6, .int .i64 (i : Int)), (7, .int .i64 (k : Int))] (fun p => Below wr.heap.size wr p) (fun p p2 => Below p.heap.size p p2) [fun vv p => vv = .slice (some ⟨ba, oa, none⟩) n c, fun vv p => vv = .int .i64 (i : Int), fun vv p => vv = .pointer (some ⟨ba, pa, none⟩), fun vv p => vv = .pointer (some ⟨ba, pa + 1, none⟩), fun vv p => vv = .string x.v, fun vv p => vv = .slice (some ⟨bb, ob, none⟩) m e, fun vv p => vv = .int .i64 (k : Int), fun vv p => vv = .pointer (some ⟨bb, pb, none⟩), fun vv p => vv = .pointer (some ⟨bb, pb + 1, none⟩), fun vv p => vv = .string y.v, fun vv p => vv = .bool false] (by kernel_rfl) (by kernel_rfl) rfl ⟨rfl, rfl, rfl, rfl, rfl, trivial⟩ ((Below.refl _ _).drew) ?_ ?_ ?_
         ·exact ⟨fun _ _ _ _ h => h, fun _ _ _ _ h => h, fun _ _ _ _ h => h, fun _ _ _ _ h => h, fun _ _ _ _ h => h, fun _ _ _ _ h => h, fun _ _ _ _ h => h, fun _ _ _ _ h => h, fun _ _ _ _ h => h, fun _ _ _ _ h => h, fun _ _ _ _ h => h, trivial⟩
         ·intro b0 hN hlv
          refine ⟨?_, ?_, ?_, ?_, ?_, ?_, ?_, ?_, ?_, ?_, ?_, trivial⟩
          ·intro vs p hI hp
           have e0 : (Roll.putD Drd5 vs [] b0).eval (.tmp 0) = .slice (some ⟨ba, oa, none⟩) n c := (Roll.eval_old rfl).trans (hlv.at 0 (0, .slice (some ⟨ba, oa, none⟩) n c) rfl)
           clear hp hlv hN
           unfold Roll.Goes
           simp only [Lrd5, List.getD_cons_zero, List.getD_cons_succ]
           generalize Roll.putD Drd5 vs [] b0 = a1 at *
           refine Roll.goes_val (w' := p) (.slice (some ⟨ba, oa, none⟩) n c) rfl ?_ ⟨hI, Below.refl _ _, rfl⟩
           (have ⟨ec, ef⟩ := opn_a a1); generalize a1.eval = ρ at *
           skip
           go_simp <;> (intros; first | (exfalso; omega) | rfl | omega)
          ·intro vs p hI hp
           have e6 : (Roll.putD Drd5 vs [] b0).eval (.tmp 6) = .int .i64 (i : Int) := (Roll.eval_old rfl).trans (hlv.at 3 (6, .int .i64 (i : Int)) rfl)
           clear hp hlv hN
           unfold Roll.Goes
           simp only [Lrd5, List.getD_cons_zero, List.getD_cons_succ]
           generalize Roll.putD Drd5 vs [] b0 = a1 at *
           refine Roll.goes_val (w' := p) (.int .i64 (i : Int)) rfl ?_ ⟨hI, Below.refl _ _, rfl⟩
           (have ⟨ec, ef⟩ := opn_a a1); generalize a1.eval = ρ at *
           skip
           go_simp <;> (intros; first | (exfalso; omega) | rfl | omega)
          ·intro vs p hI hp
           have h0 : (vs 0) = .slice (some ⟨ba, oa, none⟩) n c := hp 0 (by simp [Lrd5])
           have h1 : (vs 1) = .int .i64 (i : Int) := hp 1 (by simp [Lrd5])
           have e18 : (Roll.putD Drd5 vs [0, 1] b0).eval (.tmp 18) = .slice (some ⟨ba, oa, none⟩) n c := (Roll.eval_new 0 rfl (by decide) (by decide) (by omega)).trans h0
           have e19 : (Roll.putD Drd5 vs [0, 1] b0).eval (.tmp 19) = .int .i64 (i : Int) := (Roll.eval_new 1 rfl (by decide) (by decide) (by omega)).trans h1
           clear hp hlv hN
           unfold Roll.Goes
           simp only [Lrd5, List.getD_cons_zero, List.getD_cons_succ]
           generalize Roll.putD Drd5 vs [0, 1] b0 = a1 at *
           have f0 := HIN2.out
           have f1 := HPA.out
           have f2 := HI0.out
           refine Roll.goes_val (w' := p) (.pointer (some ⟨ba, pa, none⟩)) rfl ?_ ⟨hI, Below.refl _ _, rfl⟩
           (have ⟨ec, ef⟩ := opn_a a1); generalize a1.eval = ρ at *
           clear h0 h1
           go_simp <;> (intros; first | (exfalso; omega) | rfl | omega)
          ·intro vs p hI hp
           have h2 : (vs 2) = .pointer (some ⟨ba, pa, none⟩) := hp 2 (by simp [Lrd5])
           have e20 : (Roll.putD Drd5 vs [2] b0).eval (.tmp 20) = .pointer (some ⟨ba, pa, none⟩) := (Roll.eval_new 2 rfl (by decide) (by decide) (by omega)).trans h2
           clear hp hlv hN
           unfold Roll.Goes
           simp only [Lrd5, List.getD_cons_zero, List.getD_cons_succ]
           generalize Roll.putD Drd5 vs [2] b0 = a1 at *
           refine Roll.goes_val (w' := p) (.pointer (some ⟨ba, pa + 1, none⟩)) rfl ?_ ⟨hI, Below.refl _ _, rfl⟩
           (have ⟨ec, ef⟩ := opn_a a1); generalize a1.eval = ρ at *
           clear h2
           go_simp <;> (intros; first | (exfalso; omega) | rfl | omega)
          ·intro vs p hI hp
           have h3 : (vs 3) = .pointer (some ⟨ba, pa + 1, none⟩) := hp 3 (by simp [Lrd5])
           have e21 : (Roll.putD Drd5 vs [3] b0).eval (.tmp 21) = .pointer (some ⟨ba, pa + 1, none⟩) := (Roll.eval_new 3 rfl (by decide) (by decide) (by omega)).trans h3
           clear hp hlv hN
           unfold Roll.Goes
           simp only [Lrd5, List.getD_cons_zero, List.getD_cons_succ]
           generalize Roll.putD Drd5 vs [3] b0 = a1 at *
           have cf : p.cell? ⟨ba, pa + 1, none⟩ = some (.string x.v) := (hI.cell (p := ⟨ba, pa + 1, none⟩) HLA.out).trans HCA1.out
           refine Roll.goes_val (w' := p) (.string x.v) rfl ?_ ⟨hI, Below.refl _ _, rfl⟩
           (have ⟨ec, ef⟩ := opn_a a1); generalize a1.eval = ρ at *
           clear h3
           go_simp <;> (intros; first | (exfalso; omega) | rfl | omega)
          ·intro vs p hI hp
           have e1 : (Roll.putD Drd5 vs [] b0).eval (.tmp 1) = .slice (some ⟨bb, ob, none⟩) m e := (Roll.eval_old rfl).trans (hlv.at 1 (1, .slice (some ⟨bb, ob, none⟩) m e) rfl)
           clear hp hlv hN
           unfold Roll.Goes
           simp only [Lrd5, List.getD_cons_zero, List.getD_cons_succ]
           generalize Roll.putD Drd5 vs [] b0 = a1 at *
           refine Roll.goes_val (w' := p) (.slice (some ⟨bb, ob, none⟩) m e) rfl ?_ ⟨hI, Below.refl _ _, rfl⟩
           (have ⟨ec, ef⟩ := opn_a a1); generalize a1.eval = ρ at *
           skip
           go_simp <;> (intros; first | (exfalso; omega) | rfl | omega)
          ·intro vs p hI hp
           have e7 : (Roll.putD Drd5 vs [] b0).eval (.tmp 7) = .int .i64 (k : Int) := (Roll.eval_old rfl).trans (hlv.at 4 (7, .int .i64 (k : Int)) rfl)
           clear hp hlv hN
           unfold Roll.Goes
           simp only [Lrd5, List.getD_cons_zero, List.getD_cons_succ]
           generalize Roll.putD Drd5 vs [] b0 = a1 at *
           refine Roll.goes_val (w' := p) (.int .i64 (k : Int)) rfl ?_ ⟨hI, Below.refl _ _, rfl⟩
           (have ⟨ec, ef⟩ := opn_a a1); generalize a1.eval = ρ at *
           skip
           go_simp <;> (intros; first | (exfalso; omega) | rfl | omega)
          ·intro vs p hI hp
           have h5 : (vs 5) = .slice (some ⟨bb, ob, none⟩) m e := hp 5 (by simp [Lrd5])
           have h6 : (vs 6) = .int .i64 (k : Int) := hp 6 (by simp [Lrd5])
           have e23 : (Roll.putD Drd5 vs [5, 6] b0).eval (.tmp 23) = .slice (some ⟨bb, ob, none⟩) m e := (Roll.eval_new 5 rfl (by decide) (by decide) (by omega)).trans h5
           have e24 : (Roll.putD Drd5 vs [5, 6] b0).eval (.tmp 24) = .int .i64 (k : Int) := (Roll.eval_new 6 rfl (by decide) (by decide) (by omega)).trans h6
           clear hp hlv hN
           unfold Roll.Goes
           simp only [Lrd5, List.getD_cons_zero, List.getD_cons_succ]
           generalize Roll.putD Drd5 vs [5, 6] b0 = a1 at *
           have f0 := HKN.out
           have f1 := HPB.out
           have f2 := HK0.out
           refine Roll.goes_val (w' := p) (.pointer (some ⟨bb, pb, none⟩)) rfl ?_ ⟨hI, Below.refl _ _, rfl⟩
           (have ⟨ec, ef⟩ := opn_a a1); generalize a1.eval = ρ at *
           clear h5 h6
           go_simp <;> (intros; first | (exfalso; omega) | rfl | omega)
          ·intro vs p hI hp
           have h7 : (vs 7) = .pointer (some ⟨bb, pb, none⟩) := hp 7 (by simp [Lrd5])
           have e25 : (Roll.putD Drd5 vs [7] b0).eval (.tmp 25) = .pointer (some ⟨bb, pb, none⟩) := (Roll.eval_new 7 rfl (by decide) (by decide) (by omega)).trans h7
           clear hp hlv hN
           unfold Roll.Goes
           simp only [Lrd5, List.getD_cons_zero, List.getD_cons_succ]
           generalize Roll.putD Drd5 vs [7] b0 = a1 at *
           refine Roll.goes_val (w' := p) (.pointer (some ⟨bb, pb + 1, none⟩)) rfl ?_ ⟨hI, Below.refl _ _, rfl⟩
           (have ⟨ec, ef⟩ := opn_a a1); generalize a1.eval = ρ at *
           clear h7
           go_simp <;> (intros; first | (exfalso; omega) | rfl | omega)
          ·intro vs p hI hp
           have h8 : (vs 8) = .pointer (some ⟨bb, pb + 1, none⟩) := hp 8 (by simp [Lrd5])
           have e26 : (Roll.putD Drd5 vs [8] b0).eval (.tmp 26) = .pointer (some ⟨bb, pb + 1, none⟩) := (Roll.eval_new 8 rfl (by decide) (by decide) (by omega)).trans h8
           clear hp hlv hN
           unfold Roll.Goes
           simp only [Lrd5, List.getD_cons_zero, List.getD_cons_succ]
           generalize Roll.putD Drd5 vs [8] b0 = a1 at *
           have cf : p.cell? ⟨bb, pb + 1, none⟩ = some (.string y.v) := (hI.cell (p := ⟨bb, pb + 1, none⟩) HLB.out).trans HCB1.out
           refine Roll.goes_val (w' := p) (.string y.v) rfl ?_ ⟨hI, Below.refl _ _, rfl⟩
           (have ⟨ec, ef⟩ := opn_a a1); generalize a1.eval = ρ at *
           clear h8
           go_simp <;> (intros; first | (exfalso; omega) | rfl | omega)
          ·intro vs p hI hp
           have h4 : (vs 4) = .string x.v := hp 4 (by simp [Lrd5])
           have h9 : (vs 9) = .string y.v := hp 9 (by simp [Lrd5])
           have e22 : (Roll.putD Drd5 vs [4, 9] b0).eval (.tmp 22) = .string x.v := (Roll.eval_new 4 rfl (by decide) (by decide) (by omega)).trans h4
           have e27 : (Roll.putD Drd5 vs [4, 9] b0).eval (.tmp 27) = .string y.v := (Roll.eval_new 9 rfl (by decide) (by decide) (by omega)).trans h9
           clear hp hlv hN
           unfold Roll.Goes
           simp only [Lrd5, List.getD_cons_zero, List.getD_cons_succ]
           generalize Roll.putD Drd5 vs [4, 9] b0 = a1 at *
           have f0 := HV1.out
           have f1 := HV2.out
           refine Roll.goes_val (w' := p) (.bool false) rfl ?_ ⟨hI, Below.refl _ _, rfl⟩
           (have ⟨ec, ef⟩ := opn_a a1); generalize a1.eval = ρ at *
           clear h4 h9
           go_simp <;> (intros; first | (exfalso; omega) | rfl | omega)
         ·intro vs p hI hR
          have h0 : (vs 0) = .slice (some ⟨ba, oa, none⟩) n c := hR 0 (by omega)
          have h1 : (vs 1) = .int .i64 (i : Int) := hR 1 (by omega)
          have h2 : (vs 2) = .pointer (some ⟨ba, pa, none⟩) := hR 2 (by omega)
          have h3 : (vs 3) = .pointer (some ⟨ba, pa + 1, none⟩) := hR 3 (by omega)
          have h4 : (vs 4) = .string x.v := hR 4 (by omega)
          have h5 : (vs 5) = .slice (some ⟨bb, ob, none⟩) m e := hR 5 (by omega)
          have h6 : (vs 6) = .int .i64 (k : Int) := hR 6 (by omega)
          have h7 : (vs 7) = .pointer (some ⟨bb, pb, none⟩) := hR 7 (by omega)
          have h8 : (vs 8) = .pointer (some ⟨bb, pb + 1, none⟩) := hR 8 (by omega)
          have h9 : (vs 9) = .string y.v := hR 9 (by omega)
          have h10 : (vs 10) = .bool false := hR 10 (by omega)
          clear hR
          simp only [List.range_succ, List.range_zero, List.nil_append, List.cons_append, Roll.putD, Act.put, List.getD_cons_zero, List.getD_cons_succ, List.setIfInBounds_toArray, List.set_cons_zero, List.set_cons_succ, List.drop_succ_cons, List.drop_zero, Drd5]
          simp only [h0, h1, h2, h3, h4, h5, h6, h7, h8, h9, h10]
          clear h0 h1 h2 h3 h4 h5 h6 h7 h8 h9 h10
          obtain ⟨p9, hp9⟩ : ∃ z, z = p := ⟨_, rfl⟩
          subst hp9
          have HI9 := Lib.hid hI
          clear hI
          apply wpList_nil
          go_step
          go_step
          have HBE9 := Lib.hid (HB.out.trans (HI9.out.mono HB.out.size))
          have HRO9 := Lib.hid (ownsRow_below HROW.out HI9.out)
          go_wp2_with fail
          go_roundw
          case rel =>
           refine ⟨i + 1, k + 1, v0, es, rfl, by go_num, by go_num, by have := HI2.out; omega, by have := HK2.out; omega, HRO9.out, ?_, by have := HEL.out; omega, HBE9.out⟩
           have h := HD.out
           rw [HDX.out, HDY.out, diffR, if_neg (by have := HNL.out; omega), if_neg (by have := HGT.out; omega), if_pos HVE.out] at h
           exact h
          case measure => (try go_num); (try (simp only [intOf])); have := HI2.out; have := HK2.out; omega
        ·have HVN := Lib.hid hv
         have HV1 : Hid (¬ x.v.toList = y.v.toList) := Lib.hid (fun h => hv ((str_eqq _ _).1 h))
         have HV2 : Hid ((x.v.toList == y.v.toList) = false) := Lib.hid (by rw [str_beq]; simpa using hv)
         clear hv
         refine Roll.region_f 11 125 Drd5 Lrd5 [(0, .slice (some ⟨ba, oa, none⟩) n c), (1, .slice (some ⟨bb, ob, none⟩) m e), (5, v0), (6, .int .i64 (i : Int)), (7, .int .i64 (k : Int))] (fun p => Below wr.heap.size wr p) (fun p p2 => Below p.heap.size p p2) [fun vv p => vv = .slice (some ⟨ba, oa, none⟩) n c, fun vv p => vv = .int .i64 (i : Int), fun vv p => vv = .pointer (some ⟨ba, pa, none⟩), fun vv p => vv = .pointer (some ⟨ba, pa + 1, none⟩), fun vv p => vv = .string x.v, fun vv p => vv = .slice (some ⟨bb, ob, none⟩) m e, fun vv p => vv = .int .i64 (k : Int), fun vv p => vv = .pointer (some ⟨bb, pb, none⟩), fun vv p => vv = .pointer (some ⟨bb, pb + 1, none⟩), fun vv p => vv = .string y.v, fun vv p => vv = .bool true] (by kernel_rfl) (by kernel_rfl) rfl ⟨rfl, rfl, rfl, rfl, rfl, trivial⟩ ((Below.refl _ _).drew) ?_ ?_ ?_
         ·exact ⟨fun _ _ _ _ h => h, fun _ _ _ _ h => h, fun _ _ _ _ h => h, fun _ _ _ _ h => h, fun _ _ _ _ h => h, fun _ _ _ _ h => h, fun _ _ _ _ h => h, fun _ _ _ _ h => h, fun _ _ _ _ h => h, fun _ _ _ _ h => h, fun _ _ _ _ h => h, trivial⟩
         ·intro b0 hN hlv
          refine ⟨?_, ?_, ?_, ?_, ?_, ?_, ?_, ?_, ?_, ?_, ?_, trivial⟩
          ·intro vs p hI hp
           have e0 : (Roll.putD Drd5 vs [] b0).eval (.tmp 0) = .slice (some ⟨ba, oa, none⟩) n c := (Roll.eval_old rfl).trans (hlv.at 0 (0, .slice (some ⟨ba, oa, none⟩) n c) rfl)
           clear hp hlv hN
           unfold Roll.Goes
           simp only [Lrd5, List.getD_cons_zero, List.getD_cons_succ]
           generalize Roll.putD Drd5 vs [] b0 = a1 at *
           refine Roll.goes_val (w' := p) (.slice (some ⟨ba, oa, none⟩) n c) rfl ?_ ⟨hI, Below.refl _ _, rfl⟩
           (have ⟨ec, ef⟩ := opn_a a1); generalize a1.eval = ρ at *
           skip
           go_simp <;> (intros; first | (exfalso; omega) | rfl | omega)
          ·intro vs p hI hp
           have e6 : (Roll.putD Drd5 vs [] b0).eval (.tmp 6) = .int .i64 (i : Int) := (Roll.eval_old rfl).trans (hlv.at 3 (6, .int .i64 (i : Int)) rfl)
           clear hp hlv hN
           unfold Roll.Goes
           simp only [Lrd5, List.getD_cons_zero, List.getD_cons_succ]
           generalize Roll.putD Drd5 vs [] b0 = a1 at *
           refine Roll.goes_val (w' := p) (.int .i64 (i : Int)) rfl ?_ ⟨hI, Below.refl _ _, rfl⟩
           (have ⟨ec, ef⟩ := opn_a a1); generalize a1.eval = ρ at *
           skip
           go_simp <;> (intros; first | (exfalso; omega) | rfl | omega)
          ·intro vs p hI hp
           have h0 : (vs 0) = .slice (some ⟨ba, oa, none⟩) n c := hp 0 (by simp [Lrd5])
           have h1 : (vs 1) = .int .i64 (i : Int) := hp 1 (by simp [Lrd5])
           have e18 : (Roll.putD Drd5 vs [0, 1] b0).eval (.tmp 18) = .slice (some ⟨ba, oa, none⟩) n c := (Roll.eval_new 0 rfl (by decide) (by decide) (by omega)).trans h0
           have e19 : (Roll.putD Drd5 vs [0, 1] b0).eval (.tmp 19) = .int .i64 (i : Int) := (Roll.eval_new 1 rfl (by decide) (by decide) (by omega)).trans h1
           clear hp hlv hN
           unfold Roll.Goes
           simp only [Lrd5, List.getD_cons_zero, List.getD_cons_succ]
           generalize Roll.putD Drd5 vs [0, 1] b0 = a1 at *
           have f0 := HIN2.out
           have f1 := HPA.out
           have f2 := HI0.out
           refine Roll.goes_val (w' := p) (.pointer (some ⟨ba, pa, none⟩)) rfl ?_ ⟨hI, Below.refl _ _, rfl⟩
           (have ⟨ec, ef⟩ := opn_a a1); generalize a1.eval = ρ at *
           clear h0 h1
           go_simp <;> (intros; first | (exfalso; omega) | rfl | omega)
          ·intro vs p hI hp
           have h2 : (vs 2) = .pointer (some ⟨ba, pa, none⟩) := hp 2 (by simp [Lrd5])
           have e20 : (Roll.putD Drd5 vs [2] b0).eval (.tmp 20) = .pointer (some ⟨ba, pa, none⟩) := (Roll.eval_new 2 rfl (by decide) (by decide) (by omega)).trans h2
           clear hp hlv hN
           unfold Roll.Goes
           simp only [Lrd5, List.getD_cons_zero, List.getD_cons_succ]
           generalize Roll.putD Drd5 vs [2] b0 = a1 at *
           refine Roll.goes_val (w' := p) (.pointer (some ⟨ba, pa + 1, none⟩)) rfl ?_ ⟨hI, Below.refl _ _, rfl⟩
           (have ⟨ec, ef⟩ := opn_a a1); generalize a1.eval = ρ at *
           clear h2
           go_simp <;> (intros; first | (exfalso; omega) | rfl | omega)
          ·intro vs p hI hp
           have h3 : (vs 3) = .pointer (some ⟨ba, pa + 1, none⟩) := hp 3 (by simp [Lrd5])
           have e21 : (Roll.putD Drd5 vs [3] b0).eval (.tmp 21) = .pointer (some ⟨ba, pa + 1, none⟩) := (Roll.eval_new 3 rfl (by decide) (by decide) (by omega)).trans h3
           clear hp hlv hN
           unfold Roll.Goes
           simp only [Lrd5, List.getD_cons_zero, List.getD_cons_succ]
           generalize Roll.putD Drd5 vs [3] b0 = a1 at *
           have cf : p.cell? ⟨ba, pa + 1, none⟩ = some (.string x.v) := (hI.cell (p := ⟨ba, pa + 1, none⟩) HLA.out).trans HCA1.out
           refine Roll.goes_val (w' := p) (.string x.v) rfl ?_ ⟨hI, Below.refl _ _, rfl⟩
           (have ⟨ec, ef⟩ := opn_a a1); generalize a1.eval = ρ at *
           clear h3
           go_simp <;> (intros; first | (exfalso; omega) | rfl | omega)
          ·intro vs p hI hp
           have e1 : (Roll.putD Drd5 vs [] b0).eval (.tmp 1) = .slice (some ⟨bb, ob, none⟩) m e := (Roll.eval_old rfl).trans (hlv.at 1 (1, .slice (some ⟨bb, ob, none⟩) m e) rfl)
           clear hp hlv hN
           unfold Roll.Goes
           simp only [Lrd5, List.getD_cons_zero, List.getD_cons_succ]
           generalize Roll.putD Drd5 vs [] b0 = a1 at *
           refine Roll.goes_val (w' := p) (.slice (some ⟨bb, ob, none⟩) m e) rfl ?_ ⟨hI, Below.refl _ _, rfl⟩
           (have ⟨ec, ef⟩ := opn_a a1); generalize a1.eval = ρ at *
           skip
           go_simp <;> (intros; first | (exfalso; omega) | rfl | omega)
          ·intro vs p hI hp
           have e7 : (Roll.putD Drd5 vs [] b0).eval (.tmp 7) = .int .i64 (k : Int) := (Roll.eval_old rfl).trans (hlv.at 4 (7, .int .i64 (k : Int)) rfl)
           clear hp hlv hN
           unfold Roll.Goes
           simp only [Lrd5, List.getD_cons_zero, List.getD_cons_succ]
           generalize Roll.putD Drd5 vs [] b0 = a1 at *
           refine Roll.goes_val (w' := p) (.int .i64 (k : Int)) rfl ?_ ⟨hI, Below.refl _ _, rfl⟩
           (have ⟨ec, ef⟩ := opn_a a1); generalize a1.eval = ρ at *
           skip
           go_simp <;> (intros; first | (exfalso; omega) | rfl | omega)
          ·intro vs p hI hp
           have h5 : (vs 5) = .slice (some ⟨bb, ob, none⟩) m e := hp 5 (by simp [Lrd5])
           have h6 : (vs 6) = .int .i64 (k : Int) := hp 6 (by simp [Lrd5])
           have e23 : (Roll.putD Drd5 vs [5, 6] b0).eval (.tmp 23) = .slice (some ⟨bb, ob, none⟩) m e := (Roll.eval_new 5 rfl (by decide) (by decide) (by omega)).trans h5
           have e24 : (Roll.putD Drd5 vs [5, 6] b0).eval (.tmp 24) = .int .i64 (k : Int) := (Roll.eval_new 6 rfl (by decide) (by decide) (by omega)).trans h6
           clear hp hlv hN
           unfold Roll.Goes
           simp only [Lrd5, List.getD_cons_zero, List.getD_cons_succ]
           generalize Roll.putD Drd5 vs [5, 6] b0 = a1 at *
           have f0 := HKN.out
           have f1 := HPB.out
           have f2 := HK0.out
           refine Roll.goes_val (w' := p) (.pointer (some ⟨bb, pb, none⟩)) rfl ?_ ⟨hI, Below.refl _ _, rfl⟩
           (have ⟨ec, ef⟩ := opn_a a1); generalize a1.eval = ρ at *
           clear h5 h6
           go_simp <;> (intros; first | (exfalso; omega) | rfl | omega)
          ·intro vs p hI hp
           have h7 : (vs 7) = .pointer (some ⟨bb, pb, none⟩) := hp 7 (by simp [Lrd5])
           have e25 : (Roll.putD Drd5 vs [7] b0).eval (.tmp 25) = .pointer (some ⟨bb, pb, none⟩) := (Roll.eval_new 7 rfl (by decide) (by decide) (by omega)).trans h7
           clear hp hlv hN
           unfold Roll.Goes
           simp only [Lrd5, List.getD_cons_zero, List.getD_cons_succ]
           generalize Roll.putD Drd5 vs [7] b0 = a1 at *
           refine Roll.goes_val (w' := p) (.pointer (some ⟨bb, pb + 1, none⟩)) rfl ?_ ⟨hI, Below.refl _ _, rfl⟩
           (have ⟨ec, ef⟩ := opn_a a1); generalize a1.eval = ρ at *
           clear h7
           go_simp <;> (intros; first | (exfalso; omega) | rfl | omega)
          ·intro vs p hI hp
           have h8 : (vs 8) = .pointer (some ⟨bb, pb + 1, none⟩) := hp 8 (by simp [Lrd5])
           have e26 : (Roll.putD Drd5 vs [8] b0).eval (.tmp 26) = .pointer (some ⟨bb, pb + 1, none⟩) := (Roll.eval_new 8 rfl (by decide) (by decide) (by omega)).trans h8
           clear hp hlv hN
           unfold Roll.Goes
           simp only [Lrd5, List.getD_cons_zero, List.getD_cons_succ]
           generalize Roll.putD Drd5 vs [8] b0 = a1 at *
           have cf : p.cell? ⟨bb, pb + 1, none⟩ = some (.string y.v) := (hI.cell (p := ⟨bb, pb + 1, none⟩) HLB.out).trans HCB1.out
           refine Roll.goes_val (w' := p) (.string y.v) rfl ?_ ⟨hI, Below.refl _ _, rfl⟩
           (have ⟨ec, ef⟩ := opn_a a1); generalize a1.eval = ρ at *
           clear h8
           go_simp <;> (intros; first | (exfalso; omega) | rfl | omega)
          ·intro vs p hI hp
           have h4 : (vs 4) = .string x.v := hp 4 (by simp [Lrd5])
           have h9 : (vs 9) = .string y.v := hp 9 (by simp [Lrd5])
           have e22 : (Roll.putD Drd5 vs [4, 9] b0).eval (.tmp 22) = .string x.v := (Roll.eval_new 4 rfl (by decide) (by decide) (by omega)).trans h4
           have e27 : (Roll.putD Drd5 vs [4, 9] b0).eval (.tmp 27) = .string y.v := (Roll.eval_new 9 rfl (by decide) (by decide) (by omega)).trans h9
           clear hp hlv hN
           unfold Roll.Goes
           simp only [Lrd5, List.getD_cons_zero, List.getD_cons_succ]
           generalize Roll.putD Drd5 vs [4, 9] b0 = a1 at *
           have f0 := HV1.out
           have f1 := HV2.out
           refine Roll.goes_val (w' := p) (.bool true) rfl ?_ ⟨hI, Below.refl _ _, rfl⟩
           (have ⟨ec, ef⟩ := opn_a a1); generalize a1.eval = ρ at *
           clear h4 h9
           go_simp <;> (intros; first | (exfalso; omega) | rfl | omega)
         ·intro vs p hI hR
          have h0 : (vs 0) = .slice (some ⟨ba, oa, none⟩) n c := hR 0 (by omega)
          have h1 : (vs 1) = .int .i64 (i : Int) := hR 1 (by omega)
          have h2 : (vs 2) = .pointer (some ⟨ba, pa, none⟩) := hR 2 (by omega)
          have h3 : (vs 3) = .pointer (some ⟨ba, pa + 1, none⟩) := hR 3 (by omega)
          have h4 : (vs 4) = .string x.v := hR 4 (by omega)
          have h5 : (vs 5) = .slice (some ⟨bb, ob, none⟩) m e := hR 5 (by omega)
          have h6 : (vs 6) = .int .i64 (k : Int) := hR 6 (by omega)
          have h7 : (vs 7) = .pointer (some ⟨bb, pb, none⟩) := hR 7 (by omega)
          have h8 : (vs 8) = .pointer (some ⟨bb, pb + 1, none⟩) := hR 8 (by omega)
          have h9 : (vs 9) = .string y.v := hR 9 (by omega)
          have h10 : (vs 10) = .bool true := hR 10 (by omega)
          clear hR
          simp only [List.range_succ, List.range_zero, List.nil_append, List.cons_append, Roll.putD, Act.put, List.getD_cons_zero, List.getD_cons_succ, List.setIfInBounds_toArray, List.set_cons_zero, List.set_cons_succ, List.drop_succ_cons, List.drop_zero, Drd5]
          simp only [h0, h1, h2, h3, h4, h5, h6, h7, h8, h9, h10]
          clear h0 h1 h2 h3 h4 h5 h6 h7 h8 h9 h10
          obtain ⟨p9, hp9⟩ : ∃ z, z = p := ⟨_, rfl⟩
          subst hp9
          have HI9 := Lib.hid hI
          clear hI
          apply wpList_nil
          go_step
          go_step
          go_wp2_with fail
          have HB := Lib.hid (HB.out.trans (HI9.out.mono HB.out.size))
          have HOW := Lib.hid (show Own p9 61 3 v0.ownBlock v0 es.length (ecells es) ∧ ∀ j, v0.ownBlock = some j → w.heap.size ≤ j from ⟨HOW.out.1.kept (Kept.of_below (fun _ => False) HI9.out) (fun _ _ h => h), HOW.out.2⟩)
          have HROW := Lib.hid (ownsRow_below HROW.out HI9.out)
          have HCA : Hid (p9.cell? ⟨ba, pa, none⟩ = some (.string x.k)) := Lib.hid ((HI9.out.cell (p := ⟨ba, pa, none⟩) HLA.out).trans HCA.out)
          have HCA1 : Hid (p9.cell? ⟨ba, pa + 1, none⟩ = some (.string x.v)) := Lib.hid ((HI9.out.cell (p := ⟨ba, pa + 1, none⟩) HLA.out).trans HCA1.out)
          have HLA : Hid (ba < p9.heap.size) := Lib.hid (Nat.lt_of_lt_of_le HLA.out HI9.out.size)
          have HCB : Hid (p9.cell? ⟨bb, pb, none⟩ = some (.string y.k)) := Lib.hid ((HI9.out.cell (p := ⟨bb, pb, none⟩) HLB.out).trans HCB.out)
          have HCB1 : Hid (p9.cell? ⟨bb, pb + 1, none⟩ = some (.string y.v)) := Lib.hid ((HI9.out.cell (p := ⟨bb, pb + 1, none⟩) HLB.out).trans HCB1.out)
          have HLB : Hid (bb < p9.heap.size) := Lib.hid (Nat.lt_of_lt_of_le HLB.out HI9.out.size)
          obtain ⟨wr, hwr⟩ : ∃ z, z = p9 := ⟨_, rfl⟩
          subst hwr
          clear HI9
          have HNB : Hid (¬ v0.ownBlock = some bb) := Lib.hid (fun e => by have h1 := HOW.out.2 bb e; have := HLB0.out; omega)
          refine Roll.region_v 14 125 Drd6 Lrd6 [(0, .slice (some ⟨ba, oa, none⟩) n c), (1, .slice (some ⟨bb, ob, none⟩) m e), (5, v0), (6, .int .i64 (i : Int)), (7, .int .i64 (k : Int))] 13 [true, true, true, true, true, true, true, true, true, true, true, true, false, false] (fun p => Below wr.heap.size wr p) (fun vv p => ∃ p8 k', Below wr.heap.size wr p8 ∧ Own p 61 3 k' vv (es.length + 1) (ecells es ++ ecells [setE y]) ∧ (∀ j, k' = some j → v0.ownBlock = some j ∨ wr.heap.size ≤ j) ∧ Kept (fun j => v0.ownBlock = some j) p8 p) (fun p => Kept (fun j => v0.ownBlock = some j) wr p) (fun p p2 => Kept (fun j => v0.ownBlock = some j) p p2) [fun vv p => (vv 0) = v0, fun vv p => (vv 1) = .slice (some ⟨bb, ob, none⟩) m e, fun vv p => (vv 2) = .int .i64 (k : Int), fun vv p => (vv 3) = .pointer (some ⟨bb, pb, none⟩), fun vv p => (vv 4) = .pointer (some ⟨bb, pb, none⟩), fun vv p => (vv 5) = .string y.k, fun vv p => (vv 6) = .slice (some ⟨bb, ob, none⟩) m e, fun vv p => (vv 7) = .int .i64 (k : Int), fun vv p => (vv 8) = .pointer (some ⟨bb, pb, none⟩), fun vv p => (vv 9) = .pointer (some ⟨bb, pb + 1, none⟩), fun vv p => (vv 10) = .string y.v, fun vv p => (vv 11) = .agg #[.string y.k, .string y.v, .bool false], fun vv p => ∃ x, (vv 12) = .slice (some ⟨x, 0, none⟩) 1 1 ∧ wr.heap.size ≤ x ∧ p.heap[x]? = some (.cells #[.string y.k, .string y.v, .bool false] 61 (0, 0)), fun vv p => True] (by kernel_rfl) (by kernel_rfl) rfl ⟨rfl, rfl, rfl, rfl, rfl, trivial⟩ ((Below.refl _ _).drew) (by decide) (by kernel_rfl) (fun _ h => Kept.of_below _ h) (fun _ _ h => by obtain ⟨_, _, h1, _, _, h4⟩ := h; exact (Kept.of_below _ h1).trans h4 (fun _ _ h => h)) (fun _ => Kept.refl _ _) ?_ ?_ ?_
          ·exact ⟨fun _ _ _ _ h => h, fun _ _ _ _ h => h, fun _ _ _ _ h => h, fun _ _ _ _ h => h, fun _ _ _ _ h => h, fun _ _ _ _ h => h, fun _ _ _ _ h => h, fun _ _ _ _ h => h, fun _ _ _ _ h => h, fun _ _ _ _ h => h, fun _ _ _ _ h => h, fun _ _ _ _ h => h, fun _ _ _ hs h => by obtain ⟨x, e1, e2, e3⟩ := h; exact ⟨x, e1, e2, hs.heap e3 (fun e => by have := HOW.out.1.lt x e; omega)⟩, fun _ _ _ _ h => h, trivial⟩
          ·intro b0 hN hlv
           refine ⟨?_, ?_, ?_, ?_, ?_, ?_, ?_, ?_, ?_, ?_, ?_, ?_, ?_, ?_, trivial⟩
           ·intro vs p hI0 hp
            have hI := Roll.inw_pure (by decide) rfl hI0
            clear hI0
            have e5 : (Roll.putD Drd6 vs [] b0).eval (.tmp 5) = v0 := (Roll.eval_old rfl).trans (hlv.at 2 (5, v0) rfl)
            clear hp hlv hN
            unfold Roll.Goes
            simp only [Lrd6, List.getD_cons_zero, List.getD_cons_succ]
            generalize Roll.putD Drd6 vs [] b0 = a1 at *
            refine Roll.goes_val (w' := p) (v0) rfl ?_ ⟨(Roll.outw_pure (by decide) rfl), rfl⟩
            (have ⟨ec, ef⟩ := opn_a a1); generalize a1.eval = ρ at *
            skip
            go_simp <;> (intros; first | (exfalso; omega) | rfl | omega)
           ·intro vs p hI0 hp
            have hI := Roll.inw_pure (by decide) rfl hI0
            clear hI0
            have e1 : (Roll.putD Drd6 vs [] b0).eval (.tmp 1) = .slice (some ⟨bb, ob, none⟩) m e := (Roll.eval_old rfl).trans (hlv.at 1 (1, .slice (some ⟨bb, ob, none⟩) m e) rfl)
            clear hp hlv hN
            unfold Roll.Goes
            simp only [Lrd6, List.getD_cons_zero, List.getD_cons_succ]
            generalize Roll.putD Drd6 vs [] b0 = a1 at *
            refine Roll.goes_val (w' := p) (.slice (some ⟨bb, ob, none⟩) m e) rfl ?_ ⟨(Roll.outw_pure (by decide) rfl), rfl⟩
            (have ⟨ec, ef⟩ := opn_a a1); generalize a1.eval = ρ at *
            skip
            go_simp <;> (intros; first | (exfalso; omega) | rfl | omega)
           ·intro vs p hI0 hp
            have hI := Roll.inw_pure (by decide) rfl hI0
            clear hI0
            have e7 : (Roll.putD Drd6 vs [] b0).eval (.tmp 7) = .int .i64 (k : Int) := (Roll.eval_old rfl).trans (hlv.at 4 (7, .int .i64 (k : Int)) rfl)
            clear hp hlv hN
            unfold Roll.Goes
            simp only [Lrd6, List.getD_cons_zero, List.getD_cons_succ]
            generalize Roll.putD Drd6 vs [] b0 = a1 at *
            refine Roll.goes_val (w' := p) (.int .i64 (k : Int)) rfl ?_ ⟨(Roll.outw_pure (by decide) rfl), rfl⟩
            (have ⟨ec, ef⟩ := opn_a a1); generalize a1.eval = ρ at *
            skip
            go_simp <;> (intros; first | (exfalso; omega) | rfl | omega)
           ·intro vs p hI0 hp
            have hI := Roll.inw_pure (by decide) rfl hI0
            clear hI0
            have h1 : (vs 1) = .slice (some ⟨bb, ob, none⟩) m e := hp 1 (by simp [Lrd6])
            have h2 : (vs 2) = .int .i64 (k : Int) := hp 2 (by simp [Lrd6])
            have e30 : (Roll.putD Drd6 vs [1, 2] b0).eval (.tmp 30) = .slice (some ⟨bb, ob, none⟩) m e := (Roll.eval_new 1 rfl (by decide) (by decide) (by omega)).trans h1
            have e31 : (Roll.putD Drd6 vs [1, 2] b0).eval (.tmp 31) = .int .i64 (k : Int) := (Roll.eval_new 2 rfl (by decide) (by decide) (by omega)).trans h2
            clear hp hlv hN
            unfold Roll.Goes
            simp only [Lrd6, List.getD_cons_zero, List.getD_cons_succ]
            generalize Roll.putD Drd6 vs [1, 2] b0 = a1 at *
            have f0 := HKN.out
            have f1 := HPB.out
            have f2 := HK0.out
            refine Roll.goes_val (w' := p) (.pointer (some ⟨bb, pb, none⟩)) rfl ?_ ⟨(Roll.outw_pure (by decide) rfl), rfl⟩
            (have ⟨ec, ef⟩ := opn_a a1); generalize a1.eval = ρ at *
            clear h1 h2
            go_simp <;> (intros; first | (exfalso; omega) | rfl | omega)
           ·intro vs p hI0 hp
            have hI := Roll.inw_pure (by decide) rfl hI0
            clear hI0
            have h3 : (vs 3) = .pointer (some ⟨bb, pb, none⟩) := hp 3 (by simp [Lrd6])
            have e32 : (Roll.putD Drd6 vs [3] b0).eval (.tmp 32) = .pointer (some ⟨bb, pb, none⟩) := (Roll.eval_new 3 rfl (by decide) (by decide) (by omega)).trans h3
            clear hp hlv hN
            unfold Roll.Goes
            simp only [Lrd6, List.getD_cons_zero, List.getD_cons_succ]
            generalize Roll.putD Drd6 vs [3] b0 = a1 at *
            refine Roll.goes_val (w' := p) (.pointer (some ⟨bb, pb, none⟩)) rfl ?_ ⟨(Roll.outw_pure (by decide) rfl), rfl⟩
            (have ⟨ec, ef⟩ := opn_a a1); generalize a1.eval = ρ at *
            clear h3
            go_simp <;> (intros; first | (exfalso; omega) | rfl | omega)
           ·intro vs p hI0 hp
            have hI := Roll.inw_pure (by decide) rfl hI0
            clear hI0
            have h4 : (vs 4) = .pointer (some ⟨bb, pb, none⟩) := hp 4 (by simp [Lrd6])
            have e33 : (Roll.putD Drd6 vs [4] b0).eval (.tmp 33) = .pointer (some ⟨bb, pb, none⟩) := (Roll.eval_new 4 rfl (by decide) (by decide) (by omega)).trans h4
            clear hp hlv hN
            unfold Roll.Goes
            simp only [Lrd6, List.getD_cons_zero, List.getD_cons_succ]
            generalize Roll.putD Drd6 vs [4] b0 = a1 at *
            have cf : p.cell? ⟨bb, pb, none⟩ = some (.string y.k) := (hI.cell (p := ⟨bb, pb, none⟩) HLB.out HNB.out).trans HCB.out
            refine Roll.goes_val (w' := p) (.string y.k) rfl ?_ ⟨(Roll.outw_pure (by decide) rfl), rfl⟩
            (have ⟨ec, ef⟩ := opn_a a1); generalize a1.eval = ρ at *
            clear h4
            go_simp <;> (intros; first | (exfalso; omega) | rfl | omega)
           ·intro vs p hI0 hp
            have hI := Roll.inw_pure (by decide) rfl hI0
            clear hI0
            have e1 : (Roll.putD Drd6 vs [] b0).eval (.tmp 1) = .slice (some ⟨bb, ob, none⟩) m e := (Roll.eval_old rfl).trans (hlv.at 1 (1, .slice (some ⟨bb, ob, none⟩) m e) rfl)
            clear hp hlv hN
            unfold Roll.Goes
            simp only [Lrd6, List.getD_cons_zero, List.getD_cons_succ]
            generalize Roll.putD Drd6 vs [] b0 = a1 at *
            refine Roll.goes_val (w' := p) (.slice (some ⟨bb, ob, none⟩) m e) rfl ?_ ⟨(Roll.outw_pure (by decide) rfl), rfl⟩
            (have ⟨ec, ef⟩ := opn_a a1); generalize a1.eval = ρ at *
            skip
            go_simp <;> (intros; first | (exfalso; omega) | rfl | omega)
           ·intro vs p hI0 hp
            have hI := Roll.inw_pure (by decide) rfl hI0
            clear hI0
            have e7 : (Roll.putD Drd6 vs [] b0).eval (.tmp 7) = .int .i64 (k : Int) := (Roll.eval_old rfl).trans (hlv.at 4 (7, .int .i64 (k : Int)) rfl)
            clear hp hlv hN
            unfold Roll.Goes
            simp only [Lrd6, List.getD_cons_zero, List.getD_cons_succ]
            generalize Roll.putD Drd6 vs [] b0 = a1 at *
            refine Roll.goes_val (w' := p) (.int .i64 (k : Int)) rfl ?_ ⟨(Roll.outw_pure (by decide) rfl), rfl⟩
            (have ⟨ec, ef⟩ := opn_a a1); generalize a1.eval = ρ at *
            skip
            go_simp <;> (intros; first | (exfalso; omega) | rfl | omega)
           ·intro vs p hI0 hp
            have hI := Roll.inw_pure (by decide) rfl hI0
            clear hI0
            have h6 : (vs 6) = .slice (some ⟨bb, ob, none⟩) m e := hp 6 (by simp [Lrd6])
            have h7 : (vs 7) = .int .i64 (k : Int) := hp 7 (by simp [Lrd6])
            have e35 : (Roll.putD Drd6 vs [6, 7] b0).eval (.tmp 35) = .slice (some ⟨bb, ob, none⟩) m e := (Roll.eval_new 6 rfl (by decide) (by decide) (by omega)).trans h6
            have e36 : (Roll.putD Drd6 vs [6, 7] b0).eval (.tmp 36) = .int .i64 (k : Int) := (Roll.eval_new 7 rfl (by decide) (by decide) (by omega)).trans h7
            clear hp hlv hN
            unfold Roll.Goes
            simp only [Lrd6, List.getD_cons_zero, List.getD_cons_succ]
            generalize Roll.putD Drd6 vs [6, 7] b0 = a1 at *
            have f0 := HKN.out
            have f1 := HPB.out
            have f2 := HK0.out
            refine Roll.goes_val (w' := p) (.pointer (some ⟨bb, pb, none⟩)) rfl ?_ ⟨(Roll.outw_pure (by decide) rfl), rfl⟩
            (have ⟨ec, ef⟩ := opn_a a1); generalize a1.eval = ρ at *
            clear h6 h7
            go_simp <;> (intros; first | (exfalso; omega) | rfl | omega)
           ·intro vs p hI0 hp
            have hI := Roll.inw_pure (by decide) rfl hI0
            clear hI0
            have h8 : (vs 8) = .pointer (some ⟨bb, pb, none⟩) := hp 8 (by simp [Lrd6])
            have e37 : (Roll.putD Drd6 vs [8] b0).eval (.tmp 37) = .pointer (some ⟨bb, pb, none⟩) := (Roll.eval_new 8 rfl (by decide) (by decide) (by omega)).trans h8
            clear hp hlv hN
            unfold Roll.Goes
            simp only [Lrd6, List.getD_cons_zero, List.getD_cons_succ]
            generalize Roll.putD Drd6 vs [8] b0 = a1 at *
            refine Roll.goes_val (w' := p) (.pointer (some ⟨bb, pb + 1, none⟩)) rfl ?_ ⟨(Roll.outw_pure (by decide) rfl), rfl⟩
            (have ⟨ec, ef⟩ := opn_a a1); generalize a1.eval = ρ at *
            clear h8
            go_simp <;> (intros; first | (exfalso; omega) | rfl | omega)
           ·intro vs p hI0 hp
            have hI := Roll.inw_pure (by decide) rfl hI0
            clear hI0
            have h9 : (vs 9) = .pointer (some ⟨bb, pb + 1, none⟩) := hp 9 (by simp [Lrd6])
            have e38 : (Roll.putD Drd6 vs [9] b0).eval (.tmp 38) = .pointer (some ⟨bb, pb + 1, none⟩) := (Roll.eval_new 9 rfl (by decide) (by decide) (by omega)).trans h9
            clear hp hlv hN
            unfold Roll.Goes
            simp only [Lrd6, List.getD_cons_zero, List.getD_cons_succ]
            generalize Roll.putD Drd6 vs [9] b0 = a1 at *
            have cf : p.cell? ⟨bb, pb + 1, none⟩ = some (.string y.v) := (hI.cell (p := ⟨bb, pb + 1, none⟩) HLB.out HNB.out).trans HCB1.out
            refine Roll.goes_val (w' := p) (.string y.v) rfl ?_ ⟨(Roll.outw_pure (by decide) rfl), rfl⟩
            (have ⟨ec, ef⟩ := opn_a a1); generalize a1.eval = ρ at *
            clear h9
            go_simp <;> (intros; first | (exfalso; omega) | rfl | omega)
           ·intro vs p hI0 hp
            have hI := Roll.inw_pure (by decide) rfl hI0
            clear hI0
            have h5 : (vs 5) = .string y.k := hp 5 (by simp [Lrd6])
            have h10 : (vs 10) = .string y.v := hp 10 (by simp [Lrd6])
            have e34 : (Roll.putD Drd6 vs [5, 10] b0).eval (.tmp 34) = .string y.k := (Roll.eval_new 5 rfl (by decide) (by decide) (by omega)).trans h5
            have e39 : (Roll.putD Drd6 vs [5, 10] b0).eval (.tmp 39) = .string y.v := (Roll.eval_new 10 rfl (by decide) (by decide) (by omega)).trans h10
            clear hp hlv hN
            unfold Roll.Goes
            simp only [Lrd6, List.getD_cons_zero, List.getD_cons_succ]
            generalize Roll.putD Drd6 vs [5, 10] b0 = a1 at *
            refine Roll.goes_val (w' := p) (.agg #[.string y.k, .string y.v, .bool false]) rfl ?_ ⟨(Roll.outw_pure (by decide) rfl), rfl⟩
            (have ⟨ec, ef⟩ := opn_a a1); generalize a1.eval = ρ at *
            clear h5 h10
            go_simp <;> (intros; first | (exfalso; omega) | rfl | omega)
           ·intro vs p hI0 hp
            have hI := Roll.inw_pre (by decide) rfl hI0
            clear hI0
            have h11 : (vs 11) = .agg #[.string y.k, .string y.v, .bool false] := hp 11 (by simp [Lrd6])
            have e40 : (Roll.putD Drd6 vs [11] b0).eval (.tmp 40) = .agg #[.string y.k, .string y.v, .bool false] := (Roll.eval_new 11 rfl (by decide) (by decide) (by omega)).trans h11
            clear hp hlv hN
            unfold Roll.Goes
            simp only [Lrd6, List.getD_cons_zero, List.getD_cons_succ]
            generalize Roll.putD Drd6 vs [11] b0 = a1 at *
            have hal : Below p.heap.size p (p.alloc (.cells #[.string y.k, .string y.v, .bool false] 61)) := (Below.refl _ _).alloc (Nat.le_refl _) _
            refine Roll.goes_val (w' := p.alloc (.cells #[.string y.k, .string y.v, .bool false] 61)) (.slice (some ⟨p.heap.size, 0, none⟩) 1 1) rfl (by have ec : ∀ x, a1.eval (.const x) = x := fun _ => rfl; have ef : ∀ x, a1.eval (.func x) = .func (.func x) #[] #[] := fun _ => rfl; generalize a1.eval = ρ at *; go_simp <;> (intros; first | (exfalso; omega) | rfl)) ⟨Roll.outw_pre (by decide) rfl (hI.trans (hal.mono hI.size)) (Kept.of_below _ hal), p.heap.size, rfl, hI.size, heap_new rfl⟩
           ·intro vs p hI0 hp
            have hI := Roll.inw_k0 rfl hI0
            clear hI0
            have h0 : (vs 0) = v0 := hp 0 (by simp [Lrd6])
            have h12 : ∃ x, (vs 12) = .slice (some ⟨x, 0, none⟩) 1 1 ∧ wr.heap.size ≤ x ∧ p.heap[x]? = some (.cells #[.string y.k, .string y.v, .bool false] 61 (0, 0)) := hp 12 (by simp [Lrd6])
            have e29 : (Roll.putD Drd6 vs [0, 12] b0).eval (.tmp 29) = v0 := (Roll.eval_new 0 rfl (by decide) (by decide) (by omega)).trans h0
            have e41 : (Roll.putD Drd6 vs [0, 12] b0).eval (.tmp 41) = vs 12 := (Roll.eval_new 12 rfl (by decide) (by decide) (by omega))
            clear hp hlv hN
            unfold Roll.Goes
            simp only [Lrd6, List.getD_cons_zero, List.getD_cons_succ]
            generalize Roll.putD Drd6 vs [0, 12] b0 = a1 at *
            obtain ⟨z, hvz, hzz, hhz⟩ := h12
            rw [hvz] at e41
            refine wpList_append_any _ rfl (.tmp 29) (.tmp 41) _ _ rfl 61 i0 _ 3 40 Try.underlying56 hi hz0 hz1 hz2 rfl v0.ownBlock v0 es.length (ecells es) e29 (HOW.out.1.kept (Kept.of_below (fun _ => False) hI) (fun _ _ h => h)) 1 (ecells [setE y]) (by rw [e41]; exact one_src _ _ hhz) HBD.out.1 HBD.out.2 ?_
            intro k' v' w' ho' hf' hK' _
            exact ⟨v', rfl, Roll.outw_k0 rfl ⟨_, k', hI, ho', fun j hj => (hf' j hj).imp id (fun e => Nat.le_trans hI.size e), hK'⟩ hK', trivial⟩
          ·intro vs p hI hR
           have h0 : (vs 0) = v0 := hR 0 (by omega)
           have h1 : (vs 1) = .slice (some ⟨bb, ob, none⟩) m e := hR 1 (by omega)
           have h2 : (vs 2) = .int .i64 (k : Int) := hR 2 (by omega)
           have h3 : (vs 3) = .pointer (some ⟨bb, pb, none⟩) := hR 3 (by omega)
           have h4 : (vs 4) = .pointer (some ⟨bb, pb, none⟩) := hR 4 (by omega)
           have h5 : (vs 5) = .string y.k := hR 5 (by omega)
           have h6 : (vs 6) = .slice (some ⟨bb, ob, none⟩) m e := hR 6 (by omega)
           have h7 : (vs 7) = .int .i64 (k : Int) := hR 7 (by omega)
           have h8 : (vs 8) = .pointer (some ⟨bb, pb, none⟩) := hR 8 (by omega)
           have h9 : (vs 9) = .pointer (some ⟨bb, pb + 1, none⟩) := hR 9 (by omega)
           have h10 : (vs 10) = .string y.v := hR 10 (by omega)
           have h11 : (vs 11) = .agg #[.string y.k, .string y.v, .bool false] := hR 11 (by omega)
           have h12 : ∃ x, (vs 12) = .slice (some ⟨x, 0, none⟩) 1 1 ∧ wr.heap.size ≤ x ∧ p.heap[x]? = some (.cells #[.string y.k, .string y.v, .bool false] 61 (0, 0)) := hR 12 (by omega)
           have h13 : True := hR 13 (by omega)
           clear hR
           simp only [List.range_succ, List.range_zero, List.nil_append, List.cons_append, Roll.putD, Act.put, List.getD_cons_zero, List.getD_cons_succ, List.setIfInBounds_toArray, List.set_cons_zero, List.set_cons_succ, List.drop_succ_cons, List.drop_zero, Drd6]
           simp only [h0, h1, h2, h3, h4, h5, h6, h7, h8, h9, h10, h11]
           clear h0 h1 h2 h3 h4 h5 h6 h7 h8 h9 h10 h11
           clear h12 h13
           generalize vs 12 = v12 at *
           generalize vs 13 = v13 at *
           obtain ⟨p8, k', hb8, ho', hf', hK'⟩ := hI
           obtain ⟨hro9, hbe9⟩ := rd_app (e1 := setE y) HB.out HOW.out.2 hb8 ho' hf' hK'
           have HRO9 := Lib.hid hro9
           have HBE9 := Lib.hid hbe9
           clear hb8 ho' hf' hK' hro9 hbe9
           go_wp2_with fail
           go_roundw
           case rel =>
            refine ⟨i + 1, k + 1, v13, es ++ [setE y], rfl, (by first | rfl | go_num), by go_num, (by have := HEL.out; have := HI2.out; omega), by have := HK2.out; omega, HRO9.out, ?_, by rw [List.length_append]; simp only [List.length_cons, List.length_nil]; have := HEL.out; omega, HBE9.out⟩
            have h := HD.out
            rw [HDX.out, HDY.out, diffR, if_neg (by have := HNL.out; omega), if_neg (by have := HGT.out; omega), if_neg HVN.out] at h
            rw [← h, List.append_assoc]
            all_goals rfl
           case measure => (try go_num); (try (simp only [intOf])); have := HK2.out; omega
   ·have hkm0 : k = m := by omega
    subst hkm0
    have HKM : Hid ((k : Int) = (k : Int)) := Lib.hid rfl
    have HDY0 : Hid (ys.drop k = []) := Lib.hid (List.drop_eq_nil_of_le (by rw [HYL.out]; exact Nat.le_refl _))
    clear hk2
    go_upto_region 9 with fail
    refine Roll.region_f 32 125 Drd9 Lrd9 [(0, .slice (some ⟨ba, oa, none⟩) n c), (1, .slice b k e), (5, v0), (6, .int .i64 (i : Int)), (7, .int .i64 (k : Int))] (fun p => Below wr.heap.size wr p) (fun p p2 => Below p.heap.size p p2) [fun vv p => vv = .int .i64 (k : Int), fun vv p => vv = .slice b k e, fun vv p => vv = .int .i64 (k : Int), fun vv p => vv = .bool true, fun vv p => vv = .bool true, fun vv p => vv = undef, fun vv p => vv = undef, fun vv p => vv = undef, fun vv p => vv = undef, fun vv p => vv = undef, fun vv p => vv = undef, fun vv p => vv = undef, fun vv p => vv = undef, fun vv p => vv = undef, fun vv p => vv = undef, fun vv p => vv = undef, fun vv p => vv = undef, fun vv p => vv = undef, fun vv p => vv = undef, fun vv p => vv = undef, fun vv p => vv = undef, fun vv p => vv = undef, fun vv p => vv = undef, fun vv p => vv = undef, fun vv p => vv = undef, fun vv p => vv = undef, fun vv p => vv = undef, fun vv p => vv = undef, fun vv p => vv = undef, fun vv p => vv = undef, fun vv p => vv = .bool true, fun vv p => vv = .bool true] (by kernel_rfl) (by kernel_rfl) rfl ⟨rfl, rfl, rfl, rfl, rfl, trivial⟩ ((Below.refl _ _).drew) ?_ ?_ ?_
    ·exact ⟨fun _ _ _ _ h => h, fun _ _ _ _ h => h, fun _ _ _ _ h => h, fun _ _ _ _ h => h, fun _ _ _ _ h => h, fun _ _ _ _ h => h, fun _ _ _ _ h => h, fun _ _ _ _ h => h, fun _ _ _ _ h => h, fun _ _ _ _ h => h, fun _ _ _ _ h => h, fun _ _ _ _ h => h, fun _ _ _ _ h => h, fun _ _ _ _ h => h, fun _ _ _ _ h => h, fun _ _ _ _ h => h, fun _ _ _ _ h => h, fun _ _ _ _ h => h, fun _ _ _ _ h => h, fun _ _ _ _ h => h, fun _ _ _ _ h => h, fun _ _ _ _ h => h, fun _ _ _ _ h => h, fun _ _ _ _ h => h, fun _ _ _ _ h => h, fun _ _ _ _ h => h, fun _ _ _ _ h => h, fun _ _ _ _ h => h, fun _ _ _ _ h => h, fun _ _ _ _ h => h, fun _ _ _ _ h => h, fun _ _ _ _ h => h, trivial⟩
    ·intro b0 hN hlv
     refine ⟨?_, ?_, ?_, ?_, ?_, ?_, ?_, ?_, ?_, ?_, ?_, ?_, ?_, ?_, ?_, ?_, ?_, ?_, ?_, ?_, ?_, ?_, ?_, ?_, ?_, ?_, ?_, ?_, ?_, ?_, ?_, ?_, trivial⟩
     ·intro vs p hI hp
      have e7 : (Roll.putD Drd9 vs [] b0).eval (.tmp 7) = .int .i64 (k : Int) := (Roll.eval_old rfl).trans (hlv.at 4 (7, .int .i64 (k : Int)) rfl)
      clear hp hlv hN
      unfold Roll.Goes
      simp only [Lrd9, List.getD_cons_zero, List.getD_cons_succ]
      generalize Roll.putD Drd9 vs [] b0 = a1 at *
      refine Roll.goes_val (w' := p) (.int .i64 (k : Int)) rfl ?_ ⟨hI, Below.refl _ _, rfl⟩
      (have ⟨ec, ef⟩ := opn_a a1); generalize a1.eval = ρ at *
      skip
      go_simp <;> (intros; first | (exfalso; omega) | rfl | omega)
     ·intro vs p hI hp
      have e1 : (Roll.putD Drd9 vs [] b0).eval (.tmp 1) = .slice b k e := (Roll.eval_old rfl).trans (hlv.at 1 (1, .slice b k e) rfl)
      clear hp hlv hN
      unfold Roll.Goes
      simp only [Lrd9, List.getD_cons_zero, List.getD_cons_succ]
      generalize Roll.putD Drd9 vs [] b0 = a1 at *
      refine Roll.goes_val (w' := p) (.slice b k e) rfl ?_ ⟨hI, Below.refl _ _, rfl⟩
      (have ⟨ec, ef⟩ := opn_a a1); generalize a1.eval = ρ at *
      skip
      go_simp <;> (intros; first | (exfalso; omega) | rfl | omega)
     ·intro vs p hI hp
      have h1 : (vs 1) = .slice b k e := hp 1 (by simp [Lrd9])
      have e49 : (Roll.putD Drd9 vs [1] b0).eval (.tmp 49) = .slice b k e := (Roll.eval_new 1 rfl (by decide) (by decide) (by omega)).trans h1
      clear hp hlv hN
      unfold Roll.Goes
      simp only [Lrd9, List.getD_cons_zero, List.getD_cons_succ]
      generalize Roll.putD Drd9 vs [1] b0 = a1 at *
      refine Roll.goes_val (w' := p) (.int .i64 (k : Int)) rfl ?_ ⟨hI, Below.refl _ _, rfl⟩
      (have ⟨ec, ef⟩ := opn_a a1); generalize a1.eval = ρ at *
      clear h1
      go_simp <;> (intros; first | (exfalso; omega) | rfl | omega)
     ·intro vs p hI hp
      have h0 : (vs 0) = .int .i64 (k : Int) := hp 0 (by simp [Lrd9])
      have h2 : (vs 2) = .int .i64 (k : Int) := hp 2 (by simp [Lrd9])
      have e48 : (Roll.putD Drd9 vs [0, 2] b0).eval (.tmp 48) = .int .i64 (k : Int) := (Roll.eval_new 0 rfl (by decide) (by decide) (by omega)).trans h0
      have e50 : (Roll.putD Drd9 vs [0, 2] b0).eval (.tmp 50) = .int .i64 (k : Int) := (Roll.eval_new 2 rfl (by decide) (by decide) (by omega)).trans h2
      clear hp hlv hN
      unfold Roll.Goes
      simp only [Lrd9, List.getD_cons_zero, List.getD_cons_succ]
      generalize Roll.putD Drd9 vs [0, 2] b0 = a1 at *
      have f0 := HKM.out
      refine Roll.goes_val (w' := p) (.bool true) rfl ?_ ⟨hI, Below.refl _ _, rfl⟩
      (have ⟨ec, ef⟩ := opn_a a1); generalize a1.eval = ρ at *
      clear h0 h2
      go_simp <;> (intros; first | (exfalso; omega) | rfl | omega)
     ·intro vs p hI hp
      have h3 : (vs 3) = .bool true := hp 3 (by simp [Lrd9])
      have e51 : (Roll.putD Drd9 vs [3] b0).eval (.tmp 51) = .bool true := (Roll.eval_new 3 rfl (by decide) (by decide) (by omega)).trans h3
      clear hp hlv hN
      unfold Roll.Goes
      simp only [Lrd9, List.getD_cons_zero, List.getD_cons_succ]
      generalize Roll.putD Drd9 vs [3] b0 = a1 at *
      refine Roll.goes_val (w' := p) (.bool true) rfl ?_ ⟨hI, Below.refl _ _, rfl⟩
      (have ⟨ec, ef⟩ := opn_a a1); generalize a1.eval = ρ at *
      clear h3
      go_simp <;> (intros; first | (exfalso; omega) | rfl | omega)
     ·intro vs p hI hp
      have h4 : (vs 4) = .bool true := hp 4 (by simp [Lrd9])
      have e6 : (Roll.putD Drd9 vs [4] b0).eval (.tmp 6) = .int .i64 (i : Int) := (Roll.eval_old rfl).trans (hlv.at 3 (6, .int .i64 (i : Int)) rfl)
      clear hp hlv hN
      exact ⟨fun hg => absurd (h4.symm.trans hg) (by simp), fun hg => ⟨Below.refl _ _, rfl⟩⟩
     ·intro vs p hI hp
      have h4 : (vs 4) = .bool true := hp 4 (by simp [Lrd9])
      have e0 : (Roll.putD Drd9 vs [4] b0).eval (.tmp 0) = .slice (some ⟨ba, oa, none⟩) n c := (Roll.eval_old rfl).trans (hlv.at 0 (0, .slice (some ⟨ba, oa, none⟩) n c) rfl)
      clear hp hlv hN
      exact ⟨fun hg => absurd (h4.symm.trans hg) (by simp), fun hg => ⟨Below.refl _ _, rfl⟩⟩
     ·intro vs p hI hp
      have h6 : (vs 6) = undef := hp 6 (by simp [Lrd9])
      have h4 : (vs 4) = .bool true := hp 4 (by simp [Lrd9])
      have e54 : (Roll.putD Drd9 vs [6, 4] b0).eval (.tmp 54) = undef := (Roll.eval_new 6 rfl (by decide) (by decide) (by omega)).trans h6
      clear hp hlv hN
      exact ⟨fun hg => absurd (h4.symm.trans hg) (by simp), fun hg => ⟨Below.refl _ _, rfl⟩⟩
     ·intro vs p hI hp
      have h5 : (vs 5) = undef := hp 5 (by simp [Lrd9])
      have h7 : (vs 7) = undef := hp 7 (by simp [Lrd9])
      have h4 : (vs 4) = .bool true := hp 4 (by simp [Lrd9])
      have e53 : (Roll.putD Drd9 vs [5, 7, 4] b0).eval (.tmp 53) = undef := (Roll.eval_new 5 rfl (by decide) (by decide) (by omega)).trans h5
      have e55 : (Roll.putD Drd9 vs [5, 7, 4] b0).eval (.tmp 55) = undef := (Roll.eval_new 7 rfl (by decide) (by decide) (by omega)).trans h7
      clear hp hlv hN
      exact ⟨fun hg => absurd (h4.symm.trans hg) (by simp), fun hg => ⟨Below.refl _ _, rfl⟩⟩
     ·intro vs p hI hp
      have h8 : (vs 8) = undef := hp 8 (by simp [Lrd9])
      have h4 : (vs 4) = .bool true := hp 4 (by simp [Lrd9])
      have e56 : (Roll.putD Drd9 vs [8, 4] b0).eval (.tmp 56) = undef := (Roll.eval_new 8 rfl (by decide) (by decide) (by omega)).trans h8
      clear hp hlv hN
      exact ⟨fun hg => absurd (h4.symm.trans hg) (by simp), fun hg => ⟨Below.refl _ _, rfl⟩⟩
     ·intro vs p hI hp
      have h9 : (vs 9) = undef := hp 9 (by simp [Lrd9])
      have e0 : (Roll.putD Drd9 vs [9] b0).eval (.tmp 0) = .slice (some ⟨ba, oa, none⟩) n c := (Roll.eval_old rfl).trans (hlv.at 0 (0, .slice (some ⟨ba, oa, none⟩) n c) rfl)
      clear hp hlv hN
      exact ⟨fun hg => absurd (h9.symm.trans hg) (by simp [undef]), fun hg => ⟨Below.refl _ _, rfl⟩⟩
     ·intro vs p hI hp
      have h9 : (vs 9) = undef := hp 9 (by simp [Lrd9])
      have e6 : (Roll.putD Drd9 vs [9] b0).eval (.tmp 6) = .int .i64 (i : Int) := (Roll.eval_old rfl).trans (hlv.at 3 (6, .int .i64 (i : Int)) rfl)
      clear hp hlv hN
      exact ⟨fun hg => absurd (h9.symm.trans hg) (by simp [undef]), fun hg => ⟨Below.refl _ _, rfl⟩⟩
     ·intro vs p hI hp
      have h9 : (vs 9) = undef := hp 9 (by simp [Lrd9])
      have e0 : (Roll.putD Drd9 vs [9] b0).eval (.tmp 0) = .slice (some ⟨ba, oa, none⟩) n c := (Roll.eval_old rfl).trans (hlv.at 0 (0, .slice (some ⟨ba, oa, none⟩) n c) rfl)
      clear hp hlv hN
      exact ⟨fun hg => absurd (h9.symm.trans hg) (by simp [undef]), fun hg => ⟨Below.refl _ _, rfl⟩⟩
     ·intro vs p hI hp
      have h12 : (vs 12) = undef := hp 12 (by simp [Lrd9])
      have h9 : (vs 9) = undef := hp 9 (by simp [Lrd9])
      have e60 : (Roll.putD Drd9 vs [12, 9] b0).eval (.tmp 60) = undef := (Roll.eval_new 12 rfl (by decide) (by decide) (by omega)).trans h12
      clear hp hlv hN
      exact ⟨fun hg => absurd (h9.symm.trans hg) (by simp [undef]), fun hg => ⟨Below.refl _ _, rfl⟩⟩
     ·intro vs p hI hp
      have h13 : (vs 13) = undef := hp 13 (by simp [Lrd9])
      have h9 : (vs 9) = undef := hp 9 (by simp [Lrd9])
      have e61 : (Roll.putD Drd9 vs [13, 9] b0).eval (.tmp 61) = undef := (Roll.eval_new 13 rfl (by decide) (by decide) (by omega)).trans h13
      clear hp hlv hN
      exact ⟨fun hg => absurd (h9.symm.trans hg) (by simp [undef]), fun hg => ⟨Below.refl _ _, rfl⟩⟩
     ·intro vs p hI hp
      have h11 : (vs 11) = undef := hp 11 (by simp [Lrd9])
      have h14 : (vs 14) = undef := hp 14 (by simp [Lrd9])
      have h9 : (vs 9) = undef := hp 9 (by simp [Lrd9])
      have e59 : (Roll.putD Drd9 vs [11, 14, 9] b0).eval (.tmp 59) = undef := (Roll.eval_new 11 rfl (by decide) (by decide) (by omega)).trans h11
      have e62 : (Roll.putD Drd9 vs [11, 14, 9] b0).eval (.tmp 62) = undef := (Roll.eval_new 14 rfl (by decide) (by decide) (by omega)).trans h14
      clear hp hlv hN
      exact ⟨fun hg => absurd (h9.symm.trans hg) (by simp [undef]), fun hg => ⟨Below.refl _ _, rfl⟩⟩
     ·intro vs p hI hp
      have h10 : (vs 10) = undef := hp 10 (by simp [Lrd9])
      have h15 : (vs 15) = undef := hp 15 (by simp [Lrd9])
      have h9 : (vs 9) = undef := hp 9 (by simp [Lrd9])
      have e58 : (Roll.putD Drd9 vs [10, 15, 9] b0).eval (.tmp 58) = undef := (Roll.eval_new 10 rfl (by decide) (by decide) (by omega)).trans h10
      have e63 : (Roll.putD Drd9 vs [10, 15, 9] b0).eval (.tmp 63) = undef := (Roll.eval_new 15 rfl (by decide) (by decide) (by omega)).trans h15
      clear hp hlv hN
      exact ⟨fun hg => absurd (h9.symm.trans hg) (by simp [undef]), fun hg => ⟨Below.refl _ _, rfl⟩⟩
     ·intro vs p hI hp
      have h16 : (vs 16) = undef := hp 16 (by simp [Lrd9])
      have h9 : (vs 9) = undef := hp 9 (by simp [Lrd9])
      have e64 : (Roll.putD Drd9 vs [16, 9] b0).eval (.tmp 64) = undef := (Roll.eval_new 16 rfl (by decide) (by decide) (by omega)).trans h16
      clear hp hlv hN
      exact ⟨fun hg => absurd (h9.symm.trans hg) (by simp [undef]), fun hg => ⟨Below.refl _ _, rfl⟩⟩
     ·intro vs p hI hp
      have h17 : (vs 17) = undef := hp 17 (by simp [Lrd9])
      have h9 : (vs 9) = undef := hp 9 (by simp [Lrd9])
      have e65 : (Roll.putD Drd9 vs [17, 9] b0).eval (.tmp 65) = undef := (Roll.eval_new 17 rfl (by decide) (by decide) (by omega)).trans h17
      clear hp hlv hN
      exact ⟨fun hg => absurd (h9.symm.trans hg) (by simp [undef]), fun hg => ⟨Below.refl _ _, rfl⟩⟩
     ·intro vs p hI hp
      have h9 : (vs 9) = undef := hp 9 (by simp [Lrd9])
      have e1 : (Roll.putD Drd9 vs [9] b0).eval (.tmp 1) = .slice b k e := (Roll.eval_old rfl).trans (hlv.at 1 (1, .slice b k e) rfl)
      clear hp hlv hN
      exact ⟨fun hg => absurd (h9.symm.trans hg) (by simp [undef]), fun hg => ⟨Below.refl _ _, rfl⟩⟩
     ·intro vs p hI hp
      have h9 : (vs 9) = undef := hp 9 (by simp [Lrd9])
      have e7 : (Roll.putD Drd9 vs [9] b0).eval (.tmp 7) = .int .i64 (k : Int) := (Roll.eval_old rfl).trans (hlv.at 4 (7, .int .i64 (k : Int)) rfl)
      clear hp hlv hN
      exact ⟨fun hg => absurd (h9.symm.trans hg) (by simp [undef]), fun hg => ⟨Below.refl _ _, rfl⟩⟩
     ·intro vs p hI hp
      have h9 : (vs 9) = undef := hp 9 (by simp [Lrd9])
      have e1 : (Roll.putD Drd9 vs [9] b0).eval (.tmp 1) = .slice b k e := (Roll.eval_old rfl).trans (hlv.at 1 (1, .slice b k e) rfl)
      clear hp hlv hN
      exact ⟨fun hg => absurd (h9.symm.trans hg) (by simp [undef]), fun hg => ⟨Below.refl _ _, rfl⟩⟩
     ·intro vs p hI hp
      have h21 : (vs 21) = undef := hp 21 (by simp [Lrd9])
      have h9 : (vs 9) = undef := hp 9 (by simp [Lrd9])
      have e69 : (Roll.putD Drd9 vs [21, 9] b0).eval (.tmp 69) = undef := (Roll.eval_new 21 rfl (by decide) (by decide) (by omega)).trans h21
      clear hp hlv hN
      exact ⟨fun hg => absurd (h9.symm.trans hg) (by simp [undef]), fun hg => ⟨Below.refl _ _, rfl⟩⟩
     ·intro vs p hI hp
      have h22 : (vs 22) = undef := hp 22 (by simp [Lrd9])
      have h9 : (vs 9) = undef := hp 9 (by simp [Lrd9])
      have e70 : (Roll.putD Drd9 vs [22, 9] b0).eval (.tmp 70) = undef := (Roll.eval_new 22 rfl (by decide) (by decide) (by omega)).trans h22
      clear hp hlv hN
      exact ⟨fun hg => absurd (h9.symm.trans hg) (by simp [undef]), fun hg => ⟨Below.refl _ _, rfl⟩⟩
     ·intro vs p hI hp
      have h20 : (vs 20) = undef := hp 20 (by simp [Lrd9])
      have h23 : (vs 23) = undef := hp 23 (by simp [Lrd9])
      have h9 : (vs 9) = undef := hp 9 (by simp [Lrd9])
      have e68 : (Roll.putD Drd9 vs [20, 23, 9] b0).eval (.tmp 68) = undef := (Roll.eval_new 20 rfl (by decide) (by decide) (by omega)).trans h20
      have e71 : (Roll.putD Drd9 vs [20, 23, 9] b0).eval (.tmp 71) = undef := (Roll.eval_new 23 rfl (by decide) (by decide) (by omega)).trans h23
      clear hp hlv hN
      exact ⟨fun hg => absurd (h9.symm.trans hg) (by simp [undef]), fun hg => ⟨Below.refl _ _, rfl⟩⟩
     ·intro vs p hI hp
      have h19 : (vs 19) = undef := hp 19 (by simp [Lrd9])
      have h24 : (vs 24) = undef := hp 24 (by simp [Lrd9])
      have h9 : (vs 9) = undef := hp 9 (by simp [Lrd9])
      have e67 : (Roll.putD Drd9 vs [19, 24, 9] b0).eval (.tmp 67) = undef := (Roll.eval_new 19 rfl (by decide) (by decide) (by omega)).trans h19
      have e72 : (Roll.putD Drd9 vs [19, 24, 9] b0).eval (.tmp 72) = undef := (Roll.eval_new 24 rfl (by decide) (by decide) (by omega)).trans h24
      clear hp hlv hN
      exact ⟨fun hg => absurd (h9.symm.trans hg) (by simp [undef]), fun hg => ⟨Below.refl _ _, rfl⟩⟩
     ·intro vs p hI hp
      have h25 : (vs 25) = undef := hp 25 (by simp [Lrd9])
      have h9 : (vs 9) = undef := hp 9 (by simp [Lrd9])
      have e73 : (Roll.putD Drd9 vs [25, 9] b0).eval (.tmp 73) = undef := (Roll.eval_new 25 rfl (by decide) (by decide) (by omega)).trans h25
      clear hp hlv hN
      exact ⟨fun hg => absurd (h9.symm.trans hg) (by simp [undef]), fun hg => ⟨Below.refl _ _, rfl⟩⟩
     ·intro vs p hI hp
      have h26 : (vs 26) = undef := hp 26 (by simp [Lrd9])
      have h9 : (vs 9) = undef := hp 9 (by simp [Lrd9])
      have e74 : (Roll.putD Drd9 vs [26, 9] b0).eval (.tmp 74) = undef := (Roll.eval_new 26 rfl (by decide) (by decide) (by omega)).trans h26
      clear hp hlv hN
      exact ⟨fun hg => absurd (h9.symm.trans hg) (by simp [undef]), fun hg => ⟨Below.refl _ _, rfl⟩⟩
     ·intro vs p hI hp
      have h18 : (vs 18) = undef := hp 18 (by simp [Lrd9])
      have h27 : (vs 27) = undef := hp 27 (by simp [Lrd9])
      have h9 : (vs 9) = undef := hp 9 (by simp [Lrd9])
      have e66 : (Roll.putD Drd9 vs [18, 27, 9] b0).eval (.tmp 66) = undef := (Roll.eval_new 18 rfl (by decide) (by decide) (by omega)).trans h18
      have e75 : (Roll.putD Drd9 vs [18, 27, 9] b0).eval (.tmp 75) = undef := (Roll.eval_new 27 rfl (by decide) (by decide) (by omega)).trans h27
      clear hp hlv hN
      exact ⟨fun hg => absurd (h9.symm.trans hg) (by simp [undef]), fun hg => ⟨Below.refl _ _, rfl⟩⟩
     ·intro vs p hI hp
      have h9 : (vs 9) = undef := hp 9 (by simp [Lrd9])
      have h28 : (vs 28) = undef := hp 28 (by simp [Lrd9])
      have h4 : (vs 4) = .bool true := hp 4 (by simp [Lrd9])
      have e57 : (Roll.putD Drd9 vs [9, 28, 4] b0).eval (.tmp 57) = undef := (Roll.eval_new 9 rfl (by decide) (by decide) (by omega)).trans h9
      have e76 : (Roll.putD Drd9 vs [9, 28, 4] b0).eval (.tmp 76) = undef := (Roll.eval_new 28 rfl (by decide) (by decide) (by omega)).trans h28
      clear hp hlv hN
      exact ⟨fun hg => absurd (h4.symm.trans hg) (by simp), fun hg => ⟨Below.refl _ _, rfl⟩⟩
     ·intro vs p hI hp
      have h4 : (vs 4) = .bool true := hp 4 (by simp [Lrd9])
      have h29 : (vs 29) = undef := hp 29 (by simp [Lrd9])
      have e52 : (Roll.putD Drd9 vs [4, 29] b0).eval (.tmp 52) = .bool true := (Roll.eval_new 4 rfl (by decide) (by decide) (by omega)).trans h4
      have e77 : (Roll.putD Drd9 vs [4, 29] b0).eval (.tmp 77) = undef := (Roll.eval_new 29 rfl (by decide) (by decide) (by omega)).trans h29
      clear hp hlv hN
      unfold Roll.Goes
      simp only [Lrd9, List.getD_cons_zero, List.getD_cons_succ]
      generalize Roll.putD Drd9 vs [4, 29] b0 = a1 at *
      refine Roll.goes_val (w' := p) (.bool true) rfl ?_ ⟨hI, Below.refl _ _, rfl⟩
      (have ⟨ec, ef⟩ := opn_a a1); generalize a1.eval = ρ at *
      clear h4 h29
      go_simp <;> (intros; first | (exfalso; omega) | rfl | omega)
     ·intro vs p hI hp
      have h30 : (vs 30) = .bool true := hp 30 (by simp [Lrd9])
      have e78 : (Roll.putD Drd9 vs [30] b0).eval (.tmp 78) = .bool true := (Roll.eval_new 30 rfl (by decide) (by decide) (by omega)).trans h30
      clear hp hlv hN
      unfold Roll.Goes
      simp only [Lrd9, List.getD_cons_zero, List.getD_cons_succ]
      generalize Roll.putD Drd9 vs [30] b0 = a1 at *
      refine Roll.goes_val (w' := p) (.bool true) rfl ?_ ⟨hI, Below.refl _ _, rfl⟩
      (have ⟨ec, ef⟩ := opn_a a1); generalize a1.eval = ρ at *
      clear h30
      go_simp <;> (intros; first | (exfalso; omega) | rfl | omega)
    ·intro vs p hI hR
     have h0 : (vs 0) = .int .i64 (k : Int) := hR 0 (by omega)
     have h1 : (vs 1) = .slice b k e := hR 1 (by omega)
     have h2 : (vs 2) = .int .i64 (k : Int) := hR 2 (by omega)
     have h3 : (vs 3) = .bool true := hR 3 (by omega)
     have h4 : (vs 4) = .bool true := hR 4 (by omega)
     have h5 : (vs 5) = undef := hR 5 (by omega)
     have h6 : (vs 6) = undef := hR 6 (by omega)
     have h7 : (vs 7) = undef := hR 7 (by omega)
     have h8 : (vs 8) = undef := hR 8 (by omega)
     have h9 : (vs 9) = undef := hR 9 (by omega)
     have h10 : (vs 10) = undef := hR 10 (by omega)
     have h11 : (vs 11) = undef := hR 11 (by omega)
     have h12 : (vs 12) = undef := hR 12 (by omega)
     have h13 : (vs 13) = undef := hR 13 (by omega)
     have h14 : (vs 14) = undef := hR 14 (by omega)
     have h15 : (vs 15) = undef := hR 15 (by omega)
     have h16 : (vs 16) = undef := hR 16 (by omega)
     have h17 : (vs 17) = undef := hR 17 (by omega)
     have h18 : (vs 18) = undef := hR 18 (by omega)
     have h19 : (vs 19) = undef := hR 19 (by omega)
     have h20 : (vs 20) = undef := hR 20 (by omega)
     have h21 : (vs 21) = undef := hR 21 (by omega)
     have h22 : (vs 22) = undef := hR 22 (by omega)
     have h23 : (vs 23) = undef := hR 23 (by omega)
     have h24 : (vs 24) = undef := hR 24 (by omega)
     have h25 : (vs 25) = undef := hR 25 (by omega)
     have h26 : (vs 26) = undef := hR 26 (by omega)
     have h27 : (vs 27) = undef := hR 27 (by omega)
     have h28 : (vs 28) = undef := hR 28 (by omega)
     have h29 : (vs 29) = undef := hR 29 (by omega)
     have h30 : (vs 30) = .bool true := hR 30 (by omega)
     have h31 : (vs 31) = .bool true := hR 31 (by omega)
     clear hR
     simp only [List.range_succ, List.range_zero, List.nil_append, List.cons_append, Roll.putD, Act.put, List.getD_cons_zero, List.getD_cons_succ, List.setIfInBounds_toArray, List.set_cons_zero, List.set_cons_succ, List.drop_succ_cons, List.drop_zero, Drd9]
     simp only [h0, h1, h2, h3, h4, h5, h6, h7, h8, h9, h10, h11, h12, h13, h14, h15, h16, h17, h18, h19, h20, h21, h22, h23, h24, h25, h26, h27, h28, h29, h30, h31]
     clear h0 h1 h2 h3 h4 h5 h6 h7 h8 h9 h10 h11 h12 h13 h14 h15 h16 h17 h18 h19 h20 h21 h22 h23 h24 h25 h26 h27 h28 h29 h30 h31
     obtain ⟨p9, hp9⟩ : ∃ z, z = p := ⟨_, rfl⟩
     subst hp9
     have HI9 := Lib.hid hI
     have c0 : p9.cell? ⟨ba, pa, none⟩ = some (.string x.k) := (hI.cell (p := ⟨ba, pa, none⟩) HLA.out).trans HCA.out
     have f0 := HIN2.out
     have f1 := HPA.out
     have f2 := HI0.out
     clear hI
     apply wpList_nil
     go_step
     go_step
     go_wp2_with (at_builtin; refine wpList_append_any _ rfl (.tmp 79) (.tmp 86) 56 56 rfl 61 i0 (.agg #[.string ⟨#[]⟩, .string ⟨#[]⟩, .bool false]) 3 40 Try.underlying56 hi hz0 hz1 hz2 rfl v0.ownBlock v0 es.length (ecells es) rfl (HOW.out.1.kept ((Kept.of_below (fun _ => False) HI9.out).alloc _) (fun _ _ h => h)) 1 (ecells [remE x]) (one_srcE _ (remE x) (World.alloc_heap_new p9 _)) HBD.out.1 HBD.out.2 ?_; intro k9 v9 w9 ho9 hf9 hK9 _; obtain ⟨hro9, hbe9⟩ := rd_app (e1 := remE x) HB.out HOW.out.2 (HI9.out.trans ((Below.refl _ p9).alloc (Nat.le_refl _) _ |>.mono HI9.out.size)) ho9 (fun j hj => (hf9 j hj).imp id (fun e => by rw [World.size_alloc] at e; have := HI9.out.size; omega)) hK9; have HRO9 := Lib.hid hro9; have HBE9 := Lib.hid hbe9; clear ho9 hf9 hK9 hro9 hbe9)
     go_roundw
     case rel =>
      refine ⟨i + 1, k, v9, es ++ [remE x], rfl, by go_num, rfl, by have := HI2.out; omega, by omega, HRO9.out, ?_, by rw [List.length_append]; simp only [List.length_cons, List.length_nil]; have := HEL.out; omega, HBE9.out⟩
      have h := HD.out
      rw [HDX.out, HDY0.out, diffR] at h
      rw [HDY0.out]
      rw [← h, List.append_assoc]
      all_goals rfl
     case measure => (try go_num); (try (simp only [intOf])); have := HI2.out; omega
  ·have hin0 : i = n := by omega
   subst hin0
   have hge : ¬ (i : Int) < (i : Int) := by omega
   have HDX0 : Hid (xs.drop i = []) := Lib.hid (List.drop_eq_nil_of_le (by rw [HXL.out]; exact Nat.le_refl _))
   clear hi2
   by_cases hk2 : k < m
   ·have hkm2 : (k : Int) < (m : Int) := by omega
    have hkl : k < ys.length := by rw [HYL.out]; exact hk2
    obtain ⟨bb, ob, -, hbb0, rfl, hcy⟩ := HY.out.at (by omega)
    have hbb : bb < wr.heap.size := Nat.lt_of_lt_of_le hbb0 HB.out.size
    have HLB0 := Lib.hid hbb0
    have hry := hcy k hkl
    obtain ⟨y, hy⟩ : ∃ y, y = ys[k]'hkl := ⟨_, rfl⟩
    have HDY : Hid (ys.drop k = y :: ys.drop (k + 1)) := Lib.hid (by rw [hy]; exact List.drop_eq_getElem_cons hkl)
    rw [← hy] at hry
    obtain ⟨pb, hpb⟩ : ∃ pb, pb = ob + k * 2 := ⟨_, rfl⟩
    rw [← hpb] at hry
    have HPB : Hid (ob + k * 2 = pb) := Lib.hid hpb.symm
    have HCB : Hid (wr.cell? ⟨bb, pb, none⟩ = some (.string y.k)) := Lib.hid ((HB.out.cell (p := ⟨bb, pb, none⟩) hbb0).trans (hry 0 _ rfl))
    have HCB1 : Hid (wr.cell? ⟨bb, pb + 1, none⟩ = some (.string y.v)) := Lib.hid ((HB.out.cell (p := ⟨bb, pb + 1, none⟩) hbb0).trans (hry 1 _ rfl))
    have HLB := Lib.hid hbb
    have HK0 : Hid (0 ≤ (k : Int)) := Lib.hid (by omega)
    have HK2 := Lib.hid hk2
    have HKN : Hid ((k : Int) < (m : Int)) := Lib.hid hkm2
    have HKM : Hid (¬ (k : Int) = (m : Int)) := Lib.hid (by omega)
    have HIN : Hid (¬ (i : Int) < (i : Int)) := Lib.hid (by omega)
    clear hcy hry hy hpb hkl hbb hk2 hbb0
    go_upto_region 9 with fail
    refine Roll.region_f 32 125 Drd9 Lrd9 [(0, .slice a i c), (1, .slice (some ⟨bb, ob, none⟩) m e), (5, v0), (6, .int .i64 (i : Int)), (7, .int .i64 (k : Int))] (fun p => Below wr.heap.size wr p) (fun p p2 => Below p.heap.size p p2) [fun vv p => vv = .int .i64 (k : Int), fun vv p => vv = .slice (some ⟨bb, ob, none⟩) m e, fun vv p => vv = .int .i64 (m : Int), fun vv p => vv = .bool false, fun vv p => vv = .bool false, fun vv p => vv = .int .i64 (i : Int), fun vv p => vv = .slice a i c, fun vv p => vv = .int .i64 (i : Int), fun vv p => vv = .bool false, fun vv p => vv = .bool false, fun vv p => vv = undef, fun vv p => vv = undef, fun vv p => vv = undef, fun vv p => vv = undef, fun vv p => vv = undef, fun vv p => vv = undef, fun vv p => vv = undef, fun vv p => vv = undef, fun vv p => vv = undef, fun vv p => vv = undef, fun vv p => vv = undef, fun vv p => vv = undef, fun vv p => vv = undef, fun vv p => vv = undef, fun vv p => vv = undef, fun vv p => vv = undef, fun vv p => vv = undef, fun vv p => vv = undef, fun vv p => vv = undef, fun vv p => vv = .bool false, fun vv p => vv = .bool false, fun vv p => vv = .bool false] (by kernel_rfl) (by kernel_rfl) rfl ⟨rfl, rfl, rfl, rfl, rfl, trivial⟩ ((Below.refl _ _).drew) ?_ ?_ ?_
    ·exact ⟨fun _ _ _ _ h => h, fun _ _ _ _ h => h, fun _ _ _ _ h => h, fun _ _ _ _ h => h, fun _ _ _ _ h => h, fun _ _ _ _ h => h, fun _ _ _ _ h => h, fun _ _ _ _ h => h, fun _ _ _ _ h => h, fun _ _ _ _ h => h, fun _ _ _ _ h => h, fun _ _ _ _ h => h, fun _ _ _ _ h => h, fun _ _ _ _ h => h, fun _ _ _ _ h => h, fun _ _ _ _ h => h, fun _ _ _ _ h => h, fun _ _ _ _ h => h, fun _ _ _ _ h => h, fun _ _ _ _ h => h, fun _ _ _ _ h => h, fun _ _ _ _ h => h, fun _ _ _ _ h => h, fun _ _ _ _ h => h, fun _ _ _ _ h => h, fun _ _ _ _ h => h, fun _ _ _ _ h => h, fun _ _ _ _ h => h, fun _ _ _ _ h => h, fun _ _ _ _ h => h, fun _ _ _ _ h => h, fun _ _ _ _ h => h, trivial⟩
    ·intro b0 hN hlv
     refine ⟨?_, ?_, ?_, ?_, ?_, ?_, ?_, ?_, ?_, ?_, ?_, ?_, ?_, ?_, ?_, ?_, ?_, ?_, ?_, ?_, ?_, ?_, ?_, ?_, ?_, ?_, ?_, ?_, ?_, ?_, ?_, ?_, trivial⟩
     ·intro vs p hI hp
      have e7 : (Roll.putD Drd9 vs [] b0).eval (.tmp 7) = .int .i64 (k : Int) := (Roll.eval_old rfl).trans (hlv.at 4 (7, .int .i64 (k : Int)) rfl)
      clear hp hlv hN
      unfold Roll.Goes
      simp only [Lrd9, List.getD_cons_zero, List.getD_cons_succ]
      generalize Roll.putD Drd9 vs [] b0 = a1 at *
      refine Roll.goes_val (w' := p) (.int .i64 (k : Int)) rfl ?_ ⟨hI, Below.refl _ _, rfl⟩
      (have ⟨ec, ef⟩ := opn_a a1); generalize a1.eval = ρ at *
      skip
      go_simp <;> (intros; first | (exfalso; omega) | rfl | omega)
     ·intro vs p hI hp
      have e1 : (Roll.putD Drd9 vs [] b0).eval (.tmp 1) = .slice (some ⟨bb, ob, none⟩) m e := (Roll.eval_old rfl).trans (hlv.at 1 (1, .slice (some ⟨bb, ob, none⟩) m e) rfl)
      clear hp hlv hN
      unfold Roll.Goes
      simp only [Lrd9, List.getD_cons_zero, List.getD_cons_succ]
      generalize Roll.putD Drd9 vs [] b0 = a1 at *
      refine Roll.goes_val (w' := p) (.slice (some ⟨bb, ob, none⟩) m e) rfl ?_ ⟨hI, Below.refl _ _, rfl⟩
      (have ⟨ec, ef⟩ := opn_a a1); generalize a1.eval = ρ at *
      skip
      go_simp <;> (intros; first | (exfalso; omega) | rfl | omega)
     ·intro vs p hI hp
      have h1 : (vs 1) = .slice (some ⟨bb, ob, none⟩) m e := hp 1 (by simp [Lrd9])
      have e49 : (Roll.putD Drd9 vs [1] b0).eval (.tmp 49) = .slice (some ⟨bb, ob, none⟩) m e := (Roll.eval_new 1 rfl (by decide) (by decide) (by omega)).trans h1
      clear hp hlv hN
      unfold Roll.Goes
      simp only [Lrd9, List.getD_cons_zero, List.getD_cons_succ]
      generalize Roll.putD Drd9 vs [1] b0 = a1 at *
      refine Roll.goes_val (w' := p) (.int .i64 (m : Int)) rfl ?_ ⟨hI, Below.refl _ _, rfl⟩
      (have ⟨ec, ef⟩ := opn_a a1); generalize a1.eval = ρ at *
      clear h1
      go_simp <;> (intros; first | (exfalso; omega) | rfl | omega)
     ·intro vs p hI hp
      have h0 : (vs 0) = .int .i64 (k : Int) := hp 0 (by simp [Lrd9])
      have h2 : (vs 2) = .int .i64 (m : Int) := hp 2 (by simp [Lrd9])
      have e48 : (Roll.putD Drd9 vs [0, 2] b0).eval (.tmp 48) = .int .i64 (k : Int) := (Roll.eval_new 0 rfl (by decide) (by decide) (by omega)).trans h0
      have e50 : (Roll.putD Drd9 vs [0, 2] b0).eval (.tmp 50) = .int .i64 (m : Int) := (Roll.eval_new 2 rfl (by decide) (by decide) (by omega)).trans h2
      clear hp hlv hN
      unfold Roll.Goes
      simp only [Lrd9, List.getD_cons_zero, List.getD_cons_succ]
      generalize Roll.putD Drd9 vs [0, 2] b0 = a1 at *
      have f0 := HKM.out
      refine Roll.goes_val (w' := p) (.bool false) rfl ?_ ⟨hI, Below.refl _ _, rfl⟩
      (have ⟨ec, ef⟩ := opn_a a1); generalize a1.eval = ρ at *
      clear h0 h2
      go_simp <;> (intros; first | (exfalso; omega) | rfl | omega)
     ·intro vs p hI hp
      have h3 : (vs 3) = .bool false := hp 3 (by simp [Lrd9])
      have e51 : (Roll.putD Drd9 vs [3] b0).eval (.tmp 51) = .bool false := (Roll.eval_new 3 rfl (by decide) (by decide) (by omega)).trans h3
      clear hp hlv hN
      unfold Roll.Goes
      simp only [Lrd9, List.getD_cons_zero, List.getD_cons_succ]
      generalize Roll.putD Drd9 vs [3] b0 = a1 at *
      refine Roll.goes_val (w' := p) (.bool false) rfl ?_ ⟨hI, Below.refl _ _, rfl⟩
      (have ⟨ec, ef⟩ := opn_a a1); generalize a1.eval = ρ at *
      clear h3
      go_simp <;> (intros; first | (exfalso; omega) | rfl | omega)
     ·intro vs p hI hp
      have h4 : (vs 4) = .bool false := hp 4 (by simp [Lrd9])
      have e6 : (Roll.putD Drd9 vs [4] b0).eval (.tmp 6) = .int .i64 (i : Int) := (Roll.eval_old rfl).trans (hlv.at 3 (6, .int .i64 (i : Int)) rfl)
      clear hp hlv hN
      refine ⟨fun hg => ?_, fun hg => absurd h4 hg⟩
      clear hg
      unfold Roll.Goes
      simp only [Lrd9, List.getD_cons_zero, List.getD_cons_succ]
      generalize Roll.putD Drd9 vs [4] b0 = a1 at *
      refine Roll.goes_val (w' := p) (.int .i64 (i : Int)) rfl ?_ ⟨hI, Below.refl _ _, rfl⟩
      (have ⟨ec, ef⟩ := opn_a a1); generalize a1.eval = ρ at *
      clear h4
      go_simp <;> (intros; first | (exfalso; omega) | rfl | omega)
     ·intro vs p hI hp
      have h4 : (vs 4) = .bool false := hp 4 (by simp [Lrd9])
      have e0 : (Roll.putD Drd9 vs [4] b0).eval (.tmp 0) = .slice a i c := (Roll.eval_old rfl).trans (hlv.at 0 (0, .slice a i c) rfl)
      clear hp hlv hN
      refine ⟨fun hg => ?_, fun hg => absurd h4 hg⟩
      clear hg
      unfold Roll.Goes
      simp only [Lrd9, List.getD_cons_zero, List.getD_cons_succ]
      generalize Roll.putD Drd9 vs [4] b0 = a1 at *
      refine Roll.goes_val (w' := p) (.slice a i c) rfl ?_ ⟨hI, Below.refl _ _, rfl⟩
      (have ⟨ec, ef⟩ := opn_a a1); generalize a1.eval = ρ at *
      clear h4
      go_simp <;> (intros; first | (exfalso; omega) | rfl | omega)
     ·intro vs p hI hp
      have h6 : (vs 6) = .slice a i c := hp 6 (by simp [Lrd9])
      have h4 : (vs 4) = .bool false := hp 4 (by simp [Lrd9])
      have e54 : (Roll.putD Drd9 vs [6, 4] b0).eval (.tmp 54) = .slice a i c := (Roll.eval_new 6 rfl (by decide) (by decide) (by omega)).trans h6
      clear hp hlv hN
      refine ⟨fun hg => ?_, fun hg => absurd h4 hg⟩
      clear hg
      unfold Roll.Goes
      simp only [Lrd9, List.getD_cons_zero, List.getD_cons_succ]
      generalize Roll.putD Drd9 vs [6, 4] b0 = a1 at *
      refine Roll.goes_val (w' := p) (.int .i64 (i : Int)) rfl ?_ ⟨hI, Below.refl _ _, rfl⟩
      (have ⟨ec, ef⟩ := opn_a a1); generalize a1.eval = ρ at *
      clear h6 h4
      go_simp <;> (intros; first | (exfalso; omega) | rfl | omega)
     ·intro vs p hI hp
      have h5 : (vs 5) = .int .i64 (i : Int) := hp 5 (by simp [Lrd9])
      have h7 : (vs 7) = .int .i64 (i : Int) := hp 7 (by simp [Lrd9])
      have h4 : (vs 4) = .bool false := hp 4 (by simp [Lrd9])
      have e53 : (Roll.putD Drd9 vs [5, 7, 4] b0).eval (.tmp 53) = .int .i64 (i : Int) := (Roll.eval_new 5 rfl (by decide) (by decide) (by omega)).trans h5
      have e55 : (Roll.putD Drd9 vs [5, 7, 4] b0).eval (.tmp 55) = .int .i64 (i : Int) := (Roll.eval_new 7 rfl (by decide) (by decide) (by omega)).trans h7
      clear hp hlv hN
      refine ⟨fun hg => ?_, fun hg => absurd h4 hg⟩
      clear hg
      unfold Roll.Goes
      simp only [Lrd9, List.getD_cons_zero, List.getD_cons_succ]
      generalize Roll.putD Drd9 vs [5, 7, 4] b0 = a1 at *
      have f0 := HIN.out
      refine Roll.goes_val (w' := p) (.bool false) rfl ?_ ⟨hI, Below.refl _ _, rfl⟩
      (have ⟨ec, ef⟩ := opn_a a1); generalize a1.eval = ρ at *
      clear h5 h7 h4
      go_simp <;> (intros; first | (exfalso; omega) | rfl | omega)
     ·intro vs p hI hp
      have h8 : (vs 8) = .bool false := hp 8 (by simp [Lrd9])
      have h4 : (vs 4) = .bool false := hp 4 (by simp [Lrd9])
      have e56 : (Roll.putD Drd9 vs [8, 4] b0).eval (.tmp 56) = .bool false := (Roll.eval_new 8 rfl (by decide) (by decide) (by omega)).trans h8
      clear hp hlv hN
      refine ⟨fun hg => ?_, fun hg => absurd h4 hg⟩
      clear hg
      unfold Roll.Goes
      simp only [Lrd9, List.getD_cons_zero, List.getD_cons_succ]
      generalize Roll.putD Drd9 vs [8, 4] b0 = a1 at *
      refine Roll.goes_val (w' := p) (.bool false) rfl ?_ ⟨hI, Below.refl _ _, rfl⟩
      (have ⟨ec, ef⟩ := opn_a a1); generalize a1.eval = ρ at *
      clear h8 h4
      go_simp <;> (intros; first | (exfalso; omega) | rfl | omega)
     ·intro vs p hI hp
      have h9 : (vs 9) = .bool false := hp 9 (by simp [Lrd9])
      have e0 : (Roll.putD Drd9 vs [9] b0).eval (.tmp 0) = .slice a i c := (Roll.eval_old rfl).trans (hlv.at 0 (0, .slice a i c) rfl)
      clear hp hlv hN
      exact ⟨fun hg => absurd (h9.symm.trans hg) (by simp), fun hg => ⟨Below.refl _ _, rfl⟩⟩
     ·intro vs p hI hp
      have h9 : (vs 9) = .bool false := hp 9 (by simp [Lrd9])
      have e6 : (Roll.putD Drd9 vs [9] b0).eval (.tmp 6) = .int .i64 (i : Int) := (Roll.eval_old rfl).trans (hlv.at 3 (6, .int .i64 (i : Int)) rfl)
      clear hp hlv hN
      exact ⟨fun hg => absurd (h9.symm.trans hg) (by simp), fun hg => ⟨Below.refl _ _, rfl⟩⟩
     ·intro vs p hI hp
      have h9 : (vs 9) = .bool false := hp 9 (by simp [Lrd9])
      have e0 : (Roll.putD Drd9 vs [9] b0).eval (.tmp 0) = .slice a i c := (Roll.eval_old rfl).trans (hlv.at 0 (0, .slice a i c) rfl)
      clear hp hlv hN
      exact ⟨fun hg => absurd (h9.symm.trans hg) (by simp), fun hg => ⟨Below.refl _ _, rfl⟩⟩
     ·intro vs p hI hp
      have h12 : (vs 12) = undef := hp 12 (by simp [Lrd9])
      have h9 : (vs 9) = .bool false := hp 9 (by simp [Lrd9])
      have e60 : (Roll.putD Drd9 vs [12, 9] b0).eval (.tmp 60) = undef := (Roll.eval_new 12 rfl (by decide) (by decide) (by omega)).trans h12
      clear hp hlv hN
      exact ⟨fun hg => absurd (h9.symm.trans hg) (by simp), fun hg => ⟨Below.refl _ _, rfl⟩⟩
     ·intro vs p hI hp
      have h13 : (vs 13) = undef := hp 13 (by simp [Lrd9])
      have h9 : (vs 9) = .bool false := hp 9 (by simp [Lrd9])
      have e61 : (Roll.putD Drd9 vs [13, 9] b0).eval (.tmp 61) = undef := (Roll.eval_new 13 rfl (by decide) (by decide) (by omega)).trans h13
      clear hp hlv hN
      exact ⟨fun hg => absurd (h9.symm.trans hg) (by simp), fun hg => ⟨Below.refl _ _, rfl⟩⟩
     ·intro vs p hI hp
      have h11 : (vs 11) = undef := hp 11 (by simp [Lrd9])
      have h14 : (vs 14) = undef := hp 14 (by simp [Lrd9])
      have h9 : (vs 9) = .bool false := hp 9 (by simp [Lrd9])
      have e59 : (Roll.putD Drd9 vs [11, 14, 9] b0).eval (.tmp 59) = undef := (Roll.eval_new 11 rfl (by decide) (by decide) (by omega)).trans h11
      have e62 : (Roll.putD Drd9 vs [11, 14, 9] b0).eval (.tmp 62) = undef := (Roll.eval_new 14 rfl (by decide) (by decide) (by omega)).trans h14
      clear hp hlv hN
      exact ⟨fun hg => absurd (h9.symm.trans hg) (by simp), fun hg => ⟨Below.refl _ _, rfl⟩⟩
     ·intro vs p hI hp
      have h10 : (vs 10) = undef := hp 10 (by simp [Lrd9])
      have h15 : (vs 15) = undef := hp 15 (by simp [Lrd9])
      have h9 : (vs 9) = .bool false := hp 9 (by simp [Lrd9])
      have e58 : (Roll.putD Drd9 vs [10, 15, 9] b0).eval (.tmp 58) = undef := (Roll.eval_new 10 rfl (by decide) (by decide) (by omega)).trans h10
      have e63 : (Roll.putD Drd9 vs [10, 15, 9] b0).eval (.tmp 63) = undef := (Roll.eval_new 15 rfl (by decide) (by decide) (by omega)).trans h15
      clear hp hlv hN
      exact ⟨fun hg => absurd (h9.symm.trans hg) (by simp), fun hg => ⟨Below.refl _ _, rfl⟩⟩
     ·intro vs p hI hp
      have h16 : (vs 16) = undef := hp 16 (by simp [Lrd9])
      have h9 : (vs 9) = .bool false := hp 9 (by simp [Lrd9])
      have e64 : (Roll.putD Drd9 vs [16, 9] b0).eval (.tmp 64) = undef := (Roll.eval_new 16 rfl (by decide) (by decide) (by omega)).trans h16
      clear hp hlv hN
      exact ⟨fun hg => absurd (h9.symm.trans hg) (by simp), fun hg => ⟨Below.refl _ _, rfl⟩⟩
     ·intro vs p hI hp
      have h17 : (vs 17) = undef := hp 17 (by simp [Lrd9])
      have h9 : (vs 9) = .bool false := hp 9 (by simp [Lrd9])
      have e65 : (Roll.putD Drd9 vs [17, 9] b0).eval (.tmp 65) = undef := (Roll.eval_new 17 rfl (by decide) (by decide) (by omega)).trans h17
      clear hp hlv hN
      exact ⟨fun hg => absurd (h9.symm.trans hg) (by simp), fun hg => ⟨Below.refl _ _, rfl⟩⟩
     ·intro vs p hI hp
      have h9 : (vs 9) = .bool false := hp 9 (by simp [Lrd9])
      have e1 : (Roll.putD Drd9 vs [9] b0).eval (.tmp 1) = .slice (some ⟨bb, ob, none⟩) m e := (Roll.eval_old rfl).trans (hlv.at 1 (1, .slice (some ⟨bb, ob, none⟩) m e) rfl)
      clear hp hlv hN
      exact ⟨fun hg => absurd (h9.symm.trans hg) (by simp), fun hg => ⟨Below.refl _ _, rfl⟩⟩
     ·intro vs p hI hp
      have h9 : (vs 9) = .bool false := hp 9 (by simp [Lrd9])
      have e7 : (Roll.putD Drd9 vs [9] b0).eval (.tmp 7) = .int .i64 (k : Int) := (Roll.eval_old rfl).trans (hlv.at 4 (7, .int .i64 (k : Int)) rfl)
      clear hp hlv hN
      exact ⟨fun hg => absurd (h9.symm.trans hg) (by simp), fun hg => ⟨Below.refl _ _, rfl⟩⟩
     ·intro vs p hI hp
      have h9 : (vs 9) = .bool false := hp 9 (by simp [Lrd9])
      have e1 : (Roll.putD Drd9 vs [9] b0).eval (.tmp 1) = .slice (some ⟨bb, ob, none⟩) m e := (Roll.eval_old rfl).trans (hlv.at 1 (1, .slice (some ⟨bb, ob, none⟩) m e) rfl)
      clear hp hlv hN
      exact ⟨fun hg => absurd (h9.symm.trans hg) (by simp), fun hg => ⟨Below.refl _ _, rfl⟩⟩
     ·intro vs p hI hp
      have h21 : (vs 21) = undef := hp 21 (by simp [Lrd9])
      have h9 : (vs 9) = .bool false := hp 9 (by simp [Lrd9])
      have e69 : (Roll.putD Drd9 vs [21, 9] b0).eval (.tmp 69) = undef := (Roll.eval_new 21 rfl (by decide) (by decide) (by omega)).trans h21
      clear hp hlv hN
      exact ⟨fun hg => absurd (h9.symm.trans hg) (by simp), fun hg => ⟨Below.refl _ _, rfl⟩⟩
     ·intro vs p hI hp
      have h22 : (vs 22) = undef := hp 22 (by simp [Lrd9])
      have h9 : (vs 9) = .bool false := hp 9 (by simp [Lrd9])
      have e70 : (Roll.putD Drd9 vs [22, 9] b0).eval (.tmp 70) = undef := (Roll.eval_new 22 rfl (by decide) (by decide) (by omega)).trans h22
      clear hp hlv hN
      exact ⟨fun hg => absurd (h9.symm.trans hg) (by simp), fun hg => ⟨Below.refl _ _, rfl⟩⟩
     ·intro vs p hI hp
      have h20 : (vs 20) = undef := hp 20 (by simp [Lrd9])
      have h23 : (vs 23) = undef := hp 23 (by simp [Lrd9])
      have h9 : (vs 9) = .bool false := hp 9 (by simp [Lrd9])
      have e68 : (Roll.putD Drd9 vs [20, 23, 9] b0).eval (.tmp 68) = undef := (Roll.eval_new 20 rfl (by decide) (by decide) (by omega)).trans h20
      have e71 : (Roll.putD Drd9 vs [20, 23, 9] b0).eval (.tmp 71) = undef := (Roll.eval_new 23 rfl (by decide) (by decide) (by omega)).trans h23
      clear hp hlv hN
      exact ⟨fun hg => absurd (h9.symm.trans hg) (by simp), fun hg => ⟨Below.refl _ _, rfl⟩⟩
     ·intro vs p hI hp
      have h19 : (vs 19) = undef := hp 19 (by simp [Lrd9])
      have h24 : (vs 24) = undef := hp 24 (by simp [Lrd9])
      have h9 : (vs 9) = .bool false := hp 9 (by simp [Lrd9])
      have e67 : (Roll.putD Drd9 vs [19, 24, 9] b0).eval (.tmp 67) = undef := (Roll.eval_new 19 rfl (by decide) (by decide) (by omega)).trans h19
      have e72 : (Roll.putD Drd9 vs [19, 24, 9] b0).eval (.tmp 72) = undef := (Roll.eval_new 24 rfl (by decide) (by decide) (by omega)).trans h24
      clear hp hlv hN
      exact ⟨fun hg => absurd (h9.symm.trans hg) (by simp), fun hg => ⟨Below.refl _ _, rfl⟩⟩
     ·intro vs p hI hp
      have h25 : (vs 25) = undef := hp 25 (by simp [Lrd9])
      have h9 : (vs 9) = .bool false := hp 9 (by simp [Lrd9])
      have e73 : (Roll.putD Drd9 vs [25, 9] b0).eval (.tmp 73) = undef := (Roll.eval_new 25 rfl (by decide) (by decide) (by omega)).trans h25
      clear hp hlv hN
      exact ⟨fun hg => absurd (h9.symm.trans hg) (by simp), fun hg => ⟨Below.refl _ _, rfl⟩⟩
     ·intro vs p hI hp
      have h26 : (vs 26) = undef := hp 26 (by simp [Lrd9])
      have h9 : (vs 9) = .bool false := hp 9 (by simp [Lrd9])
      have e74 : (Roll.putD Drd9 vs [26, 9] b0).eval (.tmp 74) = undef := (Roll.eval_new 26 rfl (by decide) (by decide) (by omega)).trans h26
      clear hp hlv hN
      exact ⟨fun hg => absurd (h9.symm.trans hg) (by simp), fun hg => ⟨Below.refl _ _, rfl⟩⟩
     ·intro vs p hI hp
      have h18 : (vs 18) = undef := hp 18 (by simp [Lrd9])
      have h27 : (vs 27) = undef := hp 27 (by simp [Lrd9])
      have h9 : (vs 9) = .bool false := hp 9 (by simp [Lrd9])
      have e66 : (Roll.putD Drd9 vs [18, 27, 9] b0).eval (.tmp 66) = undef := (Roll.eval_new 18 rfl (by decide) (by decide) (by omega)).trans h18
      have e75 : (Roll.putD Drd9 vs [18, 27, 9] b0).eval (.tmp 75) = undef := (Roll.eval_new 27 rfl (by decide) (by decide) (by omega)).trans h27
      clear hp hlv hN
      exact ⟨fun hg => absurd (h9.symm.trans hg) (by simp), fun hg => ⟨Below.refl _ _, rfl⟩⟩
     ·intro vs p hI hp
      have h9 : (vs 9) = .bool false := hp 9 (by simp [Lrd9])
      have h28 : (vs 28) = undef := hp 28 (by simp [Lrd9])
      have h4 : (vs 4) = .bool false := hp 4 (by simp [Lrd9])
      have e57 : (Roll.putD Drd9 vs [9, 28, 4] b0).eval (.tmp 57) = .bool false := (Roll.eval_new 9 rfl (by decide) (by decide) (by omega)).trans h9
      have e76 : (Roll.putD Drd9 vs [9, 28, 4] b0).eval (.tmp 76) = undef := (Roll.eval_new 28 rfl (by decide) (by decide) (by omega)).trans h28
      clear hp hlv hN
      refine ⟨fun hg => ?_, fun hg => absurd h4 hg⟩
      clear hg
      unfold Roll.Goes
      simp only [Lrd9, List.getD_cons_zero, List.getD_cons_succ]
      generalize Roll.putD Drd9 vs [9, 28, 4] b0 = a1 at *
      refine Roll.goes_val (w' := p) (.bool false) rfl ?_ ⟨hI, Below.refl _ _, rfl⟩
      (have ⟨ec, ef⟩ := opn_a a1); generalize a1.eval = ρ at *
      clear h9 h28 h4
      go_simp <;> (intros; first | (exfalso; omega) | rfl | omega)
     ·intro vs p hI hp
      have h4 : (vs 4) = .bool false := hp 4 (by simp [Lrd9])
      have h29 : (vs 29) = .bool false := hp 29 (by simp [Lrd9])
      have e52 : (Roll.putD Drd9 vs [4, 29] b0).eval (.tmp 52) = .bool false := (Roll.eval_new 4 rfl (by decide) (by decide) (by omega)).trans h4
      have e77 : (Roll.putD Drd9 vs [4, 29] b0).eval (.tmp 77) = .bool false := (Roll.eval_new 29 rfl (by decide) (by decide) (by omega)).trans h29
      clear hp hlv hN
      unfold Roll.Goes
      simp only [Lrd9, List.getD_cons_zero, List.getD_cons_succ]
      generalize Roll.putD Drd9 vs [4, 29] b0 = a1 at *
      refine Roll.goes_val (w' := p) (.bool false) rfl ?_ ⟨hI, Below.refl _ _, rfl⟩
      (have ⟨ec, ef⟩ := opn_a a1); generalize a1.eval = ρ at *
      clear h4 h29
      go_simp <;> (intros; first | (exfalso; omega) | rfl | omega)
     ·intro vs p hI hp
      have h30 : (vs 30) = .bool false := hp 30 (by simp [Lrd9])
      have e78 : (Roll.putD Drd9 vs [30] b0).eval (.tmp 78) = .bool false := (Roll.eval_new 30 rfl (by decide) (by decide) (by omega)).trans h30
      clear hp hlv hN
      unfold Roll.Goes
      simp only [Lrd9, List.getD_cons_zero, List.getD_cons_succ]
      generalize Roll.putD Drd9 vs [30] b0 = a1 at *
      refine Roll.goes_val (w' := p) (.bool false) rfl ?_ ⟨hI, Below.refl _ _, rfl⟩
      (have ⟨ec, ef⟩ := opn_a a1); generalize a1.eval = ρ at *
      clear h30
      go_simp <;> (intros; first | (exfalso; omega) | rfl | omega)
    ·intro vs p hI hR
     have h0 : (vs 0) = .int .i64 (k : Int) := hR 0 (by omega)
     have h1 : (vs 1) = .slice (some ⟨bb, ob, none⟩) m e := hR 1 (by omega)
     have h2 : (vs 2) = .int .i64 (m : Int) := hR 2 (by omega)
     have h3 : (vs 3) = .bool false := hR 3 (by omega)
     have h4 : (vs 4) = .bool false := hR 4 (by omega)
     have h5 : (vs 5) = .int .i64 (i : Int) := hR 5 (by omega)
     have h6 : (vs 6) = .slice a i c := hR 6 (by omega)
     have h7 : (vs 7) = .int .i64 (i : Int) := hR 7 (by omega)
     have h8 : (vs 8) = .bool false := hR 8 (by omega)
     have h9 : (vs 9) = .bool false := hR 9 (by omega)
     have h10 : (vs 10) = undef := hR 10 (by omega)
     have h11 : (vs 11) = undef := hR 11 (by omega)
     have h12 : (vs 12) = undef := hR 12 (by omega)
     have h13 : (vs 13) = undef := hR 13 (by omega)
     have h14 : (vs 14) = undef := hR 14 (by omega)
     have h15 : (vs 15) = undef := hR 15 (by omega)
     have h16 : (vs 16) = undef := hR 16 (by omega)
     have h17 : (vs 17) = undef := hR 17 (by omega)
     have h18 : (vs 18) = undef := hR 18 (by omega)
     have h19 : (vs 19) = undef := hR 19 (by omega)
     have h20 : (vs 20) = undef := hR 20 (by omega)
     have h21 : (vs 21) = undef := hR 21 (by omega)
     have h22 : (vs 22) = undef := hR 22 (by omega)
     have h23 : (vs 23) = undef := hR 23 (by omega)
     have h24 : (vs 24) = undef := hR 24 (by omega)
     have h25 : (vs 25) = undef := hR 25 (by omega)
     have h26 : (vs 26) = undef := hR 26 (by omega)
     have h27 : (vs 27) = undef := hR 27 (by omega)
     have h28 : (vs 28) = undef := hR 28 (by omega)
     have h29 : (vs 29) = .bool false := hR 29 (by omega)
     have h30 : (vs 30) = .bool false := hR 30 (by omega)
     have h31 : (vs 31) = .bool false := hR 31 (by omega)
     clear hR
     simp only [List.range_succ, List.range_zero, List.nil_append, List.cons_append, Roll.putD, Act.put, List.getD_cons_zero, List.getD_cons_succ, List.setIfInBounds_toArray, List.set_cons_zero, List.set_cons_succ, List.drop_succ_cons, List.drop_zero, Drd9]
     simp only [h0, h1, h2, h3, h4, h5, h6, h7, h8, h9, h10, h11, h12, h13, h14, h15, h16, h17, h18, h19, h20, h21, h22, h23, h24, h25, h26, h27, h28, h29, h30, h31]
     clear h0 h1 h2 h3 h4 h5 h6 h7 h8 h9 h10 h11 h12 h13 h14 h15 h16 h17 h18 h19 h20 h21 h22 h23 h24 h25 h26 h27 h28 h29 h30 h31
     obtain ⟨p9, hp9⟩ : ∃ z, z = p := ⟨_, rfl⟩
     subst hp9
     have HI9 := Lib.hid hI
     clear hI
     apply wpList_nil
     go_step
     go_step
     go_wp2_with fail
     have HB := Lib.hid (HB.out.trans (HI9.out.mono HB.out.size))
     have HOW := Lib.hid (show Own p9 61 3 v0.ownBlock v0 es.length (ecells es) ∧ ∀ j, v0.ownBlock = some j → w.heap.size ≤ j from ⟨HOW.out.1.kept (Kept.of_below (fun _ => False) HI9.out) (fun _ _ h => h), HOW.out.2⟩)
     have HROW := Lib.hid (ownsRow_below HROW.out HI9.out)
     have HCB : Hid (p9.cell? ⟨bb, pb, none⟩ = some (.string y.k)) := Lib.hid ((HI9.out.cell (p := ⟨bb, pb, none⟩) HLB.out).trans HCB.out)
     have HCB1 : Hid (p9.cell? ⟨bb, pb + 1, none⟩ = some (.string y.v)) := Lib.hid ((HI9.out.cell (p := ⟨bb, pb + 1, none⟩) HLB.out).trans HCB1.out)
     have HLB : Hid (bb < p9.heap.size) := Lib.hid (Nat.lt_of_lt_of_le HLB.out HI9.out.size)
     obtain ⟨wr, hwr⟩ : ∃ z, z = p9 := ⟨_, rfl⟩
     subst hwr
     clear HI9
     have HINE : Hid ((i : Int) = (i : Int)) := Lib.hid rfl
     refine Roll.region_f 18 125 Drd12 Lrd12 [(0, .slice a i c), (1, .slice (some ⟨bb, ob, none⟩) m e), (5, v0), (6, .int .i64 (i : Int)), (7, .int .i64 (k : Int))] (fun p => Below wr.heap.size wr p) (fun p p2 => Below p.heap.size p p2) [fun vv p => vv = .int .i64 (i : Int), fun vv p => vv = .slice a i c, fun vv p => vv = .int .i64 (i : Int), fun vv p => vv = .bool true, fun vv p => vv = .bool true, fun vv p => vv = undef, fun vv p => vv = undef, fun vv p => vv = undef, fun vv p => vv = undef, fun vv p => vv = undef, fun vv p => vv = undef, fun vv p => vv = undef, fun vv p => vv = undef, fun vv p => vv = undef, fun vv p => vv = undef, fun vv p => vv = undef, fun vv p => vv = .bool true, fun vv p => vv = .bool true] (by kernel_rfl) (by kernel_rfl) rfl ⟨rfl, rfl, rfl, rfl, rfl, trivial⟩ ((Below.refl _ _).drew) ?_ ?_ ?_
     ·exact ⟨fun _ _ _ _ h => h, fun _ _ _ _ h => h, fun _ _ _ _ h => h, fun _ _ _ _ h => h, fun _ _ _ _ h => h, fun _ _ _ _ h => h, fun _ _ _ _ h => h, fun _ _ _ _ h => h, fun _ _ _ _ h => h, fun _ _ _ _ h => h, fun _ _ _ _ h => h, fun _ _ _ _ h => h, fun _ _ _ _ h => h, fun _ _ _ _ h => h, fun _ _ _ _ h => h, fun _ _ _ _ h => h, fun _ _ _ _ h => h, fun _ _ _ _ h => h, trivial⟩
     ·intro b0 hN hlv
      refine ⟨?_, ?_, ?_, ?_, ?_, ?_, ?_, ?_, ?_, ?_, ?_, ?_, ?_, ?_, ?_, ?_, ?_, ?_, trivial⟩
      ·intro vs p hI hp
       have e6 : (Roll.putD Drd12 vs [] b0).eval (.tmp 6) = .int .i64 (i : Int) := (Roll.eval_old rfl).trans (hlv.at 3 (6, .int .i64 (i : Int)) rfl)
       clear hp hlv hN
       unfold Roll.Goes
       simp only [Lrd12, List.getD_cons_zero, List.getD_cons_succ]
       generalize Roll.putD Drd12 vs [] b0 = a1 at *
       refine Roll.goes_val (w' := p) (.int .i64 (i : Int)) rfl ?_ ⟨hI, Below.refl _ _, rfl⟩
       (have ⟨ec, ef⟩ := opn_a a1); generalize a1.eval = ρ at *
       skip
       go_simp <;> (intros; first | (exfalso; omega) | rfl | omega)
      ·intro vs p hI hp
       have e0 : (Roll.putD Drd12 vs [] b0).eval (.tmp 0) = .slice a i c := (Roll.eval_old rfl).trans (hlv.at 0 (0, .slice a i c) rfl)
       clear hp hlv hN
       unfold Roll.Goes
       simp only [Lrd12, List.getD_cons_zero, List.getD_cons_succ]
       generalize Roll.putD Drd12 vs [] b0 = a1 at *
       refine Roll.goes_val (w' := p) (.slice a i c) rfl ?_ ⟨hI, Below.refl _ _, rfl⟩
       (have ⟨ec, ef⟩ := opn_a a1); generalize a1.eval = ρ at *
       skip
       go_simp <;> (intros; first | (exfalso; omega) | rfl | omega)
      ·intro vs p hI hp
       have h1 : (vs 1) = .slice a i c := hp 1 (by simp [Lrd12])
       have e92 : (Roll.putD Drd12 vs [1] b0).eval (.tmp 92) = .slice a i c := (Roll.eval_new 1 rfl (by decide) (by decide) (by omega)).trans h1
       clear hp hlv hN
       unfold Roll.Goes
       simp only [Lrd12, List.getD_cons_zero, List.getD_cons_succ]
       generalize Roll.putD Drd12 vs [1] b0 = a1 at *
       refine Roll.goes_val (w' := p) (.int .i64 (i : Int)) rfl ?_ ⟨hI, Below.refl _ _, rfl⟩
       (have ⟨ec, ef⟩ := opn_a a1); generalize a1.eval = ρ at *
       clear h1
       go_simp <;> (intros; first | (exfalso; omega) | rfl | omega)
      ·intro vs p hI hp
       have h0 : (vs 0) = .int .i64 (i : Int) := hp 0 (by simp [Lrd12])
       have h2 : (vs 2) = .int .i64 (i : Int) := hp 2 (by simp [Lrd12])
       have e91 : (Roll.putD Drd12 vs [0, 2] b0).eval (.tmp 91) = .int .i64 (i : Int) := (Roll.eval_new 0 rfl (by decide) (by decide) (by omega)).trans h0
       have e93 : (Roll.putD Drd12 vs [0, 2] b0).eval (.tmp 93) = .int .i64 (i : Int) := (Roll.eval_new 2 rfl (by decide) (by decide) (by omega)).trans h2
       clear hp hlv hN
       unfold Roll.Goes
       simp only [Lrd12, List.getD_cons_zero, List.getD_cons_succ]
       generalize Roll.putD Drd12 vs [0, 2] b0 = a1 at *
       have f0 := HINE.out
       refine Roll.goes_val (w' := p) (.bool true) rfl ?_ ⟨hI, Below.refl _ _, rfl⟩
       (have ⟨ec, ef⟩ := opn_a a1); generalize a1.eval = ρ at *
       clear h0 h2
       go_simp <;> (intros; first | (exfalso; omega) | rfl | omega)
      ·intro vs p hI hp
       have h3 : (vs 3) = .bool true := hp 3 (by simp [Lrd12])
       have e94 : (Roll.putD Drd12 vs [3] b0).eval (.tmp 94) = .bool true := (Roll.eval_new 3 rfl (by decide) (by decide) (by omega)).trans h3
       clear hp hlv hN
       unfold Roll.Goes
       simp only [Lrd12, List.getD_cons_zero, List.getD_cons_succ]
       generalize Roll.putD Drd12 vs [3] b0 = a1 at *
       refine Roll.goes_val (w' := p) (.bool true) rfl ?_ ⟨hI, Below.refl _ _, rfl⟩
       (have ⟨ec, ef⟩ := opn_a a1); generalize a1.eval = ρ at *
       clear h3
       go_simp <;> (intros; first | (exfalso; omega) | rfl | omega)
      ·intro vs p hI hp
       have h4 : (vs 4) = .bool true := hp 4 (by simp [Lrd12])
       have e1 : (Roll.putD Drd12 vs [4] b0).eval (.tmp 1) = .slice (some ⟨bb, ob, none⟩) m e := (Roll.eval_old rfl).trans (hlv.at 1 (1, .slice (some ⟨bb, ob, none⟩) m e) rfl)
       clear hp hlv hN
       exact ⟨fun hg => absurd (h4.symm.trans hg) (by simp), fun hg => ⟨Below.refl _ _, rfl⟩⟩
      ·intro vs p hI hp
       have h4 : (vs 4) = .bool true := hp 4 (by simp [Lrd12])
       have e7 : (Roll.putD Drd12 vs [4] b0).eval (.tmp 7) = .int .i64 (k : Int) := (Roll.eval_old rfl).trans (hlv.at 4 (7, .int .i64 (k : Int)) rfl)
       clear hp hlv hN
       exact ⟨fun hg => absurd (h4.symm.trans hg) (by simp), fun hg => ⟨Below.refl _ _, rfl⟩⟩
      ·intro vs p hI hp
       have h5 : (vs 5) = undef := hp 5 (by simp [Lrd12])
       have h6 : (vs 6) = undef := hp 6 (by simp [Lrd12])
       have h4 : (vs 4) = .bool true := hp 4 (by simp [Lrd12])
       have e96 : (Roll.putD Drd12 vs [5, 6, 4] b0).eval (.tmp 96) = undef := (Roll.eval_new 5 rfl (by decide) (by decide) (by omega)).trans h5
       have e97 : (Roll.putD Drd12 vs [5, 6, 4] b0).eval (.tmp 97) = undef := (Roll.eval_new 6 rfl (by decide) (by decide) (by omega)).trans h6
       clear hp hlv hN
       exact ⟨fun hg => absurd (h4.symm.trans hg) (by simp), fun hg => ⟨Below.refl _ _, rfl⟩⟩
      ·intro vs p hI hp
       have h7 : (vs 7) = undef := hp 7 (by simp [Lrd12])
       have h4 : (vs 4) = .bool true := hp 4 (by simp [Lrd12])
       have e98 : (Roll.putD Drd12 vs [7, 4] b0).eval (.tmp 98) = undef := (Roll.eval_new 7 rfl (by decide) (by decide) (by omega)).trans h7
       clear hp hlv hN
       exact ⟨fun hg => absurd (h4.symm.trans hg) (by simp), fun hg => ⟨Below.refl _ _, rfl⟩⟩
      ·intro vs p hI hp
       have h8 : (vs 8) = undef := hp 8 (by simp [Lrd12])
       have h4 : (vs 4) = .bool true := hp 4 (by simp [Lrd12])
       have e99 : (Roll.putD Drd12 vs [8, 4] b0).eval (.tmp 99) = undef := (Roll.eval_new 8 rfl (by decide) (by decide) (by omega)).trans h8
       clear hp hlv hN
       exact ⟨fun hg => absurd (h4.symm.trans hg) (by simp), fun hg => ⟨Below.refl _ _, rfl⟩⟩
      ·intro vs p hI hp
       have h4 : (vs 4) = .bool true := hp 4 (by simp [Lrd12])
       have e0 : (Roll.putD Drd12 vs [4] b0).eval (.tmp 0) = .slice a i c := (Roll.eval_old rfl).trans (hlv.at 0 (0, .slice a i c) rfl)
       clear hp hlv hN
       exact ⟨fun hg => absurd (h4.symm.trans hg) (by simp), fun hg => ⟨Below.refl _ _, rfl⟩⟩
      ·intro vs p hI hp
       have h4 : (vs 4) = .bool true := hp 4 (by simp [Lrd12])
       have e6 : (Roll.putD Drd12 vs [4] b0).eval (.tmp 6) = .int .i64 (i : Int) := (Roll.eval_old rfl).trans (hlv.at 3 (6, .int .i64 (i : Int)) rfl)
       clear hp hlv hN
       exact ⟨fun hg => absurd (h4.symm.trans hg) (by simp), fun hg => ⟨Below.refl _ _, rfl⟩⟩
      ·intro vs p hI hp
       have h10 : (vs 10) = undef := hp 10 (by simp [Lrd12])
       have h11 : (vs 11) = undef := hp 11 (by simp [Lrd12])
       have h4 : (vs 4) = .bool true := hp 4 (by simp [Lrd12])
       have e101 : (Roll.putD Drd12 vs [10, 11, 4] b0).eval (.tmp 101) = undef := (Roll.eval_new 10 rfl (by decide) (by decide) (by omega)).trans h10
       have e102 : (Roll.putD Drd12 vs [10, 11, 4] b0).eval (.tmp 102) = undef := (Roll.eval_new 11 rfl (by decide) (by decide) (by omega)).trans h11
       clear hp hlv hN
       exact ⟨fun hg => absurd (h4.symm.trans hg) (by simp), fun hg => ⟨Below.refl _ _, rfl⟩⟩
      ·intro vs p hI hp
       have h12 : (vs 12) = undef := hp 12 (by simp [Lrd12])
       have h4 : (vs 4) = .bool true := hp 4 (by simp [Lrd12])
       have e103 : (Roll.putD Drd12 vs [12, 4] b0).eval (.tmp 103) = undef := (Roll.eval_new 12 rfl (by decide) (by decide) (by omega)).trans h12
       clear hp hlv hN
       exact ⟨fun hg => absurd (h4.symm.trans hg) (by simp), fun hg => ⟨Below.refl _ _, rfl⟩⟩
      ·intro vs p hI hp
       have h13 : (vs 13) = undef := hp 13 (by simp [Lrd12])
       have h4 : (vs 4) = .bool true := hp 4 (by simp [Lrd12])
       have e104 : (Roll.putD Drd12 vs [13, 4] b0).eval (.tmp 104) = undef := (Roll.eval_new 13 rfl (by decide) (by decide) (by omega)).trans h13
       clear hp hlv hN
       exact ⟨fun hg => absurd (h4.symm.trans hg) (by simp), fun hg => ⟨Below.refl _ _, rfl⟩⟩
      ·intro vs p hI hp
       have h9 : (vs 9) = undef := hp 9 (by simp [Lrd12])
       have h14 : (vs 14) = undef := hp 14 (by simp [Lrd12])
       have h4 : (vs 4) = .bool true := hp 4 (by simp [Lrd12])
       have e100 : (Roll.putD Drd12 vs [9, 14, 4] b0).eval (.tmp 100) = undef := (Roll.eval_new 9 rfl (by decide) (by decide) (by omega)).trans h9
       have e105 : (Roll.putD Drd12 vs [9, 14, 4] b0).eval (.tmp 105) = undef := (Roll.eval_new 14 rfl (by decide) (by decide) (by omega)).trans h14
       clear hp hlv hN
       exact ⟨fun hg => absurd (h4.symm.trans hg) (by simp), fun hg => ⟨Below.refl _ _, rfl⟩⟩
      ·intro vs p hI hp
       have h4 : (vs 4) = .bool true := hp 4 (by simp [Lrd12])
       have h15 : (vs 15) = undef := hp 15 (by simp [Lrd12])
       have e95 : (Roll.putD Drd12 vs [4, 15] b0).eval (.tmp 95) = .bool true := (Roll.eval_new 4 rfl (by decide) (by decide) (by omega)).trans h4
       have e106 : (Roll.putD Drd12 vs [4, 15] b0).eval (.tmp 106) = undef := (Roll.eval_new 15 rfl (by decide) (by decide) (by omega)).trans h15
       clear hp hlv hN
       unfold Roll.Goes
       simp only [Lrd12, List.getD_cons_zero, List.getD_cons_succ]
       generalize Roll.putD Drd12 vs [4, 15] b0 = a1 at *
       refine Roll.goes_val (w' := p) (.bool true) rfl ?_ ⟨hI, Below.refl _ _, rfl⟩
       (have ⟨ec, ef⟩ := opn_a a1); generalize a1.eval = ρ at *
       clear h4 h15
       go_simp <;> (intros; first | (exfalso; omega) | rfl | omega)
      ·intro vs p hI hp
       have h16 : (vs 16) = .bool true := hp 16 (by simp [Lrd12])
       have e107 : (Roll.putD Drd12 vs [16] b0).eval (.tmp 107) = .bool true := (Roll.eval_new 16 rfl (by decide) (by decide) (by omega)).trans h16
       clear hp hlv hN
       unfold Roll.Goes
       simp only [Lrd12, List.getD_cons_zero, List.getD_cons_succ]
       generalize Roll.putD Drd12 vs [16] b0 = a1 at *
       refine Roll.goes_val (w' := p) (.bool true) rfl ?_ ⟨hI, Below.refl _ _, rfl⟩
       (have ⟨ec, ef⟩ := opn_a a1); generalize a1.eval = ρ at *
       clear h16
       go_simp <;> (intros; first | (exfalso; omega) | rfl | omega)
     ·intro vs p hI hR
      have h0 : (vs 0) = .int .i64 (i : Int) := hR 0 (by omega)
      have h1 : (vs 1) = .slice a i c := hR 1 (by omega)
      have h2 : (vs 2) = .int .i64 (i : Int) := hR 2 (by omega)
      have h3 : (vs 3) = .bool true := hR 3 (by omega)
      have h4 : (vs 4) = .bool true := hR 4 (by omega)
      have h5 : (vs 5) = undef := hR 5 (by omega)
      have h6 : (vs 6) = undef := hR 6 (by omega)
      have h7 : (vs 7) = undef := hR 7 (by omega)
      have h8 : (vs 8) = undef := hR 8 (by omega)
      have h9 : (vs 9) = undef := hR 9 (by omega)
      have h10 : (vs 10) = undef := hR 10 (by omega)
      have h11 : (vs 11) = undef := hR 11 (by omega)
      have h12 : (vs 12) = undef := hR 12 (by omega)
      have h13 : (vs 13) = undef := hR 13 (by omega)
      have h14 : (vs 14) = undef := hR 14 (by omega)
      have h15 : (vs 15) = undef := hR 15 (by omega)
      have h16 : (vs 16) = .bool true := hR 16 (by omega)
      have h17 : (vs 17) = .bool true := hR 17 (by omega)
      clear hR
      simp only [List.range_succ, List.range_zero, List.nil_append, List.cons_append, Roll.putD, Act.put, List.getD_cons_zero, List.getD_cons_succ, List.setIfInBounds_toArray, List.set_cons_zero, List.set_cons_succ, List.drop_succ_cons, List.drop_zero, Drd12]
      simp only [h0, h1, h2, h3, h4, h5, h6, h7, h8, h9, h10, h11, h12, h13, h14, h15, h16, h17]
      clear h0 h1 h2 h3 h4 h5 h6 h7 h8 h9 h10 h11 h12 h13 h14 h15 h16 h17
      obtain ⟨p9, hp9⟩ : ∃ z, z = p := ⟨_, rfl⟩
      subst hp9
      have HI9 := Lib.hid hI
      clear hI
      apply wpList_nil
      go_step
      go_step
      go_wp2_with fail
      have HB := Lib.hid (HB.out.trans (HI9.out.mono HB.out.size))
      have HOW := Lib.hid (show Own p9 61 3 v0.ownBlock v0 es.length (ecells es) ∧ ∀ j, v0.ownBlock = some j → w.heap.size ≤ j from ⟨HOW.out.1.kept (Kept.of_below (fun _ => False) HI9.out) (fun _ _ h => h), HOW.out.2⟩)
      have HROW := Lib.hid (ownsRow_below HROW.out HI9.out)
      have HCB : Hid (p9.cell? ⟨bb, pb, none⟩ = some (.string y.k)) := Lib.hid ((HI9.out.cell (p := ⟨bb, pb, none⟩) HLB.out).trans HCB.out)
      have HCB1 : Hid (p9.cell? ⟨bb, pb + 1, none⟩ = some (.string y.v)) := Lib.hid ((HI9.out.cell (p := ⟨bb, pb + 1, none⟩) HLB.out).trans HCB1.out)
      have HLB : Hid (bb < p9.heap.size) := Lib.hid (Nat.lt_of_lt_of_le HLB.out HI9.out.size)
      obtain ⟨wr, hwr⟩ : ∃ z, z = p9 := ⟨_, rfl⟩
      subst hwr
      clear HI9
      have HNB : Hid (¬ v0.ownBlock = some bb) := Lib.hid (fun e => by have h1 := HOW.out.2 bb e; have := HLB0.out; omega)
      refine Roll.region_v 14 125 Drd13 Lrd13 [(0, .slice a i c), (1, .slice (some ⟨bb, ob, none⟩) m e), (5, v0), (6, .int .i64 (i : Int)), (7, .int .i64 (k : Int))] 13 [true, true, true, true, true, true, true, true, true, true, true, true, false, false] (fun p => Below wr.heap.size wr p) (fun vv p => ∃ p8 k', Below wr.heap.size wr p8 ∧ Own p 61 3 k' vv (es.length + 1) (ecells es ++ ecells [setE y]) ∧ (∀ j, k' = some j → v0.ownBlock = some j ∨ wr.heap.size ≤ j) ∧ Kept (fun j => v0.ownBlock = some j) p8 p) (fun p => Kept (fun j => v0.ownBlock = some j) wr p) (fun p p2 => Kept (fun j => v0.ownBlock = some j) p p2) [fun vv p => (vv 0) = v0, fun vv p => (vv 1) = .slice (some ⟨bb, ob, none⟩) m e, fun vv p => (vv 2) = .int .i64 (k : Int), fun vv p => (vv 3) = .pointer (some ⟨bb, pb, none⟩), fun vv p => (vv 4) = .pointer (some ⟨bb, pb, none⟩), fun vv p => (vv 5) = .string y.k, fun vv p => (vv 6) = .slice (some ⟨bb, ob, none⟩) m e, fun vv p => (vv 7) = .int .i64 (k : Int), fun vv p => (vv 8) = .pointer (some ⟨bb, pb, none⟩), fun vv p => (vv 9) = .pointer (some ⟨bb, pb + 1, none⟩), fun vv p => (vv 10) = .string y.v, fun vv p => (vv 11) = .agg #[.string y.k, .string y.v, .bool false], fun vv p => ∃ x, (vv 12) = .slice (some ⟨x, 0, none⟩) 1 1 ∧ wr.heap.size ≤ x ∧ p.heap[x]? = some (.cells #[.string y.k, .string y.v, .bool false] 61 (0, 0)), fun vv p => True] (by kernel_rfl) (by kernel_rfl) rfl ⟨rfl, rfl, rfl, rfl, rfl, trivial⟩ ((Below.refl _ _).drew) (by decide) (by kernel_rfl) (fun _ h => Kept.of_below _ h) (fun _ _ h => by obtain ⟨_, _, h1, _, _, h4⟩ := h; exact (Kept.of_below _ h1).trans h4 (fun _ _ h => h)) (fun _ => Kept.refl _ _) ?_ ?_ ?_
      ·exact ⟨fun _ _ _ _ h => h, fun _ _ _ _ h => h, fun _ _ _ _ h => h, fun _ _ _ _ h => h, fun _ _ _ _ h => h, fun _ _ _ _ h => h, fun _ _ _ _ h => h, fun _ _ _ _ h => h, fun _ _ _ _ h => h, fun _ _ _ _ h => h, fun _ _ _ _ h => h, fun _ _ _ _ h => h, fun _ _ _ hs h => by obtain ⟨x, e1, e2, e3⟩ := h; exact ⟨x, e1, e2, hs.heap e3 (fun e => by have := HOW.out.1.lt x e; omega)⟩, fun _ _ _ _ h => h, trivial⟩
      ·intro b0 hN hlv
       refine ⟨?_, ?_, ?_, ?_, ?_, ?_, ?_, ?_, ?_, ?_, ?_, ?_, ?_, ?_, trivial⟩
       ·intro vs p hI0 hp
        have hI := Roll.inw_pure (by decide) rfl hI0
        clear hI0
        have e5 : (Roll.putD Drd13 vs [] b0).eval (.tmp 5) = v0 := (Roll.eval_old rfl).trans (hlv.at 2 (5, v0) rfl)
        clear hp hlv hN
        unfold Roll.Goes
        simp only [Lrd13, List.getD_cons_zero, List.getD_cons_succ]
        generalize Roll.putD Drd13 vs [] b0 = a1 at *
        refine Roll.goes_val (w' := p) (v0) rfl ?_ ⟨(Roll.outw_pure (by decide) rfl), rfl⟩
        (have ⟨ec, ef⟩ := opn_a a1); generalize a1.eval = ρ at *
        skip
        go_simp <;> (intros; first | (exfalso; omega) | rfl | omega)
       ·intro vs p hI0 hp
        have hI := Roll.inw_pure (by decide) rfl hI0
        clear hI0
        have e1 : (Roll.putD Drd13 vs [] b0).eval (.tmp 1) = .slice (some ⟨bb, ob, none⟩) m e := (Roll.eval_old rfl).trans (hlv.at 1 (1, .slice (some ⟨bb, ob, none⟩) m e) rfl)
        clear hp hlv hN
        unfold Roll.Goes
        simp only [Lrd13, List.getD_cons_zero, List.getD_cons_succ]
        generalize Roll.putD Drd13 vs [] b0 = a1 at *
        refine Roll.goes_val (w' := p) (.slice (some ⟨bb, ob, none⟩) m e) rfl ?_ ⟨(Roll.outw_pure (by decide) rfl), rfl⟩
        (have ⟨ec, ef⟩ := opn_a a1); generalize a1.eval = ρ at *
        skip
        go_simp <;> (intros; first | (exfalso; omega) | rfl | omega)
       ·intro vs p hI0 hp
        have hI := Roll.inw_pure (by decide) rfl hI0
        clear hI0
        have e7 : (Roll.putD Drd13 vs [] b0).eval (.tmp 7) = .int .i64 (k : Int) := (Roll.eval_old rfl).trans (hlv.at 4 (7, .int .i64 (k : Int)) rfl)
        clear hp hlv hN
        unfold Roll.Goes
        simp only [Lrd13, List.getD_cons_zero, List.getD_cons_succ]
        generalize Roll.putD Drd13 vs [] b0 = a1 at *
        refine Roll.goes_val (w' := p) (.int .i64 (k : Int)) rfl ?_ ⟨(Roll.outw_pure (by decide) rfl), rfl⟩
        (have ⟨ec, ef⟩ := opn_a a1); generalize a1.eval = ρ at *
        skip
        go_simp <;> (intros; first | (exfalso; omega) | rfl | omega)
       ·intro vs p hI0 hp
        have hI := Roll.inw_pure (by decide) rfl hI0
        clear hI0
        have h1 : (vs 1) = .slice (some ⟨bb, ob, none⟩) m e := hp 1 (by simp [Lrd13])
        have h2 : (vs 2) = .int .i64 (k : Int) := hp 2 (by simp [Lrd13])
        have e109 : (Roll.putD Drd13 vs [1, 2] b0).eval (.tmp 109) = .slice (some ⟨bb, ob, none⟩) m e := (Roll.eval_new 1 rfl (by decide) (by decide) (by omega)).trans h1
        have e110 : (Roll.putD Drd13 vs [1, 2] b0).eval (.tmp 110) = .int .i64 (k : Int) := (Roll.eval_new 2 rfl (by decide) (by decide) (by omega)).trans h2
        clear hp hlv hN
        unfold Roll.Goes
        simp only [Lrd13, List.getD_cons_zero, List.getD_cons_succ]
        generalize Roll.putD Drd13 vs [1, 2] b0 = a1 at *
        have f0 := HKN.out
        have f1 := HPB.out
        have f2 := HK0.out
        refine Roll.goes_val (w' := p) (.pointer (some ⟨bb, pb, none⟩)) rfl ?_ ⟨(Roll.outw_pure (by decide) rfl), rfl⟩
        (have ⟨ec, ef⟩ := opn_a a1); generalize a1.eval = ρ at *
        clear h1 h2
        go_simp <;> (intros; first | (exfalso; omega) | rfl | omega)
       ·intro vs p hI0 hp
        have hI := Roll.inw_pure (by decide) rfl hI0
        clear hI0
        have h3 : (vs 3) = .pointer (some ⟨bb, pb, none⟩) := hp 3 (by simp [Lrd13])
        have e111 : (Roll.putD Drd13 vs [3] b0).eval (.tmp 111) = .pointer (some ⟨bb, pb, none⟩) := (Roll.eval_new 3 rfl (by decide) (by decide) (by omega)).trans h3
        clear hp hlv hN
        unfold Roll.Goes
        simp only [Lrd13, List.getD_cons_zero, List.getD_cons_succ]
        generalize Roll.putD Drd13 vs [3] b0 = a1 at *
        refine Roll.goes_val (w' := p) (.pointer (some ⟨bb, pb, none⟩)) rfl ?_ ⟨(Roll.outw_pure (by decide) rfl), rfl⟩
        (have ⟨ec, ef⟩ := opn_a a1); generalize a1.eval = ρ at *
        clear h3
        go_simp <;> (intros; first | (exfalso; omega) | rfl | omega)
       ·intro vs p hI0 hp
        have hI := Roll.inw_pure (by decide) rfl hI0
        clear hI0
        have h4 : (vs 4) = .pointer (some ⟨bb, pb, none⟩) := hp 4 (by simp [Lrd13])
        have e112 : (Roll.putD Drd13 vs [4] b0).eval (.tmp 112) = .pointer (some ⟨bb, pb, none⟩) := (Roll.eval_new 4 rfl (by decide) (by decide) (by omega)).trans h4
        clear hp hlv hN
        unfold Roll.Goes
        simp only [Lrd13, List.getD_cons_zero, List.getD_cons_succ]
        generalize Roll.putD Drd13 vs [4] b0 = a1 at *
        have cf : p.cell? ⟨bb, pb, none⟩ = some (.string y.k) := (hI.cell (p := ⟨bb, pb, none⟩) HLB.out HNB.out).trans HCB.out
        refine Roll.goes_val (w' := p) (.string y.k) rfl ?_ ⟨(Roll.outw_pure (by decide) rfl), rfl⟩
        (have ⟨ec, ef⟩ := opn_a a1); generalize a1.eval = ρ at *
        clear h4
        go_simp <;> (intros; first | (exfalso; omega) | rfl | omega)
       ·intro vs p hI0 hp
        have hI := Roll.inw_pure (by decide) rfl hI0
        clear hI0
        have e1 : (Roll.putD Drd13 vs [] b0).eval (.tmp 1) = .slice (some ⟨bb, ob, none⟩) m e := (Roll.eval_old rfl).trans (hlv.at 1 (1, .slice (some ⟨bb, ob, none⟩) m e) rfl)
        clear hp hlv hN
        unfold Roll.Goes
        simp only [Lrd13, List.getD_cons_zero, List.getD_cons_succ]
        generalize Roll.putD Drd13 vs [] b0 = a1 at *
        refine Roll.goes_val (w' := p) (.slice (some ⟨bb, ob, none⟩) m e) rfl ?_ ⟨(Roll.outw_pure (by decide) rfl), rfl⟩
        (have ⟨ec, ef⟩ := opn_a a1); generalize a1.eval = ρ at *
        skip
        go_simp <;> (intros; first | (exfalso; omega) | rfl | omega)
       ·intro vs p hI0 hp
        have hI := Roll.inw_pure (by decide) rfl hI0
        clear hI0
        have e7 : (Roll.putD Drd13 vs [] b0).eval (.tmp 7) = .int .i64 (k : Int) := (Roll.eval_old rfl).trans (hlv.at 4 (7, .int .i64 (k : Int)) rfl)
        clear hp hlv hN
        unfold Roll.Goes
        simp only [Lrd13, List.getD_cons_zero, List.getD_cons_succ]
        generalize Roll.putD Drd13 vs [] b0 = a1 at *
        refine Roll.goes_val (w' := p) (.int .i64 (k : Int)) rfl ?_ ⟨(Roll.outw_pure (by decide) rfl), rfl⟩
        (have ⟨ec, ef⟩ := opn_a a1); generalize a1.eval = ρ at *
        skip
        go_simp <;> (intros; first | (exfalso; omega) | rfl | omega)
       ·intro vs p hI0 hp
        have hI := Roll.inw_pure (by decide) rfl hI0
        clear hI0
        have h6 : (vs 6) = .slice (some ⟨bb, ob, none⟩) m e := hp 6 (by simp [Lrd13])
        have h7 : (vs 7) = .int .i64 (k : Int) := hp 7 (by simp [Lrd13])
        have e114 : (Roll.putD Drd13 vs [6, 7] b0).eval (.tmp 114) = .slice (some ⟨bb, ob, none⟩) m e := (Roll.eval_new 6 rfl (by decide) (by decide) (by omega)).trans h6
        have e115 : (Roll.putD Drd13 vs [6, 7] b0).eval (.tmp 115) = .int .i64 (k : Int) := (Roll.eval_new 7 rfl (by decide) (by decide) (by omega)).trans h7
        clear hp hlv hN
        unfold Roll.Goes
        simp only [Lrd13, List.getD_cons_zero, List.getD_cons_succ]
        generalize Roll.putD Drd13 vs [6, 7] b0 = a1 at *
        have f0 := HKN.out
        have f1 := HPB.out
        have f2 := HK0.out
        refine Roll.goes_val (w' := p) (.pointer (some ⟨bb, pb, none⟩)) rfl ?_ ⟨(Roll.outw_pure (by decide) rfl), rfl⟩
        (have ⟨ec, ef⟩ := opn_a a1); generalize a1.eval = ρ at *
        clear h6 h7
        go_simp <;> (intros; first | (exfalso; omega) | rfl | omega)
       ·intro vs p hI0 hp
        have hI := Roll.inw_pure (by decide) rfl hI0
        clear hI0
        have h8 : (vs 8) = .pointer (some ⟨bb, pb, none⟩) := hp 8 (by simp [Lrd13])
        have e116 : (Roll.putD Drd13 vs [8] b0).eval (.tmp 116) = .pointer (some ⟨bb, pb, none⟩) := (Roll.eval_new 8 rfl (by decide) (by decide) (by omega)).trans h8
        clear hp hlv hN
        unfold Roll.Goes
        simp only [Lrd13, List.getD_cons_zero, List.getD_cons_succ]
        generalize Roll.putD Drd13 vs [8] b0 = a1 at *
        refine Roll.goes_val (w' := p) (.pointer (some ⟨bb, pb + 1, none⟩)) rfl ?_ ⟨(Roll.outw_pure (by decide) rfl), rfl⟩
        (have ⟨ec, ef⟩ := opn_a a1); generalize a1.eval = ρ at *
        clear h8
        go_simp <;> (intros; first | (exfalso; omega) | rfl | omega)
       ·intro vs p hI0 hp
        have hI := Roll.inw_pure (by decide) rfl hI0
        clear hI0
        have h9 : (vs 9) = .pointer (some ⟨bb, pb + 1, none⟩) := hp 9 (by simp [Lrd13])
        have e117 : (Roll.putD Drd13 vs [9] b0).eval (.tmp 117) = .pointer (some ⟨bb, pb + 1, none⟩) := (Roll.eval_new 9 rfl (by decide) (by decide) (by omega)).trans h9
        clear hp hlv hN
        unfold Roll.Goes
        simp only [Lrd13, List.getD_cons_zero, List.getD_cons_succ]
        generalize Roll.putD Drd13 vs [9] b0 = a1 at *
        have cf : p.cell? ⟨bb, pb + 1, none⟩ = some (.string y.v) := (hI.cell (p := ⟨bb, pb + 1, none⟩) HLB.out HNB.out).trans HCB1.out
        refine Roll.goes_val (w' := p) (.string y.v) rfl ?_ ⟨(Roll.outw_pure (by decide) rfl), rfl⟩
        (have ⟨ec, ef⟩ := opn_a a1); generalize a1.eval = ρ at *
        clear h9
        go_simp <;> (intros; first | (exfalso; omega) | rfl | omega)
       ·intro vs p hI0 hp
        have hI := Roll.inw_pure (by decide) rfl hI0
        clear hI0
        have h5 : (vs 5) = .string y.k := hp 5 (by simp [Lrd13])
        have h10 : (vs 10) = .string y.v := hp 10 (by simp [Lrd13])
        have e113 : (Roll.putD Drd13 vs [5, 10] b0).eval (.tmp 113) = .string y.k := (Roll.eval_new 5 rfl (by decide) (by decide) (by omega)).trans h5
        have e118 : (Roll.putD Drd13 vs [5, 10] b0).eval (.tmp 118) = .string y.v := (Roll.eval_new 10 rfl (by decide) (by decide) (by omega)).trans h10
        clear hp hlv hN
        unfold Roll.Goes
        simp only [Lrd13, List.getD_cons_zero, List.getD_cons_succ]
        generalize Roll.putD Drd13 vs [5, 10] b0 = a1 at *
        refine Roll.goes_val (w' := p) (.agg #[.string y.k, .string y.v, .bool false]) rfl ?_ ⟨(Roll.outw_pure (by decide) rfl), rfl⟩
        (have ⟨ec, ef⟩ := opn_a a1); generalize a1.eval = ρ at *
        clear h5 h10
        go_simp <;> (intros; first | (exfalso; omega) | rfl | omega)
       ·intro vs p hI0 hp
        have hI := Roll.inw_pre (by decide) rfl hI0
        clear hI0
        have h11 : (vs 11) = .agg #[.string y.k, .string y.v, .bool false] := hp 11 (by simp [Lrd13])
        have e119 : (Roll.putD Drd13 vs [11] b0).eval (.tmp 119) = .agg #[.string y.k, .string y.v, .bool false] := (Roll.eval_new 11 rfl (by decide) (by decide) (by omega)).trans h11
        clear hp hlv hN
        unfold Roll.Goes
        simp only [Lrd13, List.getD_cons_zero, List.getD_cons_succ]
        generalize Roll.putD Drd13 vs [11] b0 = a1 at *
        have hal : Below p.heap.size p (p.alloc (.cells #[.string y.k, .string y.v, .bool false] 61)) := (Below.refl _ _).alloc (Nat.le_refl _) _
        refine Roll.goes_val (w' := p.alloc (.cells #[.string y.k, .string y.v, .bool false] 61)) (.slice (some ⟨p.heap.size, 0, none⟩) 1 1) rfl (by have ec : ∀ x, a1.eval (.const x) = x := fun _ => rfl; have ef : ∀ x, a1.eval (.func x) = .func (.func x) #[] #[] := fun _ => rfl; generalize a1.eval = ρ at *; go_simp <;> (intros; first | (exfalso; omega) | rfl)) ⟨Roll.outw_pre (by decide) rfl (hI.trans (hal.mono hI.size)) (Kept.of_below _ hal), p.heap.size, rfl, hI.size, heap_new rfl⟩
       ·intro vs p hI0 hp
        have hI := Roll.inw_k0 rfl hI0
        clear hI0
        have h0 : (vs 0) = v0 := hp 0 (by simp [Lrd13])
        have h12 : ∃ x, (vs 12) = .slice (some ⟨x, 0, none⟩) 1 1 ∧ wr.heap.size ≤ x ∧ p.heap[x]? = some (.cells #[.string y.k, .string y.v, .bool false] 61 (0, 0)) := hp 12 (by simp [Lrd13])
        have e108 : (Roll.putD Drd13 vs [0, 12] b0).eval (.tmp 108) = v0 := (Roll.eval_new 0 rfl (by decide) (by decide) (by omega)).trans h0
        have e120 : (Roll.putD Drd13 vs [0, 12] b0).eval (.tmp 120) = vs 12 := (Roll.eval_new 12 rfl (by decide) (by decide) (by omega))
        clear hp hlv hN
        unfold Roll.Goes
        simp only [Lrd13, List.getD_cons_zero, List.getD_cons_succ]
        generalize Roll.putD Drd13 vs [0, 12] b0 = a1 at *
        obtain ⟨z, hvz, hzz, hhz⟩ := h12
        rw [hvz] at e120
        refine wpList_append_any _ rfl (.tmp 108) (.tmp 120) _ _ rfl 61 i0 _ 3 40 Try.underlying56 hi hz0 hz1 hz2 rfl v0.ownBlock v0 es.length (ecells es) e108 (HOW.out.1.kept (Kept.of_below (fun _ => False) hI) (fun _ _ h => h)) 1 (ecells [setE y]) (by rw [e120]; exact one_src _ _ hhz) HBD.out.1 HBD.out.2 ?_
        intro k' v' w' ho' hf' hK' _
        exact ⟨v', rfl, Roll.outw_k0 rfl ⟨_, k', hI, ho', fun j hj => (hf' j hj).imp id (fun e => Nat.le_trans hI.size e), hK'⟩ hK', trivial⟩
      ·intro vs p hI hR
       have h0 : (vs 0) = v0 := hR 0 (by omega)
       have h1 : (vs 1) = .slice (some ⟨bb, ob, none⟩) m e := hR 1 (by omega)
       have h2 : (vs 2) = .int .i64 (k : Int) := hR 2 (by omega)
       have h3 : (vs 3) = .pointer (some ⟨bb, pb, none⟩) := hR 3 (by omega)
       have h4 : (vs 4) = .pointer (some ⟨bb, pb, none⟩) := hR 4 (by omega)
       have h5 : (vs 5) = .string y.k := hR 5 (by omega)
       have h6 : (vs 6) = .slice (some ⟨bb, ob, none⟩) m e := hR 6 (by omega)
       have h7 : (vs 7) = .int .i64 (k : Int) := hR 7 (by omega)
       have h8 : (vs 8) = .pointer (some ⟨bb, pb, none⟩) := hR 8 (by omega)
       have h9 : (vs 9) = .pointer (some ⟨bb, pb + 1, none⟩) := hR 9 (by omega)
       have h10 : (vs 10) = .string y.v := hR 10 (by omega)
       have h11 : (vs 11) = .agg #[.string y.k, .string y.v, .bool false] := hR 11 (by omega)
       have h12 : ∃ x, (vs 12) = .slice (some ⟨x, 0, none⟩) 1 1 ∧ wr.heap.size ≤ x ∧ p.heap[x]? = some (.cells #[.string y.k, .string y.v, .bool false] 61 (0, 0)) := hR 12 (by omega)
       have h13 : True := hR 13 (by omega)
       clear hR
       simp only [List.range_succ, List.range_zero, List.nil_append, List.cons_append, Roll.putD, Act.put, List.getD_cons_zero, List.getD_cons_succ, List.setIfInBounds_toArray, List.set_cons_zero, List.set_cons_succ, List.drop_succ_cons, List.drop_zero, Drd13]
       simp only [h0, h1, h2, h3, h4, h5, h6, h7, h8, h9, h10, h11]
       clear h0 h1 h2 h3 h4 h5 h6 h7 h8 h9 h10 h11
       clear h12 h13
       generalize vs 12 = v12 at *
       generalize vs 13 = v13 at *
       obtain ⟨p8, k', hb8, ho', hf', hK'⟩ := hI
       obtain ⟨hro9, hbe9⟩ := rd_app (e1 := setE y) HB.out HOW.out.2 hb8 ho' hf' hK'
       have HRO9 := Lib.hid hro9
       have HBE9 := Lib.hid hbe9
       clear hb8 ho' hf' hK' hro9 hbe9
       go_wp2_with fail
       go_roundw
       case rel =>
        refine ⟨i, k + 1, v13, es ++ [setE y], rfl, (by first | rfl | go_num), by go_num, (by have := HEL.out; omega), by have := HK2.out; omega, HRO9.out, ?_, by rw [List.length_append]; simp only [List.length_cons, List.length_nil]; have := HEL.out; omega, HBE9.out⟩
        have h := HD.out
        rw [HDX0.out, HDY.out, diffR, ← HDX0.out] at h
        rw [← h, List.append_assoc]
        all_goals rfl
       case measure => (try go_num); (try (simp only [intOf])); have := HK2.out; omega
   ·have hge2 : ¬ (k : Int) < (m : Int) := by omega
    have HE : Hid (es = diffR xs ys) := Lib.hid (by
     have h := HD.out
     have hk0 : ys.drop k = [] := List.drop_eq_nil_of_le (by rw [HYL.out]; omega)
     rw [HDX0.out, hk0, diffR, List.append_nil] at h
     exact h)
    clear hk2
    go_wp2_with fail
    go_ret
    exact ⟨v0, rfl, by rw [← HE.out]; exact HROW.out, HB.out⟩
end Go.Proofs.Ytfgmhidgkemfoaa

/-
  Texts DgB1, DgB2, DgB3, UE, L0, L1, L6, UF, UG, LA, LE, L2, L5, one behind the other.
-/
import Derived.WalkSpells
import Derived.WalkLawsBesides
import Derived.Deep.QuietTactic
import Derived.BigQuiet
import Derived.Deep.WholeRow
import Derived.StillTailTactics
import Derived.Laws.CopyOwn
import Derived.Deep.DeepCutAuto
import Derived.Laws.AppendOwnNone
import Derived.Lib.AppendZerosOnto
import Derived.Deep.RegionWith
import Derived.Deep.DrawnRows
import Derived.Deep.MidRow
import Derived.Deep.RegionHeld3
import Derived.WalkKit
import Derived.Lib.Hide
import Derived.Laws.AppendOwn
import Derived.Laws.OwnMore
import Derived.Deep.AppendSrc
import GoSem.Claim
import Derived.Orders
import Derived.Tactics
import Derived.Maps.RangeRun
import Derived.Maps.Range
import Derived.Maps.OwnOps
import Derived.Maps.RangeWalk
import Derived.Deep.Cut
import Derived.Carry
import Derived.Laws.BytesString
import Derived.ProofKit
import Derived.OpenShut
import Derived.Deep.Slices
import Derived.Deep.Fields
import Derived.JoinedCond
import Derived.Laws.ShiftsVarLaws
import Derived.Laws.BitsAllLaws
import Derived.Test.YthffegfcgmhppaaDoorRows
import Derived.Test.YthffegfcgmhppaaDoorZV503
namespace Go.Proofs.YthffegfcgmhppaaDoor.Dg
set_option maxRecDepth 100000
open Go.RowKit
attribute [local go_sem ↓] exec_at_zero exec_at_succ exec_sliceF exec_load8 exec_store8 exec_load64 Go.wp_at_zero Go.wp_at_succ
/-- a state: its cells, and that it is the state after some bytes -/
def dcells (hs : List (BitVec 32)) (a : Option Addr) (n c : Nat) (L : Int) : Array Value := (wvals hs ++ [Value.slice a n c, Value.int .i64 L]).toArray
def St (w : World) (v : Value) (l : List UInt8) : Prop := ∃ a c, v = .agg (dcells (absH H8 l) a (absR l).length c l.length) ∧ Bs w a (absR l).length c (absR l)
theorem St.below {w w' : World} {v : Value} {l : List UInt8} (h : St w v l) (hb : Below w.heap.size w w') : St w' v l := by
  obtain ⟨a, c, e, hB⟩ := h
  exact ⟨a, c, e, hB.below hb⟩
theorem dcells_size (hs : List (BitVec 32)) (a : Option Addr) (n c : Nat) (L : Int) (h : hs.length = 8) : (dcells hs a n c L).size = 10 := by simp [dcells, wvals, h]
theorem dcells_one (hs : List (BitVec 32)) (a : Option Addr) (n c : Nat) (L : Int) : (dcells hs a n c L).all (·.oneCell') = true := by
  simp [dcells, wvals, Value.oneCell']
theorem dcells_low (hs : List (BitVec 32)) (a : Option Addr) (n c : Nat) (L : Int) (j : Nat) (h : hs.length = 8) (hj : j < 8) : (dcells hs a n c L)[j]? = (wvals hs)[j]? := by
  unfold dcells
  rw [List.getElem?_toArray, List.getElem?_append_left (by rw [wvals_len, h]; exact hj)]
theorem dcells_8 (hs : List (BitVec 32)) (a : Option Addr) (n c : Nat) (L : Int) (h : hs.length = 8) : (dcells hs a n c L)[8]? = some (.slice a n c) := by
  unfold dcells
  rw [List.getElem?_toArray, List.getElem?_append_right (by rw [wvals_len, h]; omega), wvals_len, h]; rfl
theorem dcells_9 (hs : List (BitVec 32)) (a : Option Addr) (n c : Nat) (L : Int) (h : hs.length = 8) : (dcells hs a n c L)[9]? = some (.int .i64 L) := by
  unfold dcells
  rw [List.getElem?_toArray, List.getElem?_append_right (by rw [wvals_len, h]; omega), wvals_len, h]; rfl
/-- the cells of a state in a block -/
theorem dblock {w : World} {g : Nat} {hs : List (BitVec 32)} {a : Option Addr} {n c : Nat} {L : Int} {t : TypeId} (hg : w.heap[g]? = some (.cells (dcells hs a n c L) t (0, 0))) (h : hs.length = 8) :
    Row8 w g 0 ∧ row8 w g 0 = hs ∧ w.cell? ⟨g, 8, none⟩ = some (.slice a n c) ∧ w.cell? ⟨g, 9, none⟩ = some (.int .i64 L) := by
  have hr : w.rangeAt g 0 (wvals hs) := by
    intro j v hv
    have hj : j < 8 := by have := (List.getElem?_eq_some_iff.1 hv).1; rw [wvals_len, h] at this; exact this
    rw [Nat.zero_add, cell_of_row w g j _ _ _ hg, dcells_low _ _ _ _ _ _ h hj]; exact hv
  refine ⟨row8_mk h hr ?_, row8_of h hr, ?_, ?_⟩
  · intro j hj
    rw [Nat.zero_add]
    refine ⟨?_, frozen_of_row w g j _ _ hg⟩
    rw [cell_of_row w g j _ _ _ hg, dcells_low _ _ _ _ _ _ h hj, List.getElem?_eq_getElem (by rw [wvals_len, h]; exact hj)]; rfl
  · rw [cell_of_row w g 8 _ _ _ hg, dcells_8 _ _ _ _ _ h]
  · rw [cell_of_row w g 9 _ _ _ hg, dcells_9 _ _ _ _ _ h]
theorem zeros33 : (#[.int .u32 0, .int .u32 0, .int .u32 0, .int .u32 0, .int .u32 0, .int .u32 0, .int .u32 0, .int .u32 0, .slice none 0 0, .int .i64 0] : Array Value) = dcells (List.replicate 8 0) none 0 0 0 := by
  simp [dcells, wvals, wi, List.replicate]
theorem H8_len : H8.length = 8 := rfl
theorem absH_len (l : List UInt8) : (absH H8 l).length = 8 := absTo_len _ _ rfl _
/-- a block of eight words -/
def Blk8 (w : World) (g : Nat) : Prop := ∃ l : List (BitVec 32), l.length = 8 ∧ w.heap[g]? = some (.cells (wcells l) 93 (0, 0))
theorem Blk8_drew (w : World) (g : Nat) : Blk8 w.drew g ↔ Blk8 w g := by constructor <;> exact id
theorem Blk8_alloc (w : World) (o : Obj) (g : Nat) (h : Blk8 w g) : Blk8 (w.alloc o) g := by
  obtain ⟨l, hl, hg⟩ := h; exact ⟨l, hl, heap_old hg⟩
theorem Blk8_new (w : World) (g : Nat) (hg : g = w.heap.size) : Blk8 (w.alloc (.cells #[.int .u32 0, .int .u32 0, .int .u32 0, .int .u32 0, .int .u32 0, .int .u32 0, .int .u32 0, .int .u32 0] 93)) g :=
  ⟨List.replicate 8 0, by simp, by rw [zeros8]; exact heap_new hg⟩
theorem Blk8_keep {w w' : World} (hb : Below w.heap.size w w') : ∀ g, Blk8 w g → Blk8 w' g := fun g ⟨l, hl, hg⟩ => ⟨l, hl, (hb.block g (heap_lt hg)).trans hg⟩
theorem Blk8_row {w : World} {g : Nat} (h : Blk8 w g) : Row8 w g 0 := by
  obtain ⟨l, hl, hg⟩ := h
  refine row8_mk hl (fun j v hv => ?_) (fun j hj => ?_)
  · rw [Nat.zero_add, cell_of_row w g j _ _ _ hg, ← wvals_arr, List.getElem?_toArray]; exact hv
  · rw [Nat.zero_add]
    exact ⟨by rw [cell_of_row w g j _ _ _ hg, wcells_get l j (by omega)]; rfl, frozen_of_row w g j _ _ hg⟩
theorem run_store8r (w : World) (g : Nat) (l : List (BitVec 32)) (hl : l.length = 8) (h : Blk8 w g) : (store8A (.pointer (some ⟨g, 0, none⟩)) (.agg (wcells l))).run Tryd.prog w = .ok .skip (w.setRow g (wcells l)) := by
  obtain ⟨old, ho, hg⟩ := h
  unfold store8A
  simp only [Instr.storeAt, Instr.sureAddr, Sem.run_bind, Sem.run_pure, Result.andThen_ok, run_storeVar_row w g 93 93 _ (wcells l) hg (by rw [wcells_size, hl]; exact size8w) (by rw [wcells_size, wcells_size, ho, hl]) (wcells_one l)]
/-- a store into such a block turns no bytes -/
theorem Bs_setRow {w : World} {a : Option Addr} {n c : Nat} {l : List UInt8} (h : Bs w a n c l) {g : Nat} (hg : Blk8 w g) (cs : Array Value) : Bs (w.setRow g cs) a n c l := by
  obtain ⟨h1, h2, h3, h4, h5⟩ := h
  refine ⟨h1, h2, h3, h4, fun hn => ?_⟩
  obtain ⟨b, off, ha, hc⟩ := h5 hn
  have hbg : b ≠ g := by
    rintro rfl
    obtain ⟨old, ho, hgo⟩ := hg
    have := hc 0 hn
    rw [cell_of_row w b _ _ _ _ hgo] at this
    have hlt : off + 0 < (wcells old).size := (Array.getElem?_eq_some_iff.1 this).1
    rw [wcells_get old _ (by rw [wcells_size] at hlt; exact hlt)] at this
    simp at this
  refine ⟨b, off, ha, fun i hi => ?_⟩
  have : (w.setRow g cs).cell? ⟨b, off + i, none⟩ = w.cell? ⟨b, off + i, none⟩ := World.cell?_of_block (setRow_other w g b cs hbg)
  rw [this]; exact hc i hi
/-- slices.Concat of two pieces -/
theorem concat2_any (a1 : Option Addr) (n1 c1 : Nat) (l1 : List UInt8) (a2 : Option Addr) (n2 c2 : Nat) (l2 : List UInt8) (S : Nat) (t : TypeId) (w : World)
    (hS : w.heap[S]? = some (.cells #[.slice a1 n1 c1, .slice a2 n2 c2] t (0, 0))) (h1 : Bs w a1 n1 c1 l1) (h2 : Bs w a2 n2 c2 l2) (l : List UInt8) (hl : l = l1 ++ l2) (hn : l.length ≤ 140737488355328) :
    Calls Tryd.prog 59 #[.slice (some ⟨S, 0, none⟩) 2 2] w fun e w' => ∃ a c, e = .returned (.slice a l.length c) ∧ Bs w' a l.length c l ∧ Below w.heap.size w w' := by
  subst hl
  have hj : joined [⟨a1, n1, c1, l1⟩, ⟨a2, n2, c2, l2⟩] = l1 ++ l2 := by simp [joined]
  have := concat_any [⟨a1, n1, c1, l1⟩, ⟨a2, n2, c2, l2⟩] S w ⟨?_, ?_⟩ (heap_lt hS) (by simp) (by rw [hj]; exact hn)
  · rw [hj] at this; exact this
  · intro i hi
    rw [cell_of_row w S i _ _ _ hS]
    match i, hi with
    | 0, _ => rfl
    | 1, _ => rfl
  · intro p hp
    simp only [List.mem_cons, List.not_mem_nil, or_false] at hp
    rcases hp with rfl | rfl
    · exact h1
    · exact h2
theorem words8 {hs : List (BitVec 32)} (h : hs.length = 8) : ∃ a b c d e f g i, hs = [a, b, c, d, e, f, g, i] := by
  match hs, h with
  | [a, b, c, d, e, f, g, i], _ => exact ⟨a, b, c, d, e, f, g, i, rfl⟩
theorem run_build33' (w : World) (x0 x1 x2 x3 x4 x5 x6 x7 : BitVec 32) (a : Option Addr) (n c : Nat) (L : Int) :
    (Instr.build 95 #[(0, .agg (wcells [x0, x1, x2, x3, x4, x5, x6, x7])), (1, .slice a n c), (2, .int .i64 L)]).run Tryd.prog w = .ok (.agg (dcells [x0, x1, x2, x3, x4, x5, x6, x7] a n c L)) w := by kernel_rfl
def build33A (x y z : Value) : Sem Next := do pure (.value (← Instr.build 95 #[(0, x), (1, y), (2, z)]))
theorem exec_build33 (ρ : Operand → Value) (d : Option Tmp) (x y z : Operand) (ty : TypeId) (pos : String) (af : Array Edge) (gd : Option (Nat × Bool)) :
    execOp ρ { dst := d, op := .build 95 #[(0, x), (1, y), (2, z)], type := ty, pos := pos, after := af, guard := gd } = build33A (ρ x) (ρ y) (ρ z) := by
  unfold execOp build33A
  simp
theorem run_build33 (w : World) (hs : List (BitVec 32)) (h : hs.length = 8) (a : Option Addr) (n c : Nat) (L : Int) :
    (build33A (.agg (wcells hs)) (.slice a n c) (.int .i64 L)).run Tryd.prog w = .ok (.value (.agg (dcells hs a n c L))) w := by
  obtain ⟨x0, x1, x2, x3, x4, x5, x6, x7, rfl⟩ := words8 h
  unfold build33A
  simp only [Sem.run_bind, Sem.run_pure, run_build33', Result.andThen_ok]
def Blk33 (w : World) (g : Nat) : Prop := ∃ (hs : List (BitVec 32)) (a : Option Addr) (n c : Nat) (L : Int), hs.length = 8 ∧ w.heap[g]? = some (.cells (dcells hs a n c L) 95 (0, 0))
theorem Blk33_keep {w w' : World} (hb : Below w.heap.size w w') : ∀ g, Blk33 w g → Blk33 w' g := fun g ⟨hs, a, n, c, L, hl, hg⟩ => ⟨hs, a, n, c, L, hl, (hb.block g (heap_lt hg)).trans hg⟩
theorem Blk33_drew (w : World) (g : Nat) : Blk33 w.drew g ↔ Blk33 w g := by constructor <;> exact id
theorem Blk33_alloc (w : World) (o : Obj) (g : Nat) (h : Blk33 w g) : Blk33 (w.alloc o) g := by
  obtain ⟨hs, a, n, c, L, hl, hg⟩ := h; exact ⟨hs, a, n, c, L, hl, heap_old hg⟩
def store33A (v x : Value) : Sem Next := do Instr.storeAt 95 v x; pure .skip
theorem exec_store33 (ρ : Operand → Value) (d : Option Tmp) (x y : Operand) (ty : TypeId) (pos : String) (af : Array Edge) (gd : Option (Nat × Bool)) :
    execOp ρ { dst := d, op := .store 95 x y, type := ty, pos := pos, after := af, guard := gd } = store33A (ρ x) (ρ y) := rfl
theorem size33 : (Tryd.prog.info? 95).map (·.size) = some 10 := by kernel_rfl
theorem run_store33 (w : World) (g : Nat) (hs : List (BitVec 32)) (hl : hs.length = 8) (a : Option Addr) (n c : Nat) (L : Int) (h : Blk33 w g) :
    (store33A (.pointer (some ⟨g, 0, none⟩)) (.agg (dcells hs a n c L))).run Tryd.prog w = .ok .skip (w.setRow g (dcells hs a n c L)) := by
  obtain ⟨hs', a', n', c', L', hl', hg⟩ := h
  unfold store33A
  simp only [Instr.storeAt, Instr.sureAddr, Sem.run_bind, Sem.run_pure, Result.andThen_ok, run_storeVar_row w g 95 95 _ (dcells hs a n c L) hg (by rw [dcells_size _ _ _ _ _ hl]; exact size33) (by rw [dcells_size _ _ _ _ _ hl, dcells_size _ _ _ _ _ hl']) (dcells_one _ _ _ _ _)]
theorem Row8_alloc (w : World) (o : Obj) (g k : Nat) (h : Row8 w g k) : Row8 (w.alloc o) g k := (h.below ((Below.refl _ _).alloc (Nat.le_refl _) _)).1
theorem row8_alloc (w : World) (o : Obj) (g k : Nat) (h : Row8 w g k) : row8 (w.alloc o) g k = row8 w g k := (h.below ((Below.refl _ _).alloc (Nat.le_refl _) _)).2
attribute [local go_sem ↓] exec_build33 exec_store33
attribute [local go_sem] run_build33 run_store33 Blk33_drew Blk33_alloc Row8_alloc row8_alloc
attribute [local go_sem] run_load8 run_store8r Row8_drew row8_drew Blk8_drew Blk8_alloc Blk8_new
/-- what the first parts of Write rest on -/
theorem S_below {B : Nat} {hs : List (BitVec 32)} {x : Value} {w3 w' : World} {H : Nat} (hB : B = w3.heap.size) (h3 : Row8 w3 H 0 ∧ row8 w3 H 0 = hs ∧ w3.cell? ⟨H, 8, none⟩ = some x) (hb : Below B w3 w') :
    Row8 w' H 0 ∧ row8 w' H 0 = hs ∧ w'.cell? ⟨H, 8, none⟩ = some x ∧ Below B w3 w' := by
  subst hB
  obtain ⟨r, e, c⟩ := h3
  exact ⟨(r.below hb).1, (r.below hb).2.trans e, (hb.cell (p := ⟨H, 8, none⟩) (block_lt_of_cell c)).trans c, hb⟩
theorem Tabs_drew {w : World} (h : Tabs w) : Tabs w.drew := h
theorem Bs_drew {w : World} {a : Option Addr} {n c : Nat} {l : List UInt8} (h : Bs w a n c l) : Bs w.drew a n c l := h
theorem SK_alloc {A B C : Prop} {B3 : Nat} {w3 w : World} {o : Obj} (hB : B3 = w3.heap.size) (h : A ∧ B ∧ C ∧ Below B3 w3 w) : Below B3 w3 (w.alloc o) := h.2.2.2.alloc (by rw [hB]; exact h.2.2.2.size) _
theorem SK_alloc' {A B C : Prop} {B3 : Nat} {w3 w : World} {o : Obj} (hB : B3 = w3.heap.size) (h : A ∧ B ∧ C ∧ Below B3 w3 w.drew) : Below B3 w3 (w.alloc o).drew :=
  show Below B3 w3 (w.drew.alloc o) from h.2.2.2.alloc (by rw [hB]; exact h.2.2.2.size) _
theorem SK_call {A B C : Prop} {B3 : Nat} {w3 w w' : World} (hB : B3 = w3.heap.size) (hb : Below w.heap.size w w') (h : A ∧ B ∧ C ∧ Below B3 w3 w) : Below B3 w3 w' := h.2.2.2.trans (hb.mono (by rw [hB]; exact h.2.2.2.size))
theorem SK_row {A B C A' B' C' : Prop} {B3 : Nat} {w3 w x : World} {cs : Array Value} (hB : B3 = w3.heap.size) (hX : A' ∧ B' ∧ C' ∧ Below B3 w3 x) (h : A ∧ B ∧ C ∧ Below B3 w3 w) : Below B3 w3 (w.setRow x.heap.size cs) := Below_setRow h.2.2.2 (by rw [hB]; exact hX.2.2.2.size) _
theorem SK_row2 {A B C : Prop} {B3 g : Nat} {w3 w : World} {cs : Array Value} (h : A ∧ B ∧ C ∧ Below B3 w3 w) (hg : B3 ≤ g) : Below B3 w3 (w.setRow g cs) := Below_setRow h.2.2.2 hg _
theorem SK_size {A B C : Prop} {B3 : Nat} {w3 w w' : World} (hB : B3 = w3.heap.size) (hb : Below w.heap.size w w') (h : A ∧ B ∧ C ∧ Below B3 w3 w) : B3 ≤ w'.heap.size := by
  have := h.2.2.2.size; have := hb.size; omega
theorem SK_bs {A B C : Prop} {B3 : Nat} {w3 w : World} (hB : B3 = w3.heap.size) {a : Option Addr} {n c : Nat} {l : List UInt8} (hb : Bs w3 a n c l) (h : A ∧ B ∧ C ∧ Below B3 w3 w) : Bs w a n c l := hb.below (by rw [← hB]; exact h.2.2.2)
theorem SK_tabs {A B C : Prop} {B3 : Nat} {w3 w : World} (hB : B3 = w3.heap.size) (ht : Tabs w3) (h : A ∧ B ∧ C ∧ Below B3 w3 w) : Tabs w := ht.below h.2.2.2 (by rw [hB]; exact ht.2.2)
theorem Bs_take {w : World} {a : Option Addr} {n c : Nat} {l : List UInt8} (h : Bs w a n c l) (F : Nat) (hF : F ≤ n) : Bs w a F c (l.take F) := by
  obtain ⟨h1, h2, h3, h4, h5⟩ := h
  refine ⟨by rw [List.length_take]; omega, by omega, h3, h4, fun hp => ?_⟩
  obtain ⟨b, off, ha, hc⟩ := h5 (by omega)
  exact ⟨b, off, ha, fun i hi => by rw [byteAt_take _ _ _ hi]; exact hc i (by omega)⟩
theorem Bel_alloc {w w' : World} {o : Obj} (hb : Below (w.alloc o).drew.heap.size (w.alloc o).drew w') : Below w.heap.size w w' :=
  (((Below.refl _ _).alloc (Nat.le_refl _) o).drew).trans (hb.mono (by show w.heap.size ≤ (w.alloc o).heap.size; rw [size_alloc1]; omega))
theorem keep5 {w w' : World} {g k H j : Nat} {h2 : List (BitVec 32)} {x : Value} (r : Row8 w g 0) (e : row8 w g 0 = h2) (b : Blk33 w k) (c : w.cell? ⟨H, j, none⟩ = some x) (hb : Below w.heap.size w w') :
    Row8 w' g 0 ∧ row8 w' g 0 = h2 ∧ Blk33 w' k ∧ w'.cell? ⟨H, j, none⟩ = some x :=
  ⟨(r.below hb).1, (r.below hb).2.trans e, Blk33_keep hb _ b, cell_later hb c⟩
theorem W2 {W w3 : World} {B3 g n ac : Nat} {aa : Option Addr} {l : List UInt8} {new : List (BitVec 32)} (hg : Blk8 W g) (hl : new.length = 8) (hBs : Bs W aa n ac l) (hb : Below B3 w3 W) (hz : B3 ≤ g) :
    ∃ (g' : Nat) (aa' : Option Addr) (ac' : Nat), Value.pointer (some ⟨g, 0, none⟩) = .pointer (some ⟨g', 0, none⟩) ∧ Value.slice aa n ac = .slice aa' n ac' ∧ (W.setRow g (wcells new)).heap[g']? = some (.cells (wcells new) 93 (0, 0)) ∧ B3 ≤ g' ∧ Bs (W.setRow g (wcells new)) aa' n ac' l ∧ Below B3 w3 (W.setRow g (wcells new)) := by
  obtain ⟨old, ho, hgo⟩ := id hg
  exact ⟨g, aa, ac, rfl, rfl, setRow_heap _ _ _ _ _ _ hgo, hz, Bs_setRow hBs hg _, Below_setRow hb hz _⟩
theorem Bs_setRow33 {w : World} {a : Option Addr} {n c : Nat} {l : List UInt8} (h : Bs w a n c l) {g : Nat} (hg : Blk33 w g) (cs : Array Value) : Bs (w.setRow g cs) a n c l := by
  obtain ⟨h1, h2, h3, h4, h5⟩ := h
  refine ⟨h1, h2, h3, h4, fun hn => ?_⟩
  obtain ⟨b, off, ha, hc⟩ := h5 hn
  have hbg : b ≠ g := by
    rintro rfl
    obtain ⟨hs, a', n', c', L, ho, hgo⟩ := hg
    have := hc 0 hn
    rw [cell_of_row w b _ _ _ _ hgo] at this
    have := Array.mem_of_getElem? this
    simp [dcells, wvals] at this
  refine ⟨b, off, ha, fun i hi => ?_⟩
  have : (w.setRow g cs).cell? ⟨b, off + i, none⟩ = w.cell? ⟨b, off + i, none⟩ := World.cell?_of_block (setRow_other w g b cs hbg)
  rw [this]; exact hc i hi
theorem write_fin {l m T TF MR RT RM RR : List UInt8} {hs h1 h2 : List (BitVec 32)} {F : Nat} (eF : F = fillOf l m) (ehs : hs = absH H8 l) (eT : T = absR l) (eTF : TF = T ++ m.take F) (eM : MR = m.drop F)
    (e1 : h1 = absH hs TF) (e2 : h2 = absH h1 MR) (eRT : absR TF = RT) (eRM : absR MR = RM) (eR : RR = RT ++ RM) : absH H8 (l ++ m) = h2 ∧ absR (l ++ m) = RR := by
  subst eF ehs eT eTF eM e1 e2 eRT eRM eR
  exact ⟨(write_spec l m).1.symm, (write_spec l m).2.symm⟩
theorem write_out {l m RR : List UInt8} {h2 : List (BitVec 32)} {w' : World} {ca : Option Addr} {cc L n : Nat} {x : Int} (h : absH H8 (l ++ m) = h2 ∧ absR (l ++ m) = RR) (hB : Bs w' ca RR.length cc RR) (hL : L = l.length) (hn : m.length = n) (hx : x = (L : Int) + (n : Int)) {g : Nat} (hg : Blk33 w' g) :
    St (w'.setRow g (dcells h2 ca RR.length cc x)) (.agg (dcells h2 ca RR.length cc x)) (l ++ m) := by
  obtain ⟨rfl, rfl⟩ := h
  refine ⟨ca, cc, ?_, Bs_setRow33 hB hg _⟩
  rw [List.length_append, hn, ← hL, hx, Int.natCast_add]
set_option maxRecDepth 100000 in
set_option maxHeartbeats 2000000 in
theorem write_any (v : Value) (l : List UInt8) (a : Option Addr) (n c : Nat) (m : List UInt8) (w : World) (hT : Tabs w) (hS : St w v l) (hB : Bs w a n c m) (hn : l.length + m.length ≤ 70368744177664) :
    Calls Tryd.prog 41 #[v, .slice a n c] w fun e w' => ∃ v', e = .returned v' ∧ St w' v' (l ++ m) ∧ Below w.heap.size w w' := by
  obtain ⟨ta, tc, rfl, hTB⟩ := hS
  have hlH := absH_len l
  have hTl := absR_len l
  have hmn := hB.1
  have hTn := hTB.1
  obtain ⟨hs, hhs⟩ : ∃ hs, hs = absH H8 l := ⟨_, rfl⟩
  obtain ⟨T, hTT⟩ : ∃ T, T = absR l := ⟨_, rfl⟩
  obtain ⟨tn, htn⟩ : ∃ tn, tn = T.length := ⟨_, rfl⟩
  rw [← hhs] at hlH ⊢
  rw [← hTT] at hTB hTl hTn ⊢
  rw [← htn] at hTB hTl hTn ⊢
  have HT := Lib.hid hT
  have HB := Lib.hid hB
  have HTB := Lib.hid hTB
  have Hhs := Lib.hid hhs
  have HTT := Lib.hid hTT
  have Htn := Lib.hid htn
  have Hmn := Lib.hid hmn
  have HlH := Lib.hid hlH
  have t64 : tn < 64 := by omega
  have hz := hT.2.2
  clear hT hB hTB hhs hTT htn hmn hlH hTl hTn
  go_enter Tryd.func41, Tryd.ntmps41
  go_upto_region 1 with (fail)
  rw [zeros33]
  have h0 : ((w.alloc (.cells (dcells hs ta tn tc l.length) 95)).alloc (.cells (dcells (List.replicate 8 0) none 0 0 0) 95)).heap[w.heap.size]? = some (.cells (dcells hs ta tn tc l.length) 95 (0, 0)) := heap_old (heap_new rfl)
  have h1 : ((w.alloc (.cells (dcells hs ta tn tc l.length) 95)).alloc (.cells (dcells (List.replicate 8 0) none 0 0 0) 95)).heap[w.heap.size + 1]? = some (.cells (dcells (List.replicate 8 0) none 0 0 0) 95 (0, 0)) := heap_new (by simp only [size_alloc1])
  have hbel : Below w.heap.size w ((w.alloc (.cells (dcells hs ta tn tc l.length) 95)).alloc (.cells (dcells (List.replicate 8 0) none 0 0 0) 95)) := ((Below.refl _ _).alloc (Nat.le_refl _) _).alloc (by simp) _
  have hs2 : ((w.alloc (.cells (dcells hs ta tn tc l.length) 95)).alloc (.cells (dcells (List.replicate 8 0) none 0 0 0) 95)).heap.size = w.heap.size + 2 := by simp only [size_alloc1]
  generalize ((w.alloc (.cells (dcells hs ta tn tc l.length) 95)).alloc (.cells (dcells (List.replicate 8 0) none 0 0 0) 95)) = w3 at *
  obtain ⟨r8, e8, c8, c9⟩ := dblock h0 HlH.out
  have H1 := Lib.hid h1
  have HBel := Lib.hid hbel
  have Hs2 := Lib.hid hs2
  clear h0 h1 hbel hs2
  have hn2 : m.length ≤ 70368744177664 := by omega
  have hn3 : l.length ≤ 70368744177664 := by omega
  obtain ⟨L, hL⟩ : ∃ L, L = l.length := ⟨_, rfl⟩
  rw [← hL] at c9 hn3
  have HL := Lib.hid hL
  rw [← hL]
  rw [Hmn.out] at hn2
  clear hn hL
  obtain ⟨hp0, hp1⟩ := padI_bd (tn : Int) 0
  obtain ⟨p, hp⟩ := Int.eq_ofNat_of_zero_le hp0
  obtain ⟨F, hF⟩ : ∃ F, F = min n p := ⟨_, rfl⟩
  have hFill : F = fillOf l m := by rw [fillOf, ← HTT.out, ← Htn.out, hp, Int.toNat_natCast, Hmn.out]; exact hF
  have hFn : F ≤ n := by omega
  have Hp := Lib.hid hp
  have HFill := Lib.hid hFill
  clear hp hFill hp0 hp1
  go_cut [5] (fun x wx => x = .int .i64 (F : Int) ∧ w3 = wx)
  case first =>
    by_cases hnp : n ≤ p
    all_goals
      go_wp2_with (go_at_call 57; refine (padTo_any _ _ _ (by omega) (by omega) (by omega) (by omega)).mono ?_; rw [Hp.out]; rintro e w' ⟨rfl, rfl⟩)
      go_meet
      exact ⟨by simp only [Value.int.injEq, true_and]; omega, rfl⟩
  case rest =>
    obtain ⟨rfl, rfl⟩ := hcut
    have HFF := Lib.hid hF
    clear hF
    have hBn := HB.out.2.1
    have hBc := HB.out.2.2.1
    have hcap : c ≤ 9223372036854775807 := hBc
    go_upto_region 2 with (fail)
    obtain ⟨B3, hB3⟩ : ∃ B3, B3 = w3.heap.size := ⟨_, rfl⟩
    have hst := And.intro r8 (And.intro e8 c8)
    have hbT : Bs w3 ta tn tc T := HTB.out.below HBel.out
    have hbF : Bs w3 a F c (m.take F) := Bs_take (HB.out.below HBel.out) F hFn
    have htb : Tabs w3 := HT.out.below HBel.out hz
    obtain ⟨TF, hTF⟩ : ∃ TF, TF = T ++ m.take F := ⟨_, rfl⟩
    have hlen : TF.length ≤ 140737488355328 := by
      rw [hTF, List.length_append, List.length_take, ← Htn.out]; omega
    have HTF := Lib.hid hTF
    clear hTF
    have HbT := Lib.hid hbT
    have HbF := Lib.hid hbF
    have Hlen := Lib.hid hlen
    have Htb := Lib.hid htb
    have Hst := Lib.hid hst
    have HB3 := Lib.hid hB3
    have hal : (absH hs TF).length = 8 := absTo_len _ _ HlH.out _
    clear hbT hbF htb hlen hst hB3
    have z1 : (0 : Int) ≤ (F : Int) := by omega
    have z2 : (F : Int) ≤ (c : Int) := by omega
    go_cut [6, 7] (fun s6 s7 wx => ∃ (g : Nat) (aa : Option Addr) (ac : Nat), s6 = .pointer (some ⟨g, 0, none⟩) ∧ s7 = .slice aa (absR TF).length ac ∧ wx.heap[g]? = some (.cells (wcells (absH hs TF)) 93 (0, 0)) ∧ B3 ≤ g ∧ Bs wx aa (absR TF).length ac (absR TF) ∧ Below B3 w3 wx)
    case first =>
      go_region_held3 (fun w' => Row8 w' w.heap.size 0 ∧ row8 w' w.heap.size 0 = hs ∧ w'.cell? ⟨w.heap.size, 8, none⟩ = some (.slice ta tn tc) ∧ Below B3 w3 w') (first | exact S_below HB3.out Hst.out (Below.refl _ _).drew | exact S_below HB3.out Hst.out (SK_alloc' HB3.out (by assumption)) | exact S_below HB3.out Hst.out (SK_alloc HB3.out (by assumption)) | exact S_below HB3.out Hst.out (SK_call HB3.out (by assumption) (by assumption)) | exact S_below HB3.out Hst.out (SK_row2 (by assumption) (by first | assumption | (have := HB3.out; simp; omega)))) (first | (go_at_call 58; refine (absorb_any hs ca _ cc TF _ ?_ HlH.out ?_ ?_).mono ?_; exact SK_tabs HB3.out Htb.out (by assumption); (first | exact hcB | exact hcB.alloc _); (have := Hlen.out; omega); rintro e w' ⟨aa, ac, rfl, haB, hb2⟩; have hq2 := Blk8_keep hb2; have hz2 := SK_size HB3.out hb2 (by assumption); have hbl2 := SK_call HB3.out hb2 (by assumption); (first | have u2 := hq2 _ (Blk8_new _ _ rfl) | have u2 := hq2 _ u0 | skip)) | (go_at_call 59; refine (concat2_any ta tn tc T a F c (m.take F) _ 34 _ ?_ ?_ ?_ TF HTF.out Hlen.out).mono ?_; (first | exact heap_new rfl | exact heap_old (heap_new rfl) | exact heap_new (by simp only [size_alloc1])); exact SK_bs HB3.out HbT.out (by assumption); exact SK_bs HB3.out HbF.out (by assumption); rintro e w' ⟨ca, cc, rfl, hcB, hb1⟩; have hq1 := Blk8_keep hb1; have hz1 := SK_size HB3.out hb1 (by assumption); (first | have u0 := hq1 (w3.heap.size + 1) (Blk8_new _ _ (by simp)) | have u0 := hq1 w3.heap.size (Blk8_alloc _ _ _ (Blk8_new _ _ rfl)) | skip)))
      all_goals
        go_wp2_with fail
        go_meet
        first | exact W2 (Blk8_new _ _ rfl) hal (haB.alloc _) (hbl2.alloc hz2 _) hz2 | exact W2 u2 hal haB hbl2 (by first | exact hz1 | (have := HB3.out; omega))
    case rest =>
      obtain ⟨g, aa, ac, rfl, rfl, hg, hgB, haa, hbx⟩ := hcut
      go_upto_region 3 with (fail)
      obtain ⟨w4, hw4⟩ : ∃ w4, w4 = wc := ⟨_, rfl⟩
      rw [← hw4] at hg haa hbx ⊢
      clear hw4
      have blk : Blk8 w4 g := ⟨_, hal, hg⟩
      have r4 : Row8 w4 g 0 := Blk8_row blk
      have e4 : row8 w4 g 0 = absH hs TF := row8_of hal (fun j v hv => by rw [Nat.zero_add, cell_of_row w4 g j _ _ _ hg, ← wvals_arr, List.getElem?_toArray]; exact hv)
      obtain ⟨a', c', hsl, hbD⟩ := run_sliceF (HB.out.below HBel.out) F hFn
      obtain ⟨MR, hMR⟩ : ∃ MR, MR = m.drop F := ⟨_, rfl⟩
      rw [← hMR] at hbD
      obtain ⟨h1, hh1⟩ : ∃ h1, h1 = absH hs TF := ⟨_, rfl⟩
      rw [← hh1] at hal e4
      have hbD4 := hbD.below (w' := w4) (by rw [← HB3.out]; exact hbx)
      have ht4 : Tabs w4 := Htb.out.below hbx (by rw [HB3.out]; exact Htb.out.2.2)
      have hal2 : (absH h1 MR).length = 8 := absTo_len _ _ hal _
      have HMR := Lib.hid hMR
      have Hh1 := Lib.hid hh1
      have HbD4 := Lib.hid hbD4
      have Ht4 := Lib.hid ht4
      have Haa := Lib.hid haa
      have Hbx := Lib.hid hbx
      have HgB := Lib.hid hgB
      have Hal := Lib.hid hal
      have Hz1 := Lib.hid z1
      clear hg haa hbx hbD hbD4 ht4 hMR hh1 r8 e8 c8 hgB hal
      go_cut [8] (fun s8 wx => ∃ (ab : Option Addr) (bc : Nat), s8 = .slice ab (absR MR).length bc ∧ wx.heap[g]? = some (.cells (wcells (absH h1 MR)) 93 (0, 0)) ∧ Bs wx aa (absR TF).length ac (absR TF) ∧ Bs wx ab (absR MR).length bc (absR MR) ∧ Below B3 w3 wx)
      case first =>
        go_region_with (first | (go_at_call 58; refine (absorb_any h1 _ (n - F) _ MR _ ?_ Hal.out ?_ ?_).mono ?_; exact Tabs_drew Ht4.out; exact Bs_drew HbD4.out; omega; rintro e w' ⟨ab, bc, rfl, habB, hb3⟩; have u3 := Blk8_keep hb3 g ((Blk8_drew _ _).2 blk)))
        all_goals
          go_wp2_with fail
          go_meet
          obtain ⟨old, ho, hgo⟩ := id u3
          exact ⟨ab, bc, rfl, setRow_heap _ _ _ _ _ _ hgo, Bs_setRow ((Bs_drew Haa.out).below hb3) u3 _, Bs_setRow habB u3 _, Below_setRow (Hbx.out.drew.trans (hb3.mono (by have := Hbx.out.size; have := HB3.out; simp; omega))) HgB.out _⟩
      case rest =>
        obtain ⟨ab, bc, rfl, hg, haa, hab, hbx⟩ := hcut
        go_upto_region 4 with (fail)
        obtain ⟨w5, hw5⟩ : ∃ w5, w5 = wc := ⟨_, rfl⟩
        rw [← hw5] at hg haa hab hbx ⊢
        clear hw5 blk r4 e4 hsl hcap
        obtain ⟨h2, hh2⟩ : ∃ h2, h2 = absH h1 MR := ⟨_, rfl⟩
        rw [← hh2] at hg hal2
        have blk : Blk8 w5 g := ⟨_, hal2, hg⟩
        have r5 : Row8 w5 g 0 := Blk8_row blk
        have e5 : row8 w5 g 0 = h2 := row8_of hal2 (fun j v hv => by rw [Nat.zero_add, cell_of_row w5 g j _ _ _ hg, ← wvals_arr, List.getElem?_toArray]; exact hv)
        have b33 : Blk33 w5 (w.heap.size + 1) := ⟨_, _, _, _, _, by simp, (hbx.block _ (by have := Hs2.out; have := HB3.out; omega)).trans H1.out⟩
        have c5 : w5.cell? ⟨w.heap.size, 9, none⟩ = some (.int .i64 L) := (hbx.cell (p := ⟨w.heap.size, 9, none⟩) (by simp; have := Hs2.out; have := HB3.out; omega)).trans c9
        have c5a : ∀ o, (w5.alloc o).cell? ⟨w.heap.size, 9, none⟩ = some (.int .i64 L) := fun o => (((Below.refl _ _).alloc (Nat.le_refl _) o).cell (p := ⟨w.heap.size, 9, none⟩) (block_lt_of_cell c5)).trans c5
        have c5b : ∀ o, (w5.alloc o).drew.cell? ⟨w.heap.size, 9, none⟩ = some (.int .i64 L) := c5a
        have hne : w5.heap.size ≠ w.heap.size := World.new_ne w5 _ c5
        have hne' : w.heap.size ≠ w5.heap.size := hne.symm
        obtain ⟨RR, hRR⟩ : ∃ RR, RR = absR TF ++ absR MR := ⟨_, rfl⟩
        have hRl : RR.length ≤ 140737488355328 := by
          rw [hRR, List.length_append, absR_len, absR_len]; omega
        have HRR := Lib.hid hRR
        have HRl := Lib.hid hRl
        have Hh2 := Lib.hid hh2
        have Haa := Lib.hid haa
        have Hab := Lib.hid hab
        have Hbx2 := Lib.hid hbx
        clear hg haa hab hbx hh2 hRR hRl c9 blk
        generalize eRT : absR TF = RT at *
        generalize eRM : absR MR = RM at *
        have HRT := Lib.hid eRT
        have HRM := Lib.hid eRM
        clear eRT eRM
        obtain ⟨nT, hnT⟩ : ∃ nT, nT = RT.length := ⟨_, rfl⟩
        obtain ⟨nM, hnM⟩ : ∃ nM, nM = RM.length := ⟨_, rfl⟩
        rw [← hnT] at Haa ⊢
        rw [← hnM] at Hab ⊢
        clear hnT hnM
        go_region_with (first | (go_at_call 59; refine (concat2_any aa nT ac RT ab nM bc RM _ 34 _ ?_ ?_ ?_ RR HRR.out HRl.out).mono ?_; exact heap_new rfl; exact Bs_drew (Haa.out.alloc _); exact Bs_drew (Hab.out.alloc _); rintro e w' ⟨ca, cc, rfl, hcB, hb4⟩; have hb5 := Bel_alloc hb4; obtain ⟨r6, e6, b6, c6⟩ := keep5 r5 e5 b33 c5 hb5))
        all_goals
          go_wp2_with fail
          obtain ⟨hs', a', n', c', L', hl', hg'⟩ := id b6
          have hw : IntKind.i64.wrap ((L : Int) + (n : Int)) = (L : Int) + (n : Int) := by have := HL.out; exact i64_id _ (by omega) (by omega)
          refine bodyPost_ret (v := .agg (dcells h2 ca RR.length cc (IntKind.i64.wrap ((L : Int) + (n : Int))))) ?_ rfl ⟨_, rfl, write_out (write_fin HFill.out Hhs.out HTT.out HTF.out HMR.out Hh1.out Hh2.out HRT.out HRM.out HRR.out) hcB HL.out Hmn.out hw b6, Below_setRow (HBel.out.trans ((Hbx2.out.mono (by have := Hs2.out; have := HB3.out; omega)).trans (hb5.mono (by have := Hbx2.out.size; have := Hs2.out; have := HB3.out; omega)))) (by omega) _⟩
          exact results_cell_row rfl _ _ (w.heap.size + 1) 95 _ (0, 0) _ rfl (setRow_heap _ _ _ _ _ _ hg') Tryd.underlying95 rfl (by rw [dcells_size _ _ _ _ _ hal2]; exact size33)
end Go.Proofs.YthffegfcgmhppaaDoor.Dg
namespace Go.Proofs.YthffegfcgmhppaaDoor.Dg
set_option maxRecDepth 100000
open Go.RowKit
theorem Tabs.range0 {w : World} (h : Tabs w) : w.rangeAt 0 0 (wvals H8) := by
  intro j v hv
  have hj : j < 8 := by have := (List.getElem?_eq_some_iff.1 hv).1; rw [wvals_len, H8_len] at this; exact this
  rw [Nat.zero_add, h.2.1 j hj]
  have hj2 : j < H8.length := hj
  rw [← hv]
  simp [wvals, wAt, hj2]
theorem run_build1 (w : World) (x0 x1 x2 x3 x4 x5 x6 x7 : BitVec 32) :
    (Instr.build 95 #[(0, .agg (wcells [x0, x1, x2, x3, x4, x5, x6, x7]))]).run Tryd.prog w = .ok (.agg (dcells [x0, x1, x2, x3, x4, x5, x6, x7] none 0 0 0)) w := by kernel_rfl
theorem run_build1' (w : World) (hs : List (BitVec 32)) (h : hs.length = 8) : (Instr.build 95 #[(0, .agg (wcells hs))]).run Tryd.prog w = .ok (.agg (dcells hs none 0 0 0)) w := by
  obtain ⟨x0, x1, x2, x3, x4, x5, x6, x7, rfl⟩ := words8 h
  exact run_build1 ..
def build1A (x : Value) : Sem Next := do pure (.value (← Instr.build 95 #[(0, x)]))
theorem exec_build1 (ρ : Operand → Value) (d : Option Tmp) (x : Operand) (ty : TypeId) (pos : String) (af : Array Edge) (gd : Option (Nat × Bool)) :
    execOp ρ { dst := d, op := .build 95 #[(0, x)], type := ty, pos := pos, after := af, guard := gd } = build1A (ρ x) := by
  unfold execOp build1A
  simp
theorem run_build1A (w : World) (hs : List (BitVec 32)) (h : hs.length = 8) : (build1A (.agg (wcells hs))).run Tryd.prog w = .ok (.value (.agg (dcells hs none 0 0 0))) w := by
  unfold build1A
  simp only [Sem.run_bind, Sem.run_pure, run_build1' w hs h, Result.andThen_ok]
attribute [local go_sem ↓] exec_build1
attribute [local go_sem] run_build1A
set_option maxRecDepth 100000 in
set_option maxHeartbeats 1000000 in
theorem new_any (w : World) (hT : Tabs w) :
    Calls Tryd.prog 42 #[] w fun e w' => ∃ v, e = .returned v ∧ St w' v [] ∧ Below w.heap.size w w' := by
  obtain ⟨hs, hhs⟩ : ∃ hs, hs = H8 := ⟨_, rfl⟩
  have hl : hs.length = 8 := by rw [hhs]; rfl
  have hr := hT.range0
  have h2 := hT.2.2
  rw [← hhs] at hr
  have Hhs := Lib.hid hhs
  clear hhs hT
  go_enter Tryd.func42, Tryd.ntmps42
  go_upto_region 1 with (fail)
  rw [zeros33]
  have hr2 := range_below hr ((Below.refl _ _).alloc (Nat.le_refl _) (.cells (dcells (List.replicate 8 0) none 0 0 0) 95))
  have hg : (w.alloc (.cells (dcells (List.replicate 8 0) none 0 0 0) 95)).heap[w.heap.size]? = some (.cells (dcells (List.replicate 8 0) none 0 0 0) 95 (0, 0)) := heap_new rfl
  have hb : Below w.heap.size w (w.alloc (.cells (dcells (List.replicate 8 0) none 0 0 0) 95)) := (Below.refl _ _).alloc (Nat.le_refl _) _
  generalize w.alloc (.cells (dcells (List.replicate 8 0) none 0 0 0) 95) = w1 at *
  go_wp2_with (first | (refine wpList_load_mid rfl 93 (.global 0) rfl 0 0 rfl (wvals hs) _ hr2 Tryd.underlying93 rfl (by rw [wvals_len, hl]; exact size8w) ?_; rw [wvals_arr]) | (refine wpList_store_row rfl 95 (.tmp 0) (.tmp 2) rfl w.heap.size _ rfl rfl 95 _ hg (by rw [dcells_size _ _ _ _ _ hl]; exact size33) (by rw [dcells_size _ _ _ _ _ hl, dcells_size _ _ _ _ _ (by simp)]) (dcells_one _ _ _ _ _) ?_))
  refine bodyPost_ret (v := .agg (dcells hs none 0 0 0)) ?_ rfl ⟨_, rfl, ⟨none, 0, by rw [Hhs.out]; rfl, Bs_empty _ _ _ (Nat.zero_le _) (fun _ => rfl)⟩, Below_setRow hb (Nat.le_refl _) _⟩
  exact results_cell_row rfl _ _ w.heap.size 95 _ (0, 0) _ rfl (setRow_heap _ _ _ _ _ _ hg) Tryd.underlying95 rfl (by rw [dcells_size _ _ _ _ _ hl]; exact size33)
end Go.Proofs.YthffegfcgmhppaaDoor.Dg
namespace Go.Proofs.YthffegfcgmhppaaDoor.Dg
set_option maxRecDepth 100000
open Go.RowKit
attribute [local go_sem ↓] exec_at_zero exec_at_succ Go.wp_at_zero Go.wp_at_succ
/-- the hash value of some bytes -/
def Hv (l : List UInt8) : List UInt8 := joinB (absH H8 (l ++ padB l.length))
theorem Hv_len (l : List UInt8) : (Hv l).length = 32 := joinB_len _
theorem padB_len (n : Nat) : (padB n).length ≤ 72 := by
  obtain ⟨p0, p1⟩ := padI_bd ((n : Int) + 1) 56
  simp only [padB, be8, List.length_append, List.length_cons, List.length_replicate, List.length_map, List.length_range]
  omega
def load33A (v : Value) : Sem Next := do pure (.value (← Instr.loadAt 95 v))
theorem exec_load33 (ρ : Operand → Value) (d : Option Tmp) (x : Operand) (ty : TypeId) (pos : String) (af : Array Edge) (gd : Option (Nat × Bool)) :
    execOp ρ { dst := d, op := .load 95 x, type := ty, pos := pos, after := af, guard := gd } = load33A (ρ x) := rfl
theorem run_load33 {w : World} {g : Nat} {hs : List (BitVec 32)} {a : Option Addr} {n c : Nat} {L : Int} (hl : hs.length = 8) (h : w.heap[g]? = some (.cells (dcells hs a n c L) 95 (0, 0))) :
    (load33A (.pointer (some ⟨g, 0, none⟩))).run Tryd.prog w = .ok (.value (.agg (dcells hs a n c L))) w := by
  unfold load33A
  simp only [Instr.loadAt, Instr.sureAddr, Sem.run_bind, Sem.run_pure, Result.andThen_ok, run_loadVar_row w g 95 95 _ (0, 0) _ h Tryd.underlying95 rfl (by rw [dcells_size _ _ _ _ _ hl]; exact size33)]
def field0A (v : Value) : Sem Next := do pure (.value (← Instr.field 95 v 0))
theorem exec_field0 (ρ : Operand → Value) (d : Option Tmp) (x : Operand) (ty : TypeId) (pos : String) (af : Array Edge) (gd : Option (Nat × Bool)) :
    execOp ρ { dst := d, op := .field 95 x 0, type := ty, pos := pos, after := af, guard := gd } = field0A (ρ x) := rfl
theorem run_field0' (w : World) (x0 x1 x2 x3 x4 x5 x6 x7 : BitVec 32) (a : Option Addr) (n c : Nat) (L : Int) :
    (Instr.field 95 (.agg (dcells [x0, x1, x2, x3, x4, x5, x6, x7] a n c L)) 0).run Tryd.prog w = .ok (.agg (wcells [x0, x1, x2, x3, x4, x5, x6, x7])) w := by kernel_rfl
theorem run_field0 (w : World) (l : List UInt8) (a : Option Addr) (n c : Nat) (L : Int) :
    (field0A (.agg (dcells (absH H8 l) a n c L))).run Tryd.prog w = .ok (.value (.agg (wcells (absH H8 l)))) w := by
  obtain ⟨x0, x1, x2, x3, x4, x5, x6, x7, e⟩ := words8 (absH_len l)
  rw [e]
  unfold field0A
  simp only [Sem.run_bind, Sem.run_pure, run_field0', Result.andThen_ok]
/-- a block of a hash value -/
def Blk32 (w : World) (g : Nat) : Prop := ∃ l : List UInt8, l.length = 32 ∧ w.heap[g]? = some (.cells (bcells l) 51 (0, 0))
def store24A (v x : Value) : Sem Next := do Instr.storeAt 51 v x; pure .skip
theorem exec_store24 (ρ : Operand → Value) (d : Option Tmp) (x y : Operand) (ty : TypeId) (pos : String) (af : Array Edge) (gd : Option (Nat × Bool)) :
    execOp ρ { dst := d, op := .store 51 x y, type := ty, pos := pos, after := af, guard := gd } = store24A (ρ x) (ρ y) := rfl
theorem run_store24 (w : World) (g : Nat) (l : List UInt8) (hl : l.length = 32) (h : Blk32 w g) : (store24A (.pointer (some ⟨g, 0, none⟩)) (.agg (bcells l))).run Tryd.prog w = .ok .skip (w.setRow g (bcells l)) := by
  obtain ⟨old, ho, hg⟩ := h
  unfold store24A
  simp only [Instr.storeAt, Instr.sureAddr, Sem.run_bind, Sem.run_pure, Result.andThen_ok, run_storeVar_row w g 51 51 _ (bcells l) hg (by rw [bcells_size, hl]; exact size32b) (by rw [bcells_size, bcells_size, ho, hl]) (bcells_one l)]
theorem Blk32_drew (w : World) (g : Nat) : Blk32 w.drew g ↔ Blk32 w g := by constructor <;> exact id
theorem Blk32_keep {w w' : World} (hb : Below w.heap.size w w') : ∀ g, Blk32 w g → Blk32 w' g := fun g ⟨l, hl, hg⟩ => ⟨l, hl, (hb.block g (heap_lt hg)).trans hg⟩
attribute [local go_sem ↓] exec_load33 exec_field0 exec_store24
attribute [local go_sem] run_field0 run_store24 Blk32_drew joinB_len
set_option maxRecDepth 100000 in
set_option maxHeartbeats 1000000 in
theorem close_any (v : Value) (l : List UInt8) (w : World) (hT : Tabs w) (hS : St w v l) (hn : l.length ≤ 35184372088832) :
    Calls Tryd.prog 40 #[v] w fun e w' => e = .returned (.agg (bcells (Hv l))) ∧ Below w.heap.size w w' := by
  obtain ⟨ta, tc, rfl, hTB⟩ := id hS
  have hz := hT.2.2
  have HT := Lib.hid hT
  have HS := Lib.hid hS
  have Hn := Lib.hid hn
  have hlH := absH_len l
  obtain ⟨hs, hhs⟩ : ∃ hs, hs = absH H8 l := ⟨_, rfl⟩
  obtain ⟨tn, htn⟩ : ∃ tn, tn = (absR l).length := ⟨_, rfl⟩
  rw [← hhs] at hlH ⊢
  rw [← hhs, ← htn] at HS
  rw [← htn]
  obtain ⟨L, hL⟩ : ∃ L, L = l.length := ⟨_, rfl⟩
  rw [← hL]
  rw [← hL] at hn HS
  have HL := Lib.hid hL
  clear hT hS hTB hL hhs htn
  go_enter Tryd.func40, Tryd.ntmps40
  go_upto_region 1 with (fail)
  rw [zeros32]
  have h0 : ((w.alloc (.cells (dcells hs ta tn tc L) 95)).alloc (.cells (bcells (List.replicate 32 0)) 51)).heap[w.heap.size]? = some (.cells (dcells hs ta tn tc L) 95 (0, 0)) := heap_old (heap_new rfl)
  have h1 : Blk32 ((w.alloc (.cells (dcells hs ta tn tc L) 95)).alloc (.cells (bcells (List.replicate 32 0)) 51)) (w.heap.size + 1) := ⟨_, by simp, heap_new (by simp only [size_alloc1])⟩
  have hbel : Below w.heap.size w ((w.alloc (.cells (dcells hs ta tn tc L) 95)).alloc (.cells (bcells (List.replicate 32 0)) 51)) := ((Below.refl _ _).alloc (Nat.le_refl _) _).alloc (by simp) _
  have hs2 : ((w.alloc (.cells (dcells hs ta tn tc L) 95)).alloc (.cells (bcells (List.replicate 32 0)) 51)).heap.size = w.heap.size + 2 := by simp only [size_alloc1]
  generalize ((w.alloc (.cells (dcells hs ta tn tc L) 95)).alloc (.cells (bcells (List.replicate 32 0)) 51)) = w1 at *
  have c9 := (dblock h0 hlH).2.2.2
  have l0 := run_load33 hlH h0
  have l1 : (load33A (.pointer (some ⟨w.heap.size, 0, none⟩))).run Tryd.prog w1.drew = .ok (.value (.agg (dcells hs ta tn tc L))) w1.drew := run_load33 hlH h0
  have Hs2 := Lib.hid hs2
  have HBel := Lib.hid hbel
  have H0 := Lib.hid h0
  clear hs2 hbel h0
  go_region_with (first
    | (go_at_call 56; refine (padding_any _ _ (by omega) (by omega)).mono ?_; rintro e w' ⟨pv, rfl, hown, hb1⟩; obtain ⟨pa, pc, rfl, hpB⟩ := Bs_of_own hown; have hb2 : Below w1.heap.size w1 w' := (Below.refl _ _).drew.trans hb1; have l2 := run_load33 hlH ((hb2.block _ (heap_lt H0.out)).trans H0.out); have q1 := Blk32_keep hb2 _ h1; have HpB := Lib.hid hpB; have Hb2 := Lib.hid hb2; clear hb1 hb2 hown hpB)
    | (go_at_call 41; refine (write_any _ l pa _ pc (padB ((L : Int)).toNat) _ ?_ ?_ ?_ ?_).mono ?_; exact (tabs_below (HT.out.below HBel.out hz) Hb2.out); exact (HS.out.below HBel.out).below Hb2.out; exact HpB.out; (have := padB_len ((L : Int)).toNat; have := Hn.out; omega); rintro e w' ⟨v', rfl, ⟨ua, uc, rfl, hub⟩, hb3⟩; have q2 := Blk32_keep hb3 _ q1; have Hb3 := Lib.hid hb3; clear hb3 hub)
    | (go_at_call 55; refine (join_any _ _ (absH_len _)).mono ?_; rintro e w' ⟨rfl, hb4⟩; have q3 := Blk32_keep hb4 _ q2; have Hb4 := Lib.hid hb4; clear hb4))
  all_goals
    go_wp2_with fail
    obtain ⟨old, ho, hg⟩ := id q3
    refine bodyPost_ret (v := .agg (bcells (Hv l))) ?_ rfl ⟨rfl, Below_setRow (HBel.out.trans ((Hb2.out.trans (Hb3.out.trans (Hb4.out.mono Hb3.out.size) |>.mono Hb2.out.size)).mono (by have := Hs2.out; omega))) (by omega) _⟩
    have e : bcells (joinB (absH H8 (l ++ padB L))) = bcells (Hv l) := by rw [HL.out]; rfl
    rw [e]
    exact results_cell_row rfl _ _ (w.heap.size + 1) 51 _ (0, 0) _ rfl (setRow_heap _ _ _ _ _ _ hg) Tryd.underlying51 rfl (by rw [bcells_size, Hv_len]; exact size32b)
set_option maxRecDepth 100000 in
set_option maxHeartbeats 1000000 in
theorem sum_any (a : Option Addr) (n c : Nat) (l : List UInt8) (w : World) (hT : Tabs w) (hB : Bs w a n c l) (hn : n ≤ 35184372088832) :
    Calls Tryd.prog 19 #[.slice a n c] w fun e w' => e = .returned (.agg (bcells (Hv l))) ∧ Below w.heap.size w w' := by
  have hz := hT.2.2
  have hl := hB.1
  have HT := Lib.hid hT
  have HB := Lib.hid hB
  clear hT hB
  go_enter Tryd.func19, Tryd.ntmps19
  go_upto_region 1 with (fail)
  rw [zeros32]
  have hg : (w.alloc (.cells (bcells (List.replicate 32 0)) 51)).heap[w.heap.size]? = some (.cells (bcells (List.replicate 32 0)) 51 (0, 0)) := heap_new rfl
  have hb : Below w.heap.size w (w.alloc (.cells (bcells (List.replicate 32 0)) 51)) := (Below.refl _ _).alloc (Nat.le_refl _) _
  have hs1 : (w.alloc (.cells (bcells (List.replicate 32 0)) 51)).heap.size = w.heap.size + 1 := by simp only [size_alloc1]
  generalize w.alloc (.cells (bcells (List.replicate 32 0)) 51) = w1 at *
  have T1 := Lib.hid (HT.out.below hb hz)
  have B1 := Lib.hid (HB.out.below hb)
  have Hb := Lib.hid hb
  have Hg := Lib.hid hg
  clear hb hg
  go_wp2_with (first
    | (go_at_call 42; refine (new_any _ T1.out).mono ?_; rintro e w2 ⟨v, rfl, hS, hb2⟩; have T2 := Lib.hid (tabs_below T1.out hb2); have B2 := Lib.hid (B1.out.below hb2); have S2 := Lib.hid hS; have Hb2 := Lib.hid hb2; clear hS hb2)
    | (go_at_call 41; refine (write_any _ [] a n c l _ T2.out S2.out B2.out (by simp; omega)).mono ?_; rintro e w3 ⟨v', rfl, hS, hb3⟩; have T3 := Lib.hid (tabs_below T2.out hb3); have S3 := Lib.hid hS; have Hb3 := Lib.hid hb3; clear hS hb3)
    | (go_at_call 40; refine (close_any _ ([] ++ l) _ T3.out S3.out (by simp; omega)).mono ?_; rintro e w4 ⟨rfl, hb4⟩; have Hb4 := Lib.hid hb4; have hw4 := (hb4.block _ (heap_lt ((Hb3.out.block _ (heap_lt ((Hb2.out.block _ (heap_lt Hg.out)).trans Hg.out))).trans ((Hb2.out.block _ (heap_lt Hg.out)).trans Hg.out)))).trans ((Hb3.out.block _ (heap_lt ((Hb2.out.block _ (heap_lt Hg.out)).trans Hg.out))).trans ((Hb2.out.block _ (heap_lt Hg.out)).trans Hg.out)); clear hb4)
    | (refine wpList_store_row rfl 51 (.tmp 2) (.tmp 6) rfl w.heap.size _ rfl rfl 51 _ hw4 (by rw [bcells_size, Hv_len]; exact size32b) (by simp only [bcells_size, Hv_len, List.length_replicate]) (bcells_one _) ?_))
  refine bodyPost_ret (v := .agg (bcells (Hv l))) ?_ rfl ⟨rfl, Below_setRow (Hb.out.trans ((Hb2.out.trans (Hb3.out.trans (Hb4.out.mono Hb3.out.size) |>.mono Hb2.out.size)).mono (by omega))) (by omega) _⟩
  exact results_cell_row rfl _ _ w.heap.size 51 _ (0, 0) _ rfl (setRow_heap _ _ _ _ _ _ hw4) Tryd.underlying51 rfl (by rw [bcells_size, Hv_len]; exact size32b)
end Go.Proofs.YthffegfcgmhppaaDoor.Dg
namespace Go.Proofs.YthffegfcgmhppaaDoor
open Go.RowKit
set_option linter.unusedSimpArgs false
set_option linter.unusedVariables false
/-- a row of one's own, of things of one cell, from any place of its block on -/
def Rw (w : World) (e : TypeId) (k : Option Nat) (v : Value) (n : Nat) (xs : List Value) : Prop :=
  xs.length = n ∧ ((k = none ∧ v = .slice none 0 0 ∧ n = 0) ∨
    ∃ g off cap cur, k = some g ∧ v = .slice (some ⟨g, off, none⟩) n cap ∧ w.heap[g]? = some (.cells cur e (0, 0)) ∧ n ≤ cap ∧ cap ≤ maxLen ∧ off + cap = cur.size ∧ (cur.toList.drop off).take n = xs)
theorem Rw.nil (w : World) (e : TypeId) : Rw w e none (.slice none 0 0) 0 [] := ⟨rfl, .inl ⟨rfl, rfl, rfl⟩⟩
theorem Rw.lt {w : World} {e : TypeId} {k : Option Nat} {v : Value} {n : Nat} {xs : List Value} (h : Rw w e k v n xs) : ∀ j, k = some j → j < w.heap.size := by
  intro j hj
  rcases h.2 with ⟨rfl, _⟩ | ⟨g, off, cap, cur, rfl, _, hg, _⟩
  · cases hj
  · cases hj; exact (Array.getElem?_eq_some_iff.1 hg).1
theorem Rw.kept {S : Nat → Prop} {w w' : World} {e : TypeId} {k : Option Nat} {v : Value} {n : Nat} {xs : List Value} (h : Rw w e k v n xs) (hk : Kept S w w') (hs : ∀ j, k = some j → ¬ S j) : Rw w' e k v n xs := by
  refine ⟨h.1, ?_⟩
  rcases h.2 with hn | ⟨g, off, cap, cur, rfl, rfl, hg, rest⟩
  · exact .inl hn
  · exact .inr ⟨g, off, cap, cur, rfl, rfl, hk.heap hg (hs g rfl), rest⟩
/-- it reads as its cells -/
theorem Rw.at {w : World} {e : TypeId} {k : Option Nat} {v : Value} {n : Nat} {xs : List Value} (h : Rw w e k v n xs) (hp : 0 < n) : ∃ g off cap, k = some g ∧ v = .slice (some ⟨g, off, none⟩) n cap ∧ n ≤ cap ∧ cap ≤ 9223372036854775807 ∧ g < w.heap.size ∧ ∀ j (hj : j < xs.length), w.cell? ⟨g, off + j, none⟩ = some xs[j] := by
  obtain ⟨hl, h⟩ := h
  rcases h with ⟨_, _, rfl⟩ | ⟨g, off, cap, cur, rfl, rfl, hg, h1, h2, h3, h4⟩
  · omega
  · refine ⟨g, off, cap, rfl, rfl, h1, h2, (Array.getElem?_eq_some_iff.1 hg).1, fun j hj => ?_⟩
    have hlen : j < n := by omega
    rw [show cur = cur.toList.toArray by simp] at hg
    rw [cell_of_row w g (off + j) _ _ _ hg]
    have e2 : xs[j]? = some xs[j] := List.getElem?_eq_getElem hj
    rw [← e2, ← h4, List.getElem?_take, if_pos hlen, List.getElem?_drop]
    simp
theorem Rw.one (w : World) (e : TypeId) (x : Value) : Rw (w.alloc (.cells #[x] e)) e (some w.heap.size) (.slice (some ⟨w.heap.size, 0, none⟩) 1 1) 1 [x] :=
  ⟨rfl, .inr ⟨w.heap.size, 0, 1, #[x], rfl, rfl, heap_new rfl, Nat.le_refl _, by decide, rfl, rfl⟩⟩
/-- cut short -/
theorem Rw.upto {w : World} {e : TypeId} {k : Option Nat} {a : Option Addr} {n c : Nat} {xs : List Value} (h : Rw w e k (.slice a n c) n xs) (m : Nat) (hm : m ≤ n) : Rw w e k (.slice a m c) m (xs.take m) := by
  obtain ⟨hl, h⟩ := h
  refine ⟨by rw [List.length_take]; omega, ?_⟩
  rcases h with ⟨rfl, e1, rfl⟩ | ⟨g, off, cap, cur, rfl, e1, hg, h1, h2, h3, h4⟩
  · cases e1
    obtain rfl : m = 0 := by omega
    exact .inl ⟨rfl, rfl, rfl⟩
  · cases e1
    refine .inr ⟨g, off, c, cur, rfl, rfl, hg, by omega, h2, h3, ?_⟩
    rw [← h4, List.take_take, Nat.min_eq_left hm]
/-- from a later place on -/
theorem Rw.from {w : World} {e : TypeId} {k : Option Nat} {g off n c : Nat} {xs : List Value} (h : Rw w e k (.slice (some ⟨g, off, none⟩) n c) n xs) (m : Nat) (hm : m ≤ n) : Rw w e k (.slice (some ⟨g, off + m, none⟩) (n - m) (c - m)) (n - m) (xs.drop m) := by
  obtain ⟨hl, h⟩ := h
  refine ⟨by rw [List.length_drop]; omega, ?_⟩
  rcases h with ⟨rfl, e1, rfl⟩ | ⟨g, off, cap, cur, rfl, e1, hg, h1, h2, h3, h4⟩
  · cases e1
  · cases e1
    refine .inr ⟨_, off + m, c - m, cur, rfl, rfl, hg, by omega, by omega, by omega, ?_⟩
    rw [← h4, List.drop_take, List.drop_drop]
section
variable {P : Program} (w : World)
theorem run_append_roomO (t tx ty e : TypeId) (i : TypeInfo) (ht : P.underlying t = some (.slice e)) (hi : P.info? e = some i) (hz : i.size = 1)
    (g off sLen sCap : Nat) (cur : Array Value) (hg : w.heap[g]? = some (.cells cur e (0, 0)))
    (x : Value) (m : Nat) (news : List Value) (hs : Src P 1 tx x m news w) (hroom : sLen + m ≤ sCap) (hfit : off + sLen + news.length ≤ cur.size) :
    (Builtin.append_ #[t, tx] ty #[.slice (some ⟨g, off, none⟩) sLen sCap, x]).run P w =
      .ok (.slice (some ⟨g, off, none⟩) (sLen + m) sCap) (w.setRow g (cur.toList.take (off + sLen) ++ news ++ cur.toList.drop (off + sLen + news.length)).toArray) := by
  have hst := run_storeCells_at P g (off + sLen) e news 0 cur w hg (by simpa using hfit) hs.one
  simp only [Nat.add_zero] at hst
  rcases hs.kind with ⟨e', hk⟩ | hk <;> simp [Builtin.append_, run_underlying ht, run_underlying hk, sizeOf, typeInfo, hi, hz, hs.len, hroom, hs.cells, Addr.add_mid, hst]
/-- append onto such a row -/
theorem run_append_rw (t tx ty e : TypeId) (i : TypeInfo) (z : Value) (bytes : Nat) (ht : P.underlying t = some (.slice e)) (hi : P.info? e = some i) (hz : i.zero = some z)
    (hsize : i.size = 1) (hby : i.bytes = bytes) (hzs : z.cells.size = 1) (k : Option Nat) (v : Value) (n : Nat) (xs : List Value) (hown : Rw w e k v n xs)
    (x : Value) (m : Nat) (news : List Value) (hs : Src P 1 tx x m news w) (h63 : n + m ≤ maxLen) (hbytes : (n + m) * bytes ≤ 140737488355328) :
    ∃ k' v' w', (Builtin.append_ #[t, tx] ty #[v, x]).run P w = .ok v' w' ∧ Rw w' e k' v' (n + m) (xs ++ news) ∧ (∀ j, k' = some j → k = some j ∨ w.heap.size ≤ j) ∧ Kept (fun j => k = some j) w w' := by
  subst hby
  have hsmall : n + m ≤ 9223372036854775807 := by simp only [maxLen] at h63; omega
  have hnl : news.length = m := by have := hs.newsLen; omega
  have hlen : (xs ++ news).length = n + m := by rw [List.length_append, hown.1, hnl]
  have grows : ∀ (b : Option Addr) (old : Nat), v = .slice b n old → old < n + m → (Builtin.firstCells i.size n (.slice b n old)).run P w.drew = .ok xs.toArray w.drew → ∃ k' v' w', (Builtin.append_ #[t, tx] ty #[v, x]).run P w = .ok v' w' ∧ Rw w' e k' v' (n + m) (xs ++ news) ∧ (∀ j, k' = some j → k = some j ∨ w.heap.size ≤ j) ∧ Kept (fun j => k = some j) w w' := by
    intro b old hv ho hf
    subst hv
    have hr := run_append_grow_src (P := P) w t tx ty e i z ht hi hz b n old xs hf x m news (hsize ▸ hs) ho (by omega) (growslice_fits (by omega) hbytes)
    have hge := grownCap_ge w (n + m) old e
    have hcm : grownCap w (n + m) old e ≤ maxLen := grownCap_le_maxLen w (n + m) old e h63
    refine ⟨some w.heap.size, _, _, hr, ⟨hlen, .inr ⟨w.heap.size, 0, _, _, rfl, rfl, heap_alloc_new w.drew _, hge, hcm, ?_, ?_⟩⟩, ?_, ?_⟩
    · simp only [Array.size_append, List.size_toArray, size_zeroCells, hzs, hlen]
      omega
    · simp only [Array.toList_append, List.drop_zero]
      rw [← hlen]
      exact List.take_left
    · intro j hj; cases hj; exact .inr (Nat.le_refl _)
    · exact (Kept.refl _ w).drew.alloc _
  have hown2 := hown
  rcases hown.2 with ⟨rfl, rfl, rfl⟩ | ⟨g, off, cap, cur, rfl, rfl, hg, hnc, hcm, hcs, htake⟩
  · have hx : xs = [] := List.eq_nil_of_length_eq_zero hown.1
    subst hx
    by_cases hm : m = 0
    · subst hm
      have hn : news = [] := List.eq_nil_of_length_eq_zero hnl
      subst hn
      refine ⟨none, .slice none 0 0, w, ?_, Rw.nil w e, (fun _ h => by cases h), Kept.refl _ _⟩
      have hc := hs.cells
      rcases hs.kind with ⟨e', hk⟩ | hk <;> simp [Builtin.append_, run_underlying ht, run_underlying hk, sizeOf, typeInfo, hi, hsize, hs.len, hc]
    · exact grows none 0 rfl (by omega) (run_firstCells_none w.drew i.size 0 0 0)
  · by_cases hroom : n + m ≤ cap
    · have hfit : off + n + news.length ≤ cur.size := by omega
      have hr := run_append_roomO (P := P) w t tx ty e i ht hi hsize g off n cap cur hg x m news hs hroom hfit
      have hcl : cur.toList.length = cur.size := by simp
      refine ⟨some g, _, _, hr, ⟨hlen, .inr ⟨g, off, cap, _, rfl, rfl, setRow_heap w g cur _ e _ hg, hroom, hcm, ?_, ?_⟩⟩, ?_, ?_⟩
      · simp only [List.size_toArray, List.length_append, List.length_take, List.length_drop, Array.length_toList]
        omega
      · have e1 : (cur.toList.take (off + n)).drop off = xs := by rw [List.drop_take, ← htake, show off + n - off = n by omega]
        simp only [List.append_assoc]
        rw [List.drop_append_of_le_length (by rw [List.length_take]; omega), e1, ← List.append_assoc, ← hlen]
        exact List.take_left
      · intro j hj; cases hj; exact .inl rfl
      · exact (Kept.refl (fun j => some g = some j) w).setRow (fun _ => rfl) _
    · refine grows _ cap rfl (by omega) (run_firstCells_some w.drew i.size n ⟨g, off, none⟩ n cap xs (by rw [hsize, hown.1]; omega) ?_)
      intro j u hu
      have hj : j < xs.length := (List.getElem?_eq_some_iff.1 hu).1
      obtain ⟨g', off', cap', e1, e2, _, _, _, hc⟩ := hown2.at (by have := hown.1; omega)
      cases e2
      rw [Addr.add_mid]
      have := hc j hj
      rw [List.getElem?_eq_getElem hj] at hu
      rw [← Option.some.inj hu]
      exact this
theorem wpList_append_rw {ops : Array Oper} {rest : List Oper} {o : Oper} {a : Act} {Q : Exit → Act → World → Prop} (hgd : o.guard = none) (s x : Operand) (t tx : TypeId)
    (ho : o.op = .call { callee := .builtin .append, args := #[s, x], argTypes := #[t, tx] })
    (e : TypeId) (i : TypeInfo) (z : Value) (bytes : Nat) (ht : P.underlying t = some (.slice e)) (hi : P.info? e = some i) (hz : i.zero = some z)
    (hsize : i.size = 1) (hby : i.bytes = bytes) (hzs : z.cells.size = 1) (k : Option Nat) (v : Value) (n : Nat) (xs : List Value) (hv : a.eval s = v) (hown : Rw w e k v n xs)
    (m : Nat) (news : List Value) (hs : Src P 1 tx (a.eval x) m news w) (h63 : n + m ≤ maxLen) (hbytes : (n + m) * bytes ≤ 140737488355328)
    (h : ∀ k' v' w', Rw w' e k' v' (n + m) (xs ++ news) → (∀ j, k' = some j → k = some j ∨ w.heap.size ≤ j) → Kept (fun j => k = some j) w w' → wpList P ops Q rest (a.put o.dst v') w') : wpList P ops Q (o :: rest) a w := by
  obtain ⟨k', v', w', hr, h2, h3, h4⟩ := run_append_rw (P := P) w t tx o.type e i z bytes ht hi hz hsize hby hzs k v n xs hown (a.eval x) m news hs h63 hbytes
  refine wpList_plain hgd fun K hK => ?_
  unfold Oper.wp execOp
  simp only [ho, resolve, invoke, builtin, Sem.run_bind, Sem.run_pure, Result.andThen_ok, List.map_toArray, List.map_cons, List.map_nil, hv, hr]
  exact hK _ _ (h k' v' w' h2 h3 h4)
end
/-- an element of it is stored -/
theorem Rw.set {w : World} {e : TypeId} {g off n c : Nat} {xs : List Value} (h : Rw w e (some g) (.slice (some ⟨g, off, none⟩) n c) n xs) (k : Nat) (hk : k < n) (u : Value) : Rw (w.setCell ⟨g, off + k, none⟩ u) e (some g) (.slice (some ⟨g, off, none⟩) n c) n (xs.set k u) := by
  obtain ⟨hl, h⟩ := h
  refine ⟨by rw [List.length_set]; exact hl, ?_⟩
  rcases h with ⟨e0, _⟩ | ⟨g', off', cap, cur, e0, e1, hg, h1, h2, h3, h4⟩
  · cases e0
  · cases e0; cases e1
    refine .inr ⟨_, off, c, _, rfl, rfl, heap_setCell_same w g (off + k) _ _ _ hg, h1, h2, by simpa using h3, ?_⟩
    apply List.ext_getElem?
    intro j
    rw [← h4]
    simp only [List.getElem?_take, List.getElem?_drop, List.getElem?_set]
    by_cases hj : j < n
    · simp only [if_pos hj]
      by_cases e : k = j
      · subst e
        have : off + k < cur.size := by omega
        simp [Array.getElem?_setIfInBounds, this, hj, List.length_take, List.length_drop]
        omega
      · rw [if_neg e]
        simp [Array.getElem?_setIfInBounds, e, hj]
    · simp only [if_neg hj]
      split
      · rename_i e; subst e
        exact absurd hk hj
      · rfl
end Go.Proofs.YthffegfcgmhppaaDoor
namespace Go.Proofs.YthffegfcgmhppaaDoor
open Go.RowKit
set_option linter.unusedSimpArgs false
set_option linter.unusedVariables false
/-- nothing -/
def noO : Obj := ⟨fun _ _ => True, fun _ _ _ => trivial⟩
/-- two things that lie apart -/
def pairO (o1 o2 : Obj) : Obj := ⟨fun B w => ∃ B1 B2, o1.at' B1 w ∧ o2.at' B2 w ∧ (∀ x, B1 x → ¬ B2 x) ∧ (∀ x, B1 x → B x) ∧ ∀ x, B2 x → B x, fun {B S w w'} h hk hs => by
  obtain ⟨B1, B2, h1, h2, h3, h4, h5⟩ := h
  exact ⟨B1, B2, o1.kept h1 hk (fun j hj hb => hs j hj (h4 j hb)), o2.kept h2 hk (fun j hj hb => hs j hj (h5 j hb)), h3, h4, h5⟩⟩
theorem Lv.join {w0 w : World} {L : List Obj} (h : Lv w0 w L) {i j : Nat} {o1 o2 : Obj} (hij : i ≠ j) (hi : L[i]? = some o1) (hj : L[j]? = some o2) : Lv w0 w ((L.set i (pairO o1 o2)).set j noO) := by
  obtain ⟨h1, Bs, h2, h3, h4⟩ := h
  have hil : i < L.length := (List.getElem?_eq_some_iff.1 hi).1
  have hjl : j < L.length := (List.getElem?_eq_some_iff.1 hj).1
  have hBi : Bs[i]? = some Bs[i] := List.getElem?_eq_getElem (by omega)
  have hBj : Bs[j]? = some Bs[j] := List.getElem?_eq_getElem (by omega)
  obtain ⟨e1, e2⟩ := h3 i o1 _ hi hBi
  obtain ⟨f1, f2⟩ := h3 j o2 _ hj hBj
  refine ⟨h1, (Bs.set i (fun x => Bs[i] x ∨ Bs[j] x)).set j (fun _ => False), by simp [h2], fun k o B hk hB => ?_, fun k l A C hkl hA hC x hx hx2 => ?_⟩
  · rw [List.getElem?_set] at hk hB
    by_cases e : j = k
    · subst e
      rw [if_pos rfl, if_pos (by simpa using hjl)] at hk
      rw [if_pos rfl, if_pos (by simp; omega)] at hB
      cases hk; cases hB
      exact ⟨trivial, fun _ h => h.elim⟩
    · rw [if_neg e, List.getElem?_set] at hk hB
      by_cases e3 : i = k
      · subst e3
        rw [if_pos rfl, if_pos hil] at hk
        rw [if_pos rfl, if_pos (by omega)] at hB
        cases hk; cases hB
        exact ⟨⟨_, _, e1, f1, h4 i j _ _ hij hBi hBj, fun _ h => .inl h, fun _ h => .inr h⟩, fun x hx => hx.elim (e2 x) (f2 x)⟩
      · rw [if_neg e3] at hk hB
        exact h3 k o B hk hB
  · have key : ∀ (k l : Nat) (A C : Nat → Prop), k ≠ l → ((Bs.set i (fun x => Bs[i] x ∨ Bs[j] x)).set j (fun _ => False))[k]? = some A → ((Bs.set i (fun x => Bs[i] x ∨ Bs[j] x)).set j (fun _ => False))[l]? = some C → k = i → ∀ x, A x → ¬ C x := by
      intro k l A C hkl hA hC e x hx hx2
      subst e
      rw [List.getElem?_set, if_neg (fun e => hij e.symm), List.getElem?_set, if_pos rfl, if_pos (by omega)] at hA
      cases hA
      rw [List.getElem?_set] at hC
      by_cases e : j = l
      · rw [if_pos e, if_pos (by simp; omega)] at hC
        cases hC
        exact hx2
      · rw [if_neg e, List.getElem?_set, if_neg hkl] at hC
        exact hx.elim (fun hx => h4 k l _ _ hkl hBi hC x hx hx2) (fun hx => h4 j l _ _ e hBj hC x hx hx2)
    by_cases ek : k = i
    · exact key k l A C hkl hA hC ek x hx hx2
    · by_cases el : l = i
      · exact key l k C A (fun e => hkl e.symm) hC hA el x hx2 hx
      · rw [List.getElem?_set] at hA hC
        by_cases e : j = k
        · rw [if_pos e, if_pos (by simp; omega)] at hA
          cases hA
          exact hx
        · rw [if_neg e, List.getElem?_set, if_neg (fun e => ek e.symm)] at hA
          by_cases e2 : j = l
          · rw [if_pos e2, if_pos (by simp; omega)] at hC
            cases hC
            exact hx2
          · rw [if_neg e2, List.getElem?_set, if_neg (fun e => el e.symm)] at hC
            exact h4 k l A C hkl hA hC x hx hx2
/-- a slice of slices of bytes: its row in block k, the bytes in Bf -/
def Recs (w : World) (k : Option Nat) (Bf : Nat → Prop) (v : Value) (rs : List (List UInt8)) : Prop :=
  ∃ ys, Rw w 34 k v rs.length ys ∧ ∀ j (hj : j < rs.length), ∃ a c, ys[j]? = some (.slice a rs[j].length c) ∧ Bs Bf w a rs[j].length c rs[j]
theorem Recs.kept {S Bf : Nat → Prop} {w w' : World} {k : Option Nat} {v : Value} {rs : List (List UInt8)} (h : Recs w k Bf v rs) (hk : Kept S w w') (hr : ∀ x, k = some x → ¬ S x) (hb : ∀ x, x < w.heap.size → Bf x → ¬ S x) : Recs w' k Bf v rs := by
  obtain ⟨ys, h1, h2⟩ := h
  refine ⟨ys, h1.kept hk hr, fun j hj => ?_⟩
  obtain ⟨a, c, h3, h4⟩ := h2 j hj
  exact ⟨a, c, h3, h4.kept hk hb⟩
theorem Recs.dom {Bf Bf' : Nat → Prop} {w : World} {k : Option Nat} {v : Value} {rs : List (List UInt8)} (h : Recs w k Bf v rs) (hb : ∀ x, Bf x → Bf' x) : Recs w k Bf' v rs := by
  obtain ⟨ys, h1, h2⟩ := h
  exact ⟨ys, h1, fun j hj => by obtain ⟨a, c, h3, h4⟩ := h2 j hj; exact ⟨a, c, h3, h4.dom hb⟩⟩
theorem Recs.lt {Bf : Nat → Prop} {w : World} {k : Option Nat} {v : Value} {rs : List (List UInt8)} (h : Recs w k Bf v rs) : ∀ x, k = some x → x < w.heap.size := by
  obtain ⟨ys, h1, _⟩ := h
  exact h1.lt
theorem Recs.nil (w : World) : Recs w none (fun _ => False) (.slice none 0 0) [] := ⟨[], Rw.nil _ _, fun j hj => absurd hj (by simp)⟩
/-- a slice value of such records -/
theorem Rw.shape {w : World} {e : TypeId} {k : Option Nat} {v : Value} {n : Nat} {xs : List Value} (h : Rw w e k v n xs) : ∃ a c, v = .slice a n c ∧ n ≤ c ∧ c ≤ 9223372036854775807 := by
  rcases h.2 with ⟨_, rfl, rfl⟩ | ⟨g, off, cap, cur, _, rfl, _, h1, h2, _⟩
  · exact ⟨none, 0, rfl, Nat.le_refl _, by omega⟩
  · exact ⟨_, _, rfl, h1, h2⟩
theorem Recs.shape {Bf : Nat → Prop} {w : World} {k : Option Nat} {v : Value} {rs : List (List UInt8)} (h : Recs w k Bf v rs) : ∃ a c, v = .slice a rs.length c ∧ rs.length ≤ c ∧ c ≤ 9223372036854775807 := by
  obtain ⟨ys, h1, _⟩ := h
  exact h1.shape
/-- record j of them, as it is read -/
theorem Recs.look {Bf : Nat → Prop} {w : World} {k : Option Nat} {a : Option Addr} {n c : Nat} {rs : List (List UInt8)} (h : Recs w k Bf (.slice a n c) rs) (j : Nat) (hj : j < rs.length) :
    ∃ g off b cb, k = some g ∧ a = some ⟨g, off, none⟩ ∧ g < w.heap.size ∧ w.cell? ⟨g, off + j, none⟩ = some (.slice b rs[j].length cb) ∧ Bs Bf w b rs[j].length cb rs[j] := by
  obtain ⟨ys, h1, h2⟩ := h
  obtain ⟨g, off, cap, hk, hv, _, _, hg, hc⟩ := h1.at (by omega)
  obtain ⟨b, cb, h3, h4⟩ := h2 j hj
  have hjl : j < ys.length := by rw [h1.1]; exact hj
  have := hc j hjl
  rw [List.getElem?_eq_getElem hjl] at h3
  rw [Option.some.inj h3] at this
  cases hv
  exact ⟨g, off, b, cb, hk, rfl, hg, this, h4⟩
/-- records that can be read -/
def RdR (D : Nat → Prop) (w : World) (a : Option Addr) (n c : Nat) (rs : List (List UInt8)) : Prop :=
  rs.length = n ∧ n ≤ c ∧ c ≤ 9223372036854775807 ∧ ∀ j (hj : j < rs.length), ∃ g off b cb, D g ∧ a = some ⟨g, off, none⟩ ∧ g < w.heap.size ∧ w.cell? ⟨g, off + j, none⟩ = some (.slice b rs[j].length cb) ∧ Bs D w b rs[j].length cb rs[j]
theorem RdR.kept {S D : Nat → Prop} {w w' : World} {a : Option Addr} {n c : Nat} {rs : List (List UInt8)} (h : RdR D w a n c rs) (hk : Kept S w w') (hs : ∀ x, x < w.heap.size → D x → ¬ S x) : RdR D w' a n c rs := by
  obtain ⟨h1, h2, h3, h4⟩ := h
  refine ⟨h1, h2, h3, fun j hj => ?_⟩
  obtain ⟨g, off, b, cb, e1, e2, e3, e4, e5⟩ := h4 j hj
  exact ⟨g, off, b, cb, e1, e2, Nat.lt_of_lt_of_le e3 hk.size, (hk.cell (p := ⟨g, off + j, none⟩) e3 (hs g e3 e1)).trans e4, e5.kept hk hs⟩
theorem RdR.below {D : Nat → Prop} {w w' : World} {a : Option Addr} {n c : Nat} {rs : List (List UInt8)} (h : RdR D w a n c rs) (hb : Below w.heap.size w w') : RdR D w' a n c rs := h.kept (Kept.of_below (fun _ => False) hb) (fun _ _ _ h => h)
theorem Recs.rd {Bf D : Nat → Prop} {w : World} {k : Option Nat} {a : Option Addr} {n c : Nat} {rs : List (List UInt8)} (h : Recs w k Bf (.slice a n c) rs) (hk : ∀ x, k = some x → D x) (hb : ∀ x, Bf x → D x) : RdR D w a n c rs := by
  obtain ⟨a', c', e, h1, h2⟩ := h.shape
  cases e
  refine ⟨rfl, h1, h2, fun j hj => ?_⟩
  obtain ⟨g, off, b, cb, e1, e2, e3, e4, e5⟩ := h.look j hj
  exact ⟨g, off, b, cb, hk g e1, e2, e3, e4, e5.dom hb⟩
theorem RdR.from {D : Nat → Prop} {w : World} {a : Option Addr} {n c : Nat} {rs : List (List UInt8)} (h : RdR D w a n c rs) (s : Nat) (hs : s ≤ n) : RdR D w (if c = s then a else Option.map (fun x => x.add s) a) (n - s) (c - s) (rs.drop s) := by
  obtain ⟨h1, h2, h3, h4⟩ := h
  refine ⟨by rw [List.length_drop, h1], by omega, by omega, fun j hj => ?_⟩
  rw [List.length_drop] at hj
  obtain ⟨g, off, b, cb, e1, rfl, e3, e4, e5⟩ := h4 (s + j) (by omega)
  rw [if_neg (by omega)]
  refine ⟨g, off + s, b, cb, e1, by simp [Addr.add_mid], e3, ?_, ?_⟩
  · rw [Nat.add_assoc, e4, List.getElem_drop]
  · rw [List.getElem_drop]; exact e5
theorem RdR.upto {D : Nat → Prop} {w : World} {a : Option Addr} {n c : Nat} {rs : List (List UInt8)} (h : RdR D w a n c rs) (s : Nat) (hs : s ≤ n) : RdR D w a s c (rs.take s) := by
  obtain ⟨h1, h2, h3, h4⟩ := h
  refine ⟨by rw [List.length_take]; omega, by omega, h3, fun j hj => ?_⟩
  rw [List.length_take] at hj
  obtain ⟨g, off, b, cb, e⟩ := h4 j (by omega)
  refine ⟨g, off, b, cb, ?_⟩
  simp only [List.getElem_take]
  exact e
theorem RdR.nil (w : World) : RdR (fun _ => False) w none 0 0 [] := ⟨rfl, Nat.le_refl _, by omega, fun j hj => absurd hj (by simp)⟩
/-- some records as a thing -/
def recsO (v : Value) (rs : List (List UInt8)) : Obj := ⟨fun B w => ∃ k Bf, Recs w k Bf v rs ∧ (∀ x, k = some x → B x ∧ ¬ Bf x) ∧ ∀ x, Bf x → B x, fun {B S w w'} h hk hs => by
  obtain ⟨k, Bf, h1, h2, h3⟩ := h
  exact ⟨k, Bf, h1.kept hk (fun x hx => hs x (h1.lt x hx) (h2 x hx).1) (fun x hx hb => hs x hx (h3 x hb)), h2, h3⟩⟩
theorem Lv.recs0 {w0 w : World} {L : List Obj} (h : Lv w0 w L) : Lv w0 w (recsO (.slice none 0 0) [] :: L) :=
  h.cons (Below.refl _ _) (B := fun _ => False) ⟨none, fun _ => False, Recs.nil w, (fun _ h => by cases h), fun _ h => h⟩ (fun _ h => h.elim)
/-- a log: its place, its round and its end, its records, how many are durable, what they count for -/
structure LM where
  frm : Nat
  n : Nat
  rnd : Nat
  en : Nat
  recs : List (List UInt8)
  syn : Nat
  tak : Nat
def LM.cells (g : Nat) (m : LM) (v : Value) : List Value := [.pointer (some ⟨g, 0, none⟩), .int .i64 (m.frm : Int), .int .i64 (m.n : Int), .int .u8 (m.rnd : Int), .int .i64 (m.en : Int), v, .int .i64 (m.syn : Int), .int .i64 (m.tak : Int)]
structure Lg (w : World) (gl g : Nat) (k : Option Nat) (Bf : Nat → Prop) (v : Value) (m : LM) : Prop where
  self : w.heap[gl]? = some (.cells (LM.cells g m v).toArray 62 (0, 0))
  recs : Recs w k Bf v m.recs
  ap : k ≠ some gl ∧ ¬ Bf gl ∧ ∀ x, k = some x → ¬ Bf x
  lt : ∀ x, Bf x → x < w.heap.size
def LBlk (gl : Nat) (k : Option Nat) (Bf : Nat → Prop) (x : Nat) : Prop := x = gl ∨ k = some x ∨ Bf x
theorem Lg.blk_lt {w : World} {gl g : Nat} {k : Option Nat} {Bf : Nat → Prop} {v : Value} {m : LM} (h : Lg w gl g k Bf v m) : ∀ x, LBlk gl k Bf x → x < w.heap.size := by
  rintro x (rfl | hx | hx)
  · exact (Array.getElem?_eq_some_iff.1 h.self).1
  · exact h.recs.lt x hx
  · exact h.lt x hx
theorem Lg.kept {S : Nat → Prop} {w w' : World} {gl g : Nat} {k : Option Nat} {Bf : Nat → Prop} {v : Value} {m : LM} (h : Lg w gl g k Bf v m) (hk : Kept S w w') (hs : ∀ x, LBlk gl k Bf x → ¬ S x) : Lg w' gl g k Bf v m :=
  ⟨hk.heap h.self (hs gl (.inl rfl)), h.recs.kept hk (fun x hx => hs x (.inr (.inl hx))) (fun x _ hx => hs x (.inr (.inr hx))), h.ap, fun x hx => Nat.lt_of_lt_of_le (h.lt x hx) hk.size⟩
def logO (gl g : Nat) (m : LM) : Obj := ⟨fun B w => ∃ k Bf v, Lg w gl g k Bf v m ∧ ∀ x, LBlk gl k Bf x → B x, fun {B S w w'} h hk hs => by
  obtain ⟨k, Bf, v, h1, h2⟩ := h
  exact ⟨k, Bf, v, h1.kept hk (fun x hx => hs x (h1.blk_lt x hx) (h2 x hx)), h2⟩⟩
/-- what a walk reads of a log -/
theorem Lg.facts {w : World} {gl g : Nat} {k : Option Nat} {Bf : Nat → Prop} {v : Value} {m : LM} (h : Lg w gl g k Bf v m) : ∃ a c, v = .slice a m.recs.length c ∧ m.recs.length ≤ c ∧ c ≤ 9223372036854775807 ∧ gl < w.heap.size ∧
    w.cell? ⟨gl, 0, none⟩ = some (.pointer (some ⟨g, 0, none⟩)) ∧ w.cell? ⟨gl, 1, none⟩ = some (.int .i64 (m.frm : Int)) ∧ w.cell? ⟨gl, 2, none⟩ = some (.int .i64 (m.n : Int)) ∧ w.cell? ⟨gl, 3, none⟩ = some (.int .u8 (m.rnd : Int)) ∧ w.cell? ⟨gl, 4, none⟩ = some (.int .i64 (m.en : Int)) ∧
    w.cell? ⟨gl, 5, none⟩ = some (.slice a m.recs.length c) ∧ w.cell? ⟨gl, 6, none⟩ = some (.int .i64 (m.syn : Int)) ∧ w.cell? ⟨gl, 7, none⟩ = some (.int .i64 (m.tak : Int)) ∧ ∀ j, w.frozen? ⟨gl, j, none⟩ = false := by
  obtain ⟨a, c, rfl, h1, h2⟩ := h.recs.shape
  have hc : ∀ j u, (LM.cells g m (.slice a m.recs.length c))[j]? = some u → w.cell? ⟨gl, j, none⟩ = some u := by
    intro j u hu
    rw [cell_of_row w gl j _ _ _ h.self]
    simpa using hu
  exact ⟨a, c, rfl, h1, h2, (Array.getElem?_eq_some_iff.1 h.self).1, hc 0 _ rfl, hc 1 _ rfl, hc 2 _ rfl, hc 3 _ rfl, hc 4 _ rfl, hc 5 _ rfl, hc 6 _ rfl, hc 7 _ rfl, fun j => frozen_of_row w gl j _ _ h.self⟩
theorem Lv.log {w0 w : World} {L : List Obj} (h : Lv w0 w L) {i gl g : Nat} {m : LM} (hi : L[i]? = some (logO gl g m)) : ∃ k Bf v B, Lg w gl g k Bf v m ∧ (∀ x, LBlk gl k Bf x → B x) ∧ (∀ j, B j → w0.heap.size ≤ j ∧ j < w.heap.size) ∧
    ∀ (w' : World) (k' : Option Nat) (Bf' : Nat → Prop) (v' : Value) (m' : LM), Lg w' gl g k' Bf' v' m' → Kept B w w' → (∀ x, LBlk gl k' Bf' x → B x ∨ w.heap.size ≤ x) → Lv w0 w' (L.set i (logO gl g m')) := by
  obtain ⟨B, ⟨k, Bf, v, h1, h2⟩, h3, _, h4⟩ := h.get hi
  exact ⟨k, Bf, v, B, h1, h2, h3, fun w' k' Bf' v' m' hl hk hB => h4 w' _ (LBlk gl k' Bf') ⟨k', Bf', v', hl, fun _ h => h⟩ hk hB (fun j hj => hl.blk_lt j hj)⟩
/-- the log's own block is changed, its records stay -/
theorem Lg.put {w w' : World} {gl g : Nat} {k : Option Nat} {Bf : Nat → Prop} {v : Value} {m m' : LM} (h : Lg w gl g k Bf v m) (hr : m'.recs = m.recs) (hs : w'.heap[gl]? = some (.cells (LM.cells g m' v).toArray 62 (0, 0))) (hk : Kept (fun x => x = gl) w w') : Lg w' gl g k Bf v m' :=
  ⟨hs, by rw [hr]; exact h.recs.kept hk (fun x hx e => h.ap.1 (by rw [hx, e])) (fun x _ hx e => h.ap.2.1 (by rw [← e]; exact hx)), h.ap, fun x hx => Nat.lt_of_lt_of_le (h.lt x hx) hk.size⟩
theorem Lv.logFacts {w0 w : World} {L : List Obj} (h : Lv w0 w L) {i gl g : Nat} {m : LM} (hi : L[i]? = some (logO gl g m)) : ∃ a c, m.recs.length ≤ c ∧ c ≤ 9223372036854775807 ∧ gl < w.heap.size ∧
    w.cell? ⟨gl, 0, none⟩ = some (.pointer (some ⟨g, 0, none⟩)) ∧ w.cell? ⟨gl, 1, none⟩ = some (.int .i64 (m.frm : Int)) ∧ w.cell? ⟨gl, 2, none⟩ = some (.int .i64 (m.n : Int)) ∧ w.cell? ⟨gl, 3, none⟩ = some (.int .u8 (m.rnd : Int)) ∧ w.cell? ⟨gl, 4, none⟩ = some (.int .i64 (m.en : Int)) ∧
    w.cell? ⟨gl, 5, none⟩ = some (.slice a m.recs.length c) ∧ w.cell? ⟨gl, 6, none⟩ = some (.int .i64 (m.syn : Int)) ∧ w.cell? ⟨gl, 7, none⟩ = some (.int .i64 (m.tak : Int)) ∧ ∀ j, w.frozen? ⟨gl, j, none⟩ = false := by
  obtain ⟨k, Bf, v, B, h1, _⟩ := h.log hi
  obtain ⟨a, c, _, h2⟩ := h1.facts
  exact ⟨a, c, h2⟩
end Go.Proofs.YthffegfcgmhppaaDoor
namespace Go.Proofs.YthffegfcgmhppaaDoor
open Go.RowKit
set_option linter.unusedSimpArgs false
set_option linter.unusedVariables false
theorem or_mul (a b i m : Nat) (hm : m = 2 ^ i) (h : a < m) : a ||| (b * m) = b * m + a := by
  subst hm
  rw [Nat.or_comm, ← Nat.shiftLeft_eq, Nat.shiftLeft_add_eq_or_of_lt h]
theorem i64_or_nat (a b : Nat) (ha : a < 4294967296) (hb : b < 4294967296) : bits .or .i64 (a : Int) (b : Int) = ((a ||| b : Nat) : Int) := by
  have hab : a ||| b < 4294967296 := Nat.or_lt_two_pow (n := 32) ha hb
  show IntKind.i64.wrap ((BitVec.ofInt 64 (a : Int) ||| BitVec.ofInt 64 (b : Int)).toNat : Int) = _
  have e1 : (BitVec.ofInt 64 (a : Int)).toNat = a := by simp [BitVec.toNat_ofInt]; omega
  have e2 : (BitVec.ofInt 64 (b : Int)).toNat = b := by simp [BitVec.toNat_ofInt]; omega
  rw [BitVec.toNat_or, e1, e2]
  exact i64_id _ (by omega) (by omega)
theorem or_three (h m l : Nat) (hh : h < 256) (hm : m < 256) (hl : l < 256) : bits .or .i64 (bits .or .i64 ((h : Int) * 65536) ((m : Int) * 256)) (l : Int) = ((h * 65536 + m * 256 + l : Nat) : Int) := by
  have e1 : ((h : Int) * 65536) = ((h * 65536 : Nat) : Int) := by omega
  have e2 : ((m : Int) * 256) = ((m * 256 : Nat) : Int) := by omega
  rw [e1, e2, i64_or_nat _ _ (by omega) (by omega), Nat.or_comm, or_mul (m * 256) h 16 65536 (by decide) (by omega), i64_or_nat _ _ (by omega) (by omega), Nat.or_comm]
  have e3 : h * 65536 + m * 256 = (h * 256 + m) * 256 := by omega
  rw [e3, or_mul l (h * 256 + m) 8 256 (by decide) (by omega)]
theorem or_two (h l : Nat) (hh : h < 256) (hl : l < 256) : bits .or .i64 ((h : Int) * 256) (l : Int) = ((h * 256 + l : Nat) : Int) := by
  have e1 : ((h : Int) * 256) = ((h * 256 : Nat) : Int) := by omega
  rw [e1, i64_or_nat _ _ (by omega) (by omega), Nat.or_comm, or_mul l h 8 256 (by decide) (by omega)]
theorem run_allocS (W : World) : (Instr.alloc 60 true (.tuple #[])).run Tryd.prog W = .ok (.pointer (some ⟨W.heap.size, 0, none⟩)) (W.alloc (.cells #[.int .u8 0, .int .i64 0] 60)) := by kernel_rfl
theorem run_buildS (r e : Int) (W : World) : (Instr.build 60 #[(0, .int .u8 r), (1, .int .i64 e)]).run Tryd.prog W = .ok (.agg #[.int .u8 r, .int .i64 e]) W := by kernel_rfl
theorem sizeS (r e : Value) : (Tryd.prog.info? 60).map (·.size) = some (#[r, e] : Array Value).size := by kernel_rfl
theorem oneS (r e : Int) : (#[.int .u8 r, .int .i64 e] : Array Value).all (·.oneCell') = true := by simp [Value.oneCell']
set_option maxRecDepth 100000 in
set_option maxHeartbeats 1000000 in
theorem decode_any (r h m l : Nat) (hr : r < 256) (hh : h < 256) (hm : m < 256) (hl : l < 256) (w : World) :
    Calls Tryd.prog 62 #[.int .u8 (r : Int), .int .u8 (h : Int), .int .u8 (m : Int), .int .u8 (l : Int)] w fun e w' => e = .returned (.agg #[.int .u8 (r : Int), .int .i64 ((h * 65536 + m * 256 + l : Nat) : Int)]) ∧ Below w.heap.size w w' := by
  have hb := run_buildS
  have ho := or_three h m l hh hm hl
  obtain ⟨E, hE⟩ : ∃ E, E = h * 65536 + m * 256 + l := ⟨_, rfl⟩
  rw [← hE] at ho ⊢
  have HO := Lib.hid ho
  clear hE ho
  go_enter Tryd.func62, Tryd.ntmps62
  go_wp2_with (first
    | (refine wpList_alloc_z rfl 60 rfl _ 60 run_allocS ?_)
    | (refine wpList_store_row rfl 60 (.tmp 8) (.tmp 20) rfl w.heap.size _ rfl rfl 60 _ (heap_new rfl) (sizeS _ _) rfl (oneS _ _) ?_))
  refine bodyPost_ret (results_cell_row rfl _ _ w.heap.size 60 _ (0, 0) _ rfl (setRow_heap _ _ _ _ _ _ (heap_new rfl)) Tryd.underlying60 rfl (sizeS _ _)) rfl ⟨?_, below_setRow ((Below.refl _ _).alloc (Nat.le_refl _) _) (Nat.le_refl _) _⟩
  rw [HO.out]
end Go.Proofs.YthffegfcgmhppaaDoor
namespace Go.Proofs.YthffegfcgmhppaaDoor
open Go.RowKit
set_option linter.unusedSimpArgs false
set_option linter.unusedVariables false
theorem run_build0b (W : World) : (Instr.buildSlice 34 0 #[]).run Tryd.prog W = .ok (.slice (some ⟨W.heap.size, 0, none⟩) 0 0) (W.alloc (.cells #[] 5)) := by kernel_rfl
set_option maxRecDepth 100000 in
set_option maxHeartbeats 400000 in
theorem cloneB_any (Z : Nat → Prop) (a : Option Addr) (n c : Nat) (l : List UInt8) (w : World) (hB : Bs Z w a n c l) (hn : n ≤ 1000000) :
    Calls Tryd.prog 26 #[.slice a n c] w fun e w' => ∃ v, e = .returned v ∧ Made w v l w' := by
  obtain ⟨i0, hi, hz0, hz1, hz2⟩ := info_parts info5
  have hl := hB.1
  have hc1 : n ≤ c := hB.2.2.1
  have hc2 : c ≤ 9223372036854775807 := hB.2.2.2.1
  match a, hB with
  | none, hB =>
    have hc0 : c = 0 := hB.2.2.2.2.1 rfl
    obtain rfl : n = 0 := by omega
    subst hc0
    obtain rfl : l = [] := List.eq_nil_of_length_eq_zero hl
    clear hB
    have ke := fun (w : World) => Lib.run_eql_slice_nil (P := Tryd.prog) w 34 5 none 0 0 0 0 Tryd.underlying34
    go_enter Tryd.func26, Tryd.ntmps26
    go_wp2
    go_ret
    exact ⟨_, rfl, none, Own.nil _ _ _, (fun j h => by cases h), Below.refl _ _⟩
  | some ad, hB =>
    have HB := Lib.hid hB
    have ke := fun (w : World) => Lib.run_eql_slice_nil (P := Tryd.prog) w 34 5 (some ad) n c 0 0 Tryd.underlying34
    have hb0 := run_build0b
    have HLn := Lib.hid hl
    clear hB hl
    go_enter Tryd.func26, Tryd.ntmps26
    go_wp2_with (at_builtin; refine wpList_append_any _ rfl (.tmp 5) (.tmp 6) 34 34 rfl 5 i0 _ 1 1 Tryd.underlying34 hi hz0 hz1 hz2 rfl (some w.heap.size) _ 0 [] rfl (Own.made w 5 1 #[] 0 (Nat.zero_le _) rfl) n (vals l) ((HB.out.kept ((Kept.refl (fun _ => False) w).alloc _) (fun _ _ _ h => h)).src Tryd.underlying34) (by unfold maxLen; omega) (by omega) ?_)
    intro k' v' w' ho hf hK hn
    have R : Made w v' l w' := ⟨k', by rw [HLn.out]; first | exact ho | (rw [Nat.zero_add] at ho; exact ho), fun j hj => by
      rcases hf j hj with h | h
      · cases h; exact Nat.le_refl _
      · exact Nat.le_trans (by simp) h, ((Below.refl w.heap.size w).alloc (Nat.le_refl _) _).trans (hK.below (by simp) (fun j hj h => by cases h; omega))⟩
    have HR := Lib.hid R
    clear R ho hf hK hn
    go_wp2
    go_ret
    exact ⟨_, rfl, HR.out⟩
/-- a record behind its length -/
def joinB (rs : List (List UInt8)) : List UInt8 := rs.flatMap fun r => UInt8.ofNat (r.length / 256) :: UInt8.ofNat r.length :: r
theorem joinB_snoc (rs : List (List UInt8)) (r : List UInt8) : joinB (rs ++ [r]) = (joinB rs ++ [UInt8.ofNat (r.length / 256), UInt8.ofNat r.length]) ++ r := by simp [joinB]
theorem joinB_app (rs qs : List (List UInt8)) : joinB (rs ++ qs) = joinB rs ++ joinB qs := by simp [joinB]
def lenB (rs : List (List UInt8)) : Nat := (rs.map fun r => r.length + 2).sum
theorem joinB_len (rs : List (List UInt8)) : (joinB rs).length = lenB rs := by
  induction rs with
  | nil => rfl
  | cons r rs ih =>
    have e1 : joinB (r :: rs) = UInt8.ofNat (r.length / 256) :: UInt8.ofNat r.length :: (r ++ joinB rs) := by simp [joinB]
    have e2 : lenB (r :: rs) = r.length + 2 + lenB rs := by simp [lenB]
    rw [e1, e2, List.length_cons, List.length_cons, List.length_append, ih]
    omega
theorem lenB_take (rs : List (List UInt8)) (i : Nat) : lenB (rs.take i) ≤ lenB rs := by
  induction rs generalizing i with
  | nil => simp [lenB]
  | cons r rs ih =>
    cases i with
    | zero => simp [lenB]
    | succ i =>
      have := ih i
      simp only [lenB, List.take_succ_cons, List.map_cons, List.sum_cons] at this ⊢
      omega
theorem run_build2b (x y : Int) (W : World) : (Instr.buildSlice 34 2 #[(0, .int .u8 x), (1, .int .u8 y)]).run Tryd.prog W = .ok (.slice (some ⟨W.heap.size, 0, none⟩) 2 2) (W.alloc (.cells #[.int .u8 x, .int .u8 y] 5)) := by kernel_rfl
theorem src_bytes {w : World} {g : Nat} {us : List UInt8} (hg : w.heap[g]? = some (.cells (vals us).toArray 5 (0, 0))) : Src Tryd.prog 1 34 (.slice (some ⟨g, 0, none⟩) us.length us.length) us.length (vals us) w :=
  Src.ofSlice w Tryd.underlying34 ⟨g, 0, none⟩ us.length us.length (vals us) (by rw [vals_len]; omega) (fun j u hu => by rw [Addr.add_mid, Nat.zero_add, cell_of_row w g j _ _ _ hg]; simpa using hu) (vals_one us)
theorem u8_ofNat (n : Nat) : ((UInt8.ofNat n).toNat : Int) = ((n % 256 : Nat) : Int) := by rw [UInt8.toNat_ofNat']
theorem Lv.madeOf {w w' : World} {v : Value} {l : List UInt8} (h : Lv w w' [baccO v l]) : Made w v l w' := by
  obtain ⟨B, ⟨k, h1, h2⟩, h3, _⟩ := h.get (i := 0) rfl
  exact ⟨k, h1, fun j hj => (h3 j (h2 j hj)).1, h.args⟩
set_option maxRecDepth 100000 in
set_option maxHeartbeats 2000000 in
theorem join_any (Bf : Nat → Prop) (a : Option Addr) (n c : Nat) (rs : List (List UInt8)) (w : World) (hR : RdR Bf w a n c rs) (h64 : ∀ r ∈ rs, r.length < 65536) (hb : lenB rs ≤ 1000000) :
    Calls Tryd.prog 27 #[.slice a n c] w fun e w' => ∃ v, e = .returned v ∧ Made w v (joinB rs) w' := by
  obtain ⟨hn, hs1, hs2, hlook⟩ := hR
  have hR : RdR Bf w a n c rs := ⟨hn, hs1, hs2, hlook⟩
  have HR := Lib.hid hR
  have H64 := Lib.hid h64
  have HB := Lib.hid hb
  have hsm : rs.length ≤ 1000000 := by
    have : ∀ rs : List (List UInt8), rs.length ≤ lenB rs := by
      intro rs
      induction rs with
      | nil => exact Nat.le_refl _
      | cons r rs ih => simp only [lenB, List.map_cons, List.sum_cons, List.length_cons] at ih ⊢; omega
    exact Nat.le_trans (this rs) hb
  have HSM := Lib.hid hsm
  have HLK := Lib.hid hlook
  have HN := Lib.hid hn.symm
  rw [hn] at HSM
  clear hR h64 hb hsm hlook hn
  go_enter Tryd.func27, Tryd.ntmps27
  go_wp2_with fail
  go_loopw [3, 8] (fun u t wr => ∃ (i : Nat) (v0 : Value), i ≤ n ∧ v0 = u ∧ t = .int .i64 (i : Int) ∧ Lv w wr [baccO v0 (joinB (rs.take i))]) (fun _ t _ => n - (intOf t).toNat)
  case atStart => exact ⟨0, _, Nat.zero_le _, rfl, rfl, (Lv.refl w).bacc0⟩
  case round =>
    obtain ⟨i, v0, hi, hv0, rfl, hL⟩ := hrel
    subst hv0
    have HL := Lib.hid hL
    clear hL
    by_cases hlt : i < n
    · have hn2 : (i : Int) < (n : Int) := by omega
      have hw1 : IntKind.i64.wrap ((i : Int) + 1) = (i : Int) + 1 := i64_id _ (by omega) (by omega)
      obtain ⟨r, hr⟩ : ∃ r, r = rs[i]'(by rw [← HN.out]; exact hlt) := ⟨_, rfl⟩
      obtain ⟨g, off, b, cb, -, rfl, hg, hcell0, hbs⟩ := HLK.out i (by rw [← HN.out]; exact hlt)
      have hcell := (HL.out.args.cell (p := ⟨g, off + i, none⟩) hg).trans hcell0
      clear hcell0
      rw [← hr] at hcell hbs
      have hr64 : r.length < 65536 := H64.out r (by rw [hr]; exact List.getElem_mem _)
      have HBS := Lib.hid hbs
      have hcb1 : r.length ≤ cb := hbs.2.2.1
      have hcb2 : cb ≤ 9223372036854775807 := hbs.2.2.2.1
      have hbld := run_build2b
      obtain ⟨R, hRl⟩ : ∃ R, R = r.length := ⟨_, rfl⟩
      obtain ⟨us, hus⟩ : ∃ us : List UInt8, us = [UInt8.ofNat (R / 256), UInt8.ofNat R] := ⟨_, rfl⟩
      have hm1 : IntKind.u8.wrap ((R : Int) / 256) = ((R / 256 : Nat) : Int) := by rw [IntKind.wrap_u8]; omega
      have hm2 : IntKind.u8.wrap (R : Int) = ((R % 256 : Nat) : Int) := by rw [IntKind.wrap_u8]; omega
      have HUV : Hid (vals us = [.int .u8 ((R / 256 : Nat) : Int), .int .u8 ((R % 256 : Nat) : Int)]) := Lib.hid (by
        rw [hus]
        have : R / 256 % 256 = R / 256 := by omega
        simp only [vals, List.map_cons, List.map_nil, u8_ofNat, this])
      have HUL : Hid (us.length = 2) := Lib.hid (by rw [hus]; rfl)
      have HTK : Hid (joinB (rs.take (i + 1)) = (joinB (rs.take i) ++ us) ++ r) := Lib.hid (by
        rw [List.take_succ_eq_append_getElem (by rw [← HN.out]; exact hlt), joinB_snoc, hus, ← hr, hRl])
      have HLE : Hid ((joinB (rs.take i)).length + us.length + r.length ≤ 1000000) := Lib.hid (by
        have e1 := joinB_len (rs.take (i + 1))
        have e2 := lenB_take rs (i + 1)
        rw [HTK.out, List.length_append, List.length_append] at e1
        have := HB.out
        omega)
      rw [← hRl] at hcell hr64 hcb1 HBS
      have HRL := Lib.hid hRl
      obtain ⟨JT, hJT⟩ : ∃ JT, JT = joinB (rs.take i) := ⟨_, rfl⟩
      rw [← hJT] at HL HTK HLE
      obtain ⟨RH, hRH⟩ : ∃ RH, RH = R / 256 := ⟨_, rfl⟩
      obtain ⟨RM, hRM⟩ : ∃ RM, RM = R % 256 := ⟨_, rfl⟩
      rw [← hRH] at hm1 HUV
      rw [← hRM] at hm2 HUV
      have HSRC : Hid (Src Tryd.prog 1 34 (.slice (some ⟨wr.heap.size, 0, none⟩) 2 2) us.length (vals us) (wr.alloc (.cells #[.int .u8 (RH : Int), .int .u8 (RM : Int)] 5))) := Lib.hid (by
        have := src_bytes (us := us) (g := wr.heap.size) (w := wr.alloc (.cells #[.int .u8 (RH : Int), .int .u8 (RM : Int)] 5)) (by rw [HUV.out]; exact heap_new rfl)
        rw [HUL.out] at this ⊢
        exact this)
      have HLn : Hid (Lv w (wr.alloc (.cells #[.int .u8 (RH : Int), .int .u8 (RM : Int)] 5)) [baccO v0 JT]) := Lib.hid (HL.out.below ((Below.refl _ _).alloc (Nat.le_refl _) _))
      have HG1 : Hid True := Lib.hid trivial
      clear hr hJT hus hRH hRM hRl hg hbs HL
      go_wp2_with (first
        | (have x1 := HG1; at_builtin; refine wpList_bacc HLn.out (i := 0) (v := v0) (l := JT) rfl rfl (.tmp 12) (.tmp 20) rfl rfl us HSRC.out (by have := HLE.out; omega) ?_; clear HLn HSRC; intro v2 w2 hl2; have HL2 := Lib.hid hl2; have HG2 := x1; clear hl2 x1 HG1)
        | (have x1 := HG2; at_builtin; refine wpList_bacc HL2.out (i := 0) (v := v2) (l := JT ++ us) rfl rfl (.tmp 22) (.tmp 23) rfl rfl r (by have e := HRL.out; have hb := HBS.out; subst e; exact (hb.kept (Kept.of_below (fun _ => False) HL2.out.args) (fun _ _ _ h => h)).src Tryd.underlying34) (by rw [List.length_append]; have := HLE.out; omega) ?_; clear HL2; intro v3 w3 hl3; have HL3 := Lib.hid hl3; clear hl3 x1 HG2))
      go_roundw
      case rel => exact ⟨i + 1, _, by omega, rfl, by go_num, by rw [HTK.out]; exact HL3.out⟩
      case measure => simp [intOf]; omega
    · obtain rfl : i = n := by omega
      have hm := HL.out.madeOf
      have e1 : rs.take i = rs := List.take_of_length_le (by rw [← HN.out]; exact Nat.le_refl _)
      rw [e1] at hm
      have HM := Lib.hid hm
      clear hm e1 HL
      go_wp2
      go_ret
      exact ⟨_, rfl, HM.out⟩
end Go.Proofs.YthffegfcgmhppaaDoor
namespace Go.Proofs.YthffegfcgmhppaaDoor
open Go.RowKit
set_option linter.unusedSimpArgs false
set_option linter.unusedVariables false
theorem info56 : (Tryd.prog.info? 22).map (fun i => (i.zero, i.size, i.bytes)) = some (some (.slice none 0 0), 1, 24) := by kernel_rfl
theorem info32 : (Tryd.prog.info? 34).map (fun i => (i.zero, i.size, i.bytes)) = some (some (.slice none 0 0), 1, 24) := by kernel_rfl
/-- the slice v, in block r, has these bytes; they lie in Bf -/
def InR (w : World) (Bf : Nat → Prop) (r : Nat) (v : Value) (s : List (List UInt8)) : Prop :=
  ∃ ys, Rw w 34 (some r) v s.length ys ∧ ∀ j (hj : j < s.length), ∃ a c, ys[j]? = some (.slice a 64 c) ∧ Bs Bf w a 64 c s[j]
theorem InR.kept {S Bf : Nat → Prop} {w w' : World} {r : Nat} {v : Value} {s : List (List UInt8)} (h : InR w Bf r v s) (hk : Kept S w w') (hr : ¬ S r) (hb : ∀ x, x < w.heap.size → Bf x → ¬ S x) : InR w' Bf r v s := by
  obtain ⟨ys, h1, h2⟩ := h
  refine ⟨ys, h1.kept hk (fun j hj => by cases hj; exact hr), fun j hj => ?_⟩
  obtain ⟨a, c, h3, h4⟩ := h2 j hj
  exact ⟨a, c, h3, h4.kept hk hb⟩
theorem InR.dom {Bf Bf' : Nat → Prop} {w : World} {r : Nat} {v : Value} {s : List (List UInt8)} (h : InR w Bf r v s) (hb : ∀ x, Bf x → Bf' x) : InR w Bf' r v s := by
  obtain ⟨ys, h1, h2⟩ := h
  exact ⟨ys, h1, fun j hj => by obtain ⟨a, c, h3, h4⟩ := h2 j hj; exact ⟨a, c, h3, h4.dom hb⟩⟩
/-- a struct of type ty in block g whose first field is a slice, for each sector a slice of slices of bytes -/
structure Trk (w : World) (ty : TypeId) (ext : List Value) (g : Nat) (gso : Option Nat) (vo : Value) (row : Nat → Nat) (Bf : Nat → Prop) (S : List (List (List UInt8))) : Prop where
  self : w.heap[g]? = some (.cells (vo :: ext).toArray ty (0, 0))
  outer : ∃ xs, Rw w 22 gso vo S.length xs ∧ ∀ k (hk : k < S.length), ∃ v, xs[k]? = some v ∧ InR w Bf (row k) v S[k]
  inj : ∀ i j, i < S.length → j < S.length → row i = row j → i = j
  ap1 : gso ≠ some g
  ap2 : ∀ i, i < S.length → row i ≠ g ∧ gso ≠ some (row i)
  bf : ¬ Bf g ∧ (∀ x, gso = some x → ¬ Bf x) ∧ ∀ i, i < S.length → ¬ Bf (row i)
  lt : ∀ x, Bf x → x < w.heap.size
def TBlk (g : Nat) (gso : Option Nat) (row : Nat → Nat) (Bf : Nat → Prop) (n : Nat) (x : Nat) : Prop := x = g ∨ gso = some x ∨ (∃ i, i < n ∧ row i = x) ∨ Bf x
theorem Trk.blk_lt {w : World} {ty : TypeId} {ext : List Value} {g : Nat} {gso : Option Nat} {vo : Value} {row : Nat → Nat} {Bf : Nat → Prop} {S : List (List (List UInt8))} (h : Trk w ty ext g gso vo row Bf S) : ∀ x, TBlk g gso row Bf S.length x → x < w.heap.size := by
  rintro x (rfl | hx | ⟨i, hi, rfl⟩ | hx)
  · exact (Array.getElem?_eq_some_iff.1 h.self).1
  · obtain ⟨xs, h1, _⟩ := h.outer
    exact h1.lt x hx
  · obtain ⟨xs, _, h2⟩ := h.outer
    obtain ⟨v, _, ys, h3, _⟩ := h2 i hi
    exact h3.lt _ rfl
  · exact h.lt x hx
theorem Trk.kept {B : Nat → Prop} {w w' : World} {ty : TypeId} {ext : List Value} {g : Nat} {gso : Option Nat} {vo : Value} {row : Nat → Nat} {Bf : Nat → Prop} {S : List (List (List UInt8))} (h : Trk w ty ext g gso vo row Bf S) (hk : Kept B w w') (hs : ∀ x, TBlk g gso row Bf S.length x → ¬ B x) : Trk w' ty ext g gso vo row Bf S := by
  obtain ⟨xs, h1, h2⟩ := h.outer
  refine ⟨hk.heap h.self (hs g (.inl rfl)), ⟨xs, h1.kept hk (fun j hj => hs j (.inr (.inl hj))), fun k hkl => ?_⟩, h.inj, h.ap1, h.ap2, h.bf, fun x hx => Nat.lt_of_lt_of_le (h.lt x hx) hk.size⟩
  obtain ⟨v, h3, h4⟩ := h2 k hkl
  exact ⟨v, h3, h4.kept hk (hs _ (.inr (.inr (.inl ⟨k, hkl, rfl⟩)))) (fun x _ hx => hs x (.inr (.inr (.inr hx))))⟩
/-- sector k gets another slice -/
theorem Trk.put {w : World} {ty : TypeId} {ext : List Value} {g : Nat} {gso : Option Nat} {vo : Value} {row : Nat → Nat} {Bf : Nat → Prop} {S : List (List (List UInt8))} (h : Trk w ty ext g gso vo row Bf S) {k : Nat} (hk : k < S.length) {w' : World} {r' : Nat} {v' : Value} {s' : List (List UInt8)} {Bf' : Nat → Prop}
    (hK : Kept (fun j => j = row k ∨ gso = some j) w w')
    (hO : ∀ xs, Rw w 22 gso vo S.length xs → Rw w' 22 gso vo S.length (xs.set k v'))
    (hI : InR w' Bf' r' v' s') (hr : r' = row k ∨ w.heap.size ≤ r')
    (hB : ∀ x, Bf x → Bf' x) (hB2 : ∀ x, Bf' x → Bf x ∨ (w.heap.size ≤ x ∧ x ≠ r')) (hBl : ∀ x, Bf' x → x < w'.heap.size) :
    Trk w' ty ext g gso vo (fun i => if i = k then r' else row i) Bf' (S.set k s') := by
  have hlt := h.blk_lt
  have hg : g < w.heap.size := hlt g (.inl rfl)
  have hrow : ∀ i, i < S.length → row i < w.heap.size := fun i hi => hlt _ (.inr (.inr (.inl ⟨i, hi, rfl⟩)))
  obtain ⟨xs, h1, h2⟩ := h.outer
  have hne : ∀ i, i < S.length → i ≠ k → row i ≠ r' := by
    intro i hi hik e
    rcases hr with hr | hr
    · exact hik (h.inj i k hi hk (e.trans hr))
    · have := hrow i hi; omega
  have nb : ∀ x, x < w.heap.size → (Bf' x → Bf x) := fun x hx hb => (hB2 x hb).resolve_right (fun e => by omega)
  refine ⟨hK.heap h.self ?_, ⟨xs.set k v', by rw [List.length_set]; exact hO xs h1, fun i hi => ?_⟩, fun i j hi hj e => ?_, h.ap1, fun i hi => ?_, ⟨fun hb => h.bf.1 (nb g hg hb), fun x hx hb => h.bf.2.1 x hx (nb x (h1.lt x hx) hb), fun i hi hb => ?_⟩, hBl⟩
  · rintro (e | e)
    · exact (h.ap2 k hk).1 e.symm
    · exact h.ap1 e
  · have hi2 : i < S.length := by rw [List.length_set] at hi; exact hi
    by_cases e : i = k
    · subst e
      refine ⟨v', ?_, ?_⟩
      · rw [List.getElem?_set, if_pos rfl, if_pos (by rw [h1.1]; exact hi2)]
      · simp only [if_true, List.getElem_set_self]
        exact hI
    · obtain ⟨v, h3, h4⟩ := h2 i hi2
      refine ⟨v, by rw [List.getElem?_set, if_neg (fun x => e x.symm)]; exact h3, ?_⟩
      rw [if_neg e, List.getElem_set_ne (fun x => e x.symm)]
      refine (h4.kept hK ?_ ?_).dom hB
      · rintro (e2 | e2)
        · exact e (h.inj i k hi2 hk e2)
        · exact (h.ap2 i hi2).2 e2
      · rintro x _ hx (e2 | e2)
        · subst e2; exact h.bf.2.2 k hk hx
        · exact h.bf.2.1 x e2 hx
  · rw [List.length_set] at hi hj
    by_cases e1 : i = k
    · by_cases e2 : j = k
      · rw [e1, e2]
      · simp only [if_pos e1, if_neg e2] at e
        exact absurd e.symm (hne j hj e2)
    · by_cases e2 : j = k
      · simp only [if_neg e1, if_pos e2] at e
        exact absurd e (hne i hi e1)
      · simp only [if_neg e1, if_neg e2] at e
        exact h.inj i j hi hj e
  · rw [List.length_set] at hi
    by_cases e : i = k
    · rw [if_pos e]
      rcases hr with hr | hr
      · rw [hr]; exact h.ap2 k hk
      · refine ⟨by omega, fun e2 => ?_⟩
        have := h1.lt _ e2
        omega
    · rw [if_neg e]; exact h.ap2 i hi
  · rw [List.length_set] at hi
    by_cases e : i = k
    · simp only [if_pos e] at hb
      rcases hr with hr | hr
      · rw [hr] at hb
        exact h.bf.2.2 k hk (nb _ (hrow k hk) hb)
      · rcases hB2 _ hb with hb | hb
        · have := h.lt _ hb; omega
        · exact hb.2 rfl
    · simp only [if_neg e] at hb
      exact h.bf.2.2 i hi (nb _ (hrow i hi) hb)
/-- the blocks stay, or are new -/
theorem TBlk.put {g : Nat} {gso : Option Nat} {row : Nat → Nat} {Bf Bf' : Nat → Prop} {n k r' z : Nat} (hk : k < n) (hr : r' = row k ∨ z ≤ r') (hB2 : ∀ x, Bf' x → Bf x ∨ (z ≤ x ∧ x ≠ r')) : ∀ x, TBlk g gso (fun i => if i = k then r' else row i) Bf' n x → TBlk g gso row Bf n x ∨ z ≤ x := by
  rintro x (rfl | hx | ⟨i, hi, rfl⟩ | hx)
  · exact .inl (.inl rfl)
  · exact .inl (.inr (.inl hx))
  · by_cases e : i = k
    · simp only [if_pos e]
      rcases hr with hr | hr
      · exact .inl (.inr (.inr (.inl ⟨k, hk, hr.symm⟩)))
      · exact .inr hr
    · simp only [if_neg e]
      exact .inl (.inr (.inr (.inl ⟨i, hi, rfl⟩)))
  · rcases hB2 x hx with hx | hx
    · exact .inl (.inr (.inr (.inr hx)))
    · exact .inr hx.1
/-- such a struct -/
def trackO (ty : TypeId) (ext : List Value) (g : Nat) (S : List (List (List UInt8))) : Obj := ⟨fun B w => ∃ gso vo row Bf, Trk w ty ext g gso vo row Bf S ∧ ∀ x, TBlk g gso row Bf S.length x → B x, fun {B S w w'} h hk hs => by
  obtain ⟨gso, vo, row, Bf, h1, h2⟩ := h
  exact ⟨gso, vo, row, Bf, h1.kept hk (fun x hx => hs x (h1.blk_lt x hx) (h2 x hx)), h2⟩⟩
/-- how it reads at sector k -/
theorem Trk.look {w : World} {ty : TypeId} {ext : List Value} {g : Nat} {gso : Option Nat} {vo : Value} {row : Nat → Nat} {Bf : Nat → Prop} {S : List (List (List UInt8))} (h : Trk w ty ext g gso vo row Bf S) {k : Nat} (hk : k < S.length) (hp : 0 < S[k].length) :
    ∃ gs so co ro rc, gso = some gs ∧ vo = .slice (some ⟨gs, so, none⟩) S.length co ∧ (S.length ≤ co ∧ co ≤ 9223372036854775807) ∧ (S[k].length ≤ rc ∧ rc ≤ 9223372036854775807) ∧ g < w.heap.size ∧ gs < w.heap.size ∧ row k < w.heap.size ∧
      w.cell? ⟨g, 0, none⟩ = some vo ∧ w.cell? ⟨gs, so + k, none⟩ = some (.slice (some ⟨row k, ro, none⟩) S[k].length rc) ∧
      InR w Bf (row k) (.slice (some ⟨row k, ro, none⟩) S[k].length rc) S[k] ∧
      ∀ j (hj : j < S[k].length), ∃ a c, w.cell? ⟨row k, ro + j, none⟩ = some (.slice a 64 c) ∧ Bs Bf w a 64 c S[k][j] := by
  obtain ⟨xs, h1, h2⟩ := h.outer
  obtain ⟨gs, so, co, rfl, rfl, e1, e2, e3, e4⟩ := h1.at (by omega)
  obtain ⟨v, hv, hin⟩ := h2 k hk
  have hin2 := hin
  obtain ⟨ys, h3, h5⟩ := hin
  obtain ⟨r, ro, rc, hr, rfl, f1, f2, f3, f4⟩ := h3.at hp
  obtain rfl : row k = r := Option.some.inj hr
  have hxk : k < xs.length := by rw [h1.1]; exact hk
  have hc := e4 k hxk
  rw [List.getElem?_eq_getElem hxk] at hv
  rw [Option.some.inj hv] at hc
  refine ⟨gs, so, co, ro, rc, rfl, rfl, ⟨e1, e2⟩, ⟨f1, f2⟩, (Array.getElem?_eq_some_iff.1 h.self).1, e3, f3, ?_, hc, hin2, fun j hj => ?_⟩
  · rw [cell_of_row w g 0 _ _ _ h.self]; rfl
  · obtain ⟨a, c, g1, g2⟩ := h5 j hj
    have hjl : j < ys.length := by rw [h3.1]; exact hj
    have := f4 j hjl
    rw [List.getElem?_eq_getElem hjl] at g1
    rw [Option.some.inj g1] at this
    exact ⟨a, c, this, g2⟩
end Go.Proofs.YthffegfcgmhppaaDoor
namespace Go.Proofs.YthffegfcgmhppaaDoor
open Go.RowKit
set_option linter.unusedSimpArgs false
set_option linter.unusedVariables false
theorem Bs.small {D : Nat → Prop} {w : World} {a : Option Addr} {n c : Nat} {l : List UInt8} (h : Bs D w a n c l) : Bs (fun x => D x ∧ x < w.heap.size) w a n c l := by
  obtain ⟨h1, h2, h3, h4, h5, h6⟩ := h
  refine ⟨h1, h2, h3, h4, h5, fun hn => ?_⟩
  obtain ⟨b, off, hD, ha, hr⟩ := h6 hn
  exact ⟨b, off, ⟨hD, range_lt hr (by rw [h2]; omega)⟩, ha, hr⟩
/-- a sector more -/
theorem Trk.push {w : World} {ty : TypeId} {ext : List Value} {g : Nat} {gso : Option Nat} {vo : Value} {row : Nat → Nat} {Bf : Nat → Prop} {S : List (List (List UInt8))} (h : Trk w ty ext g gso vo row Bf S) {xs : List Value} (hx : Rw w 22 gso vo S.length xs) (hin : ∀ k (hk : k < S.length), ∃ v, xs[k]? = some v ∧ InR w Bf (row k) v S[k])
    {w' : World} {gso' : Option Nat} {vo' v' : Value} {r : Nat} {s : List (List UInt8)} {Bf' : Nat → Prop}
    (hself : w'.heap[g]? = some (.cells (vo' :: ext).toArray ty (0, 0))) (hK : Kept (fun j => j = g ∨ gso = some j) w w')
    (hO : Rw w' 22 gso' vo' (S.length + 1) (xs ++ [v'])) (hI : InR w' Bf' r v' s)
    (hgs : ∀ j, gso' = some j → gso = some j ∨ w.heap.size ≤ j) (hr : w.heap.size ≤ r) (hgr : gso' ≠ some r)
    (hB : ∀ x, Bf x → Bf' x) (hB2 : ∀ x, Bf' x → Bf x ∨ (w.heap.size ≤ x ∧ x ≠ r ∧ gso' ≠ some x)) (hBl : ∀ x, Bf' x → x < w'.heap.size) :
    Trk w' ty ext g gso' vo' (fun i => if i = S.length then r else row i) Bf' (S ++ [s]) := by
  have hlt := h.blk_lt
  have hg : g < w.heap.size := hlt g (.inl rfl)
  have hrow : ∀ i, i < S.length → row i < w.heap.size := fun i hi => hlt _ (.inr (.inr (.inl ⟨i, hi, rfl⟩)))
  have hxl := hx.1
  have nb : ∀ x, x < w.heap.size → (Bf' x → Bf x) := fun x hx hb => (hB2 x hb).resolve_right (fun e => by omega)
  refine ⟨hself, ⟨xs ++ [v'], by rw [List.length_append]; exact hO, fun i hi => ?_⟩, fun i j hi hj e => ?_, fun e => ?_, fun i hi => ?_, ⟨fun hb => h.bf.1 (nb g hg hb), fun x hx2 hb => ?_, fun i hi hb => ?_⟩, hBl⟩
  · by_cases e : i = S.length
    · subst e
      refine ⟨v', ?_, ?_⟩
      · rw [List.getElem?_append_right (by omega), hxl, Nat.sub_self]; rfl
      · simp only [if_true, List.getElem_concat_length]
        exact hI
    · have hi2 : i < S.length := by rw [List.length_append, List.length_singleton] at hi; omega
      obtain ⟨v, h3, h4⟩ := hin i hi2
      refine ⟨v, by rw [List.getElem?_append_left (by omega)]; exact h3, ?_⟩
      rw [if_neg e, List.getElem_append_left hi2]
      refine (h4.kept hK ?_ ?_).dom hB
      · rintro (e2 | e2)
        · exact (h.ap2 i hi2).1 e2
        · exact (h.ap2 i hi2).2 e2
      · rintro x _ hx2 (e2 | e2)
        · subst e2; exact h.bf.1 hx2
        · exact h.bf.2.1 x e2 hx2
  · rw [List.length_append, List.length_singleton] at hi hj
    by_cases e1 : i = S.length
    · by_cases e2 : j = S.length
      · rw [e1, e2]
      · simp only [if_pos e1, if_neg e2] at e
        have := hrow j (by omega); omega
    · by_cases e2 : j = S.length
      · simp only [if_neg e1, if_pos e2] at e
        have := hrow i (by omega); omega
      · simp only [if_neg e1, if_neg e2] at e
        exact h.inj i j (by omega) (by omega) e
  · rcases hgs _ e with e | e
    · exact h.ap1 e
    · omega
  · rw [List.length_append, List.length_singleton] at hi
    by_cases e : i = S.length
    · simp only [if_pos e]
      exact ⟨by omega, hgr⟩
    · simp only [if_neg e]
      refine ⟨(h.ap2 i (by omega)).1, fun e2 => ?_⟩
      rcases hgs _ e2 with e2 | e2
      · exact (h.ap2 i (by omega)).2 e2
      · have := hrow i (by omega); omega
  · rcases hB2 x hb with hb | ⟨_, _, e⟩
    · rcases hgs _ hx2 with e | e
      · exact h.bf.2.1 x e hb
      · have := h.lt x hb; omega
    · exact e hx2
  · rw [List.length_append, List.length_singleton] at hi
    by_cases e : i = S.length
    · simp only [if_pos e] at hb
      rcases hB2 _ hb with hb | hb
      · have := h.lt _ hb; omega
      · exact hb.2.1 rfl
    · simp only [if_neg e] at hb
      exact h.bf.2.2 i (by omega) (nb _ (hrow i (by omega)) hb)
theorem run_bs56 (a : Option Addr) (n c : Nat) (W : World) : (Instr.buildSlice 22 1 #[(0, .slice a n c)]).run Tryd.prog W = .ok (.slice (some ⟨W.heap.size, 0, none⟩) 1 1) (W.alloc (.cells #[.slice a n c] 34)) := by kernel_rfl
theorem src_one {w : World} {g : Nat} {t tx e' : TypeId} {a : Option Addr} {n c : Nat} (hk : Tryd.prog.underlying tx = some (.slice e')) (hg : w.heap[g]? = some (.cells #[.slice a n c] t (0, 0))) : Src Tryd.prog 1 tx (.slice (some ⟨g, 0, none⟩) 1 1) 1 [.slice a n c] w :=
  Src.ofSlice w hk ⟨g, 0, none⟩ 1 1 [.slice a n c] rfl (fun j u hu => by rw [Addr.add_mid, Nat.zero_add, cell_of_row w g j _ _ _ hg]; simpa using hu) (by simp [Value.oneCell'])
section
variable {P : Program}
theorem goes_append_rw {o : Oper} {a1 : Act} {w : World} {T : Value → World → Prop} (hgd : o.guard = none) (s x : Operand) (t tx : TypeId)
    (ho : o.op = .call { callee := .builtin .append, args := #[s, x], argTypes := #[t, tx] })
    (e : TypeId) (i : TypeInfo) (z : Value) (bytes : Nat) (ht : P.underlying t = some (.slice e)) (hi : P.info? e = some i) (hz : i.zero = some z)
    (hsize : i.size = 1) (hby : i.bytes = bytes) (hzs : z.cells.size = 1) (k : Option Nat) (v : Value) (n : Nat) (xs : List Value) (hv : a1.eval s = v) (hown : Rw w e k v n xs)
    (X : Value) (hx : a1.eval x = X) (m : Nat) (news : List Value) (hs : Src P 1 tx X m news w) (h63 : n + m ≤ maxLen) (hbytes : (n + m) * bytes ≤ 140737488355328)
    (h : ∀ k' v' w', Rw w' e k' v' (n + m) (xs ++ news) → (∀ j, k' = some j → k = some j ∨ w.heap.size ≤ j) → Kept (fun j => k = some j) w w' → T v' w') : wpList P #[] (Roll.Post a1 o.dst T) [o] a1 w := by
  obtain ⟨k', v', w', hr, h2, h3, h4⟩ := run_append_rw (P := P) w t tx o.type e i z bytes ht hi hz hsize hby hzs k v n xs hown X m news hs h63 hbytes
  refine Roll.goes_val v' hgd ?_ (h k' v' w' h2 h3 h4)
  unfold execOp
  simp only [ho, resolve, invoke, builtin, Sem.run_bind, Sem.run_pure, Result.andThen_ok, List.map_toArray, List.map_cons, List.map_nil, hv, hx, hr]
end
end Go.Proofs.YthffegfcgmhppaaDoor
namespace Go.Proofs.YthffegfcgmhppaaDoor
open Go.RowKit
set_option linter.unusedSimpArgs false
set_option linter.unusedVariables false
def sliceLen : Value → Nat
  | .slice _ n _ => n
  | _ => 0
theorem joinB_cons (r : List UInt8) (rs : List (List UInt8)) : joinB (r :: rs) = UInt8.ofNat (r.length / 256) :: UInt8.ofNat r.length :: (r ++ joinB rs) := by simp [joinB]
/-- what is left of a slice -/
theorem Bs.past {D : Nat → Prop} {w : World} {b off n c : Nat} {l : List UInt8} (h : Bs D w (some ⟨b, off, none⟩) n c l) (m : Nat) (hm : m ≤ n) : Bs D w (some ⟨b, off + m, none⟩) (n - m) (c - m) (l.drop m) := by
  obtain ⟨h1, h2, h3, h4, h5, h6⟩ := h
  refine ⟨by rw [List.length_drop]; omega, ?_, by omega, by omega, (fun h => by cases h), fun hp => ?_⟩
  · rw [vals_len, List.length_drop]; omega
  · obtain ⟨b', off', hD, ha, hr⟩ := h6 (by omega)
    cases ha
    refine ⟨b, off + m, hD, rfl, fun j u hu => ?_⟩
    have := hr (m + j) u (by rw [vals_drop, List.getElem?_drop] at hu; exact hu)
    rwa [← Nat.add_assoc] at this
theorem below_drewN' (w : World) (n : Nat) : Below w.heap.size w (w.drewN n) := ⟨rfl, rfl, rfl, Nat.le_refl _, fun _ _ => rfl⟩
theorem Bs.empty (D : Nat → Prop) (w : World) (a : Option Addr) (c : Nat) (hc : c ≤ maxLen) (ha : a = none → c = 0) : Bs D w a 0 c [] := ⟨rfl, Sl.empty _ _ _ _ _ hc ha⟩
theorem info32' : (Tryd.prog.info? 34).map (fun i => (i.zero, i.size, i.bytes)) = some (some (.slice none 0 0), 1, 24) := by kernel_rfl
set_option maxRecDepth 100000 in
set_option maxHeartbeats 2000000 in
theorem split_any (Z : Nat → Prop) (a : Option Addr) (n c : Nat) (rs : List (List UInt8)) (w : World) (hB : Bs Z w a n c (joinB rs)) (h64 : ∀ r ∈ rs, r.length < 65536) (hb : lenB rs ≤ 1000000) :
    Calls Tryd.prog 35 #[.slice a n c] w fun e w' => ∃ v k, e = .returned (.tuple #[v, .bool true]) ∧ Recs w' k (fun x => Z x ∧ x < w.heap.size) v rs ∧ (∀ x, k = some x → w.heap.size ≤ x) ∧ Below w.heap.size w w' := by
  have HB := Lib.hid hB.small
  have H64 := Lib.hid h64
  have HLB := Lib.hid hb
  obtain ⟨Y, hY⟩ : ∃ Y : Nat → Prop, Y = fun x => Z x ∧ x < w.heap.size := ⟨_, rfl⟩
  rw [← hY] at HB ⊢
  have HY : Hid (∀ x, Y x → x < w.heap.size) := Lib.hid (fun x hx => by rw [hY] at hx; exact hx.2)
  have HN : Hid (rs.length ≤ 1000000) := Lib.hid (by
    have : ∀ rs : List (List UInt8), rs.length ≤ lenB rs := by
      intro rs
      induction rs with
      | nil => exact Nat.le_refl _
      | cons r rs ih => simp only [lenB, List.map_cons, List.sum_cons, List.length_cons] at ih ⊢; omega
    exact Nat.le_trans (this rs) hb)
  clear hB h64 hb hY
  go_enter Tryd.func35, Tryd.ntmps35
  go_wp2_with fail
  go_loopw [0, 4] (fun u t wr => ∃ (i : Nat) (v0 : Value) (a' : Option Addr) (n' c' : Nat) (k : Option Nat), i ≤ rs.length ∧ u = .slice a' n' c' ∧ v0 = t ∧ Bs Y w a' n' c' (joinB (rs.drop i)) ∧ Recs wr k Y v0 (rs.take i) ∧ (∀ x, k = some x → w.heap.size ≤ x) ∧ Below w.heap.size w wr) (fun u _ _ => sliceLen u)
  case atStart => exact ⟨0, _, _, _, _, none, Nat.zero_le _, rfl, rfl, HB.out, (Recs.nil w).dom (fun _ h => h.elim), (fun _ h => by cases h), Below.refl _ _⟩
  case round =>
    obtain ⟨i, v0, a', n', c', k, hi, rfl, hv0, hbs, hrec, hkn, hbl⟩ := hrel
    subst hv0
    by_cases hlt : i < rs.length
    · obtain ⟨r, hr⟩ : ∃ r, r = rs[i] := ⟨_, rfl⟩
      have hdr : joinB (rs.drop i) = UInt8.ofNat (r.length / 256) :: UInt8.ofNat r.length :: (r ++ joinB (rs.drop (i + 1))) := by
        rw [List.drop_eq_getElem_cons hlt, joinB_cons, hr]
      obtain ⟨R, hR⟩ : ∃ R, R = r.length := ⟨_, rfl⟩
      obtain ⟨rest, hrest⟩ : ∃ rest, rest = joinB (rs.drop (i + 1)) := ⟨_, rfl⟩
      rw [← hR, ← hrest] at hdr
      have hR64 : R < 65536 := by rw [hR]; exact H64.out r (by rw [hr]; exact List.getElem_mem _)
      rw [hdr] at hbs
      have hn' : n' = R + 2 + rest.length := by have := hbs.1; simp only [List.length_cons, List.length_append, ← hR] at this; omega
      have hc1 : n' ≤ c' := hbs.2.2.1
      have hc2 : c' ≤ 9223372036854775807 := hbs.2.2.2.1
      obtain ⟨b, off, hD, hbw, rfl, hcell⟩ := hbs.cells (by omega)
      obtain ⟨U, hU⟩ : ∃ U, U = R + 2 := ⟨_, rfl⟩
      obtain ⟨RH, hRH⟩ : ∃ RH, RH = R / 256 := ⟨_, rfl⟩
      obtain ⟨RL, hRL⟩ : ∃ RL, RL = R % 256 := ⟨_, rfl⟩
      have hor := or_two RH RL (by omega) (by omega)
      have hor2 : RH * 256 + RL = R := by omega
      rw [hor2] at hor
      have e0 : w.cell? ⟨b, off, none⟩ = some (.int .u8 (RH : Int)) := by
        have := hcell 0 (by simp)
        rw [Nat.add_zero] at this
        rw [this]
        have : R / 256 % 256 = R / 256 := by omega
        simp only [List.getElem_cons_zero, u8_ofNat, this, hRH]
      have e1 : w.cell? ⟨b, off + 1, none⟩ = some (.int .u8 (RL : Int)) := by
        have := hcell 1 (by simp)
        rw [this]
        simp only [List.getElem_cons_succ, List.getElem_cons_zero, u8_ofNat, hRL]
      have f0 : wr.cell? ⟨b, off, none⟩ = some (.int .u8 (RH : Int)) := (hbl.cell (p := ⟨b, off, none⟩) hbw).trans e0
      have f1 : wr.cell? ⟨b, off + 1, none⟩ = some (.int .u8 (RL : Int)) := (hbl.cell (p := ⟨b, off + 1, none⟩) hbw).trans e1
      have hw1 : IntKind.i64.wrap (RH : Int) = (RH : Int) := i64_id _ (by omega) (by omega)
      have hw2 : IntKind.i64.wrap (RL : Int) = (RL : Int) := i64_id _ (by omega) (by omega)
      have hw3 : IntKind.i64.wrap ((RH : Int) * 256) = (RH : Int) * 256 := i64_id _ (by omega) (by omega)
      have hw4 : IntKind.i64.wrap (2 + (R : Int)) = (U : Int) := by rw [i64_id _ (by omega) (by omega)]; omega
      have hp : (0 : Int) < (n' : Int) := by omega
      have hp2 : (2 : Int) ≤ (n' : Int) := by omega
      have hUn : (U : Int) ≤ (n' : Int) := by omega
      have hUc : (U : Int) ≤ (c' : Int) := by omega
      have hU2 : (2 : Int) ≤ (U : Int) := by omega
      have HBS := Lib.hid hbs
      have HREC := Lib.hid hrec
      have HKN := Lib.hid hkn
      have HBL := Lib.hid hbl
      have HR := Lib.hid hR
      have HU := Lib.hid hU
      have HRr := Lib.hid hr
      have HRest := Lib.hid hrest
      have HN' := Lib.hid hn'
      clear hbs hrec hkn hbl hdr hr hrest e0 e1 hcell hor2 hRH hRL hR hU hn'
      go_wp2_with fail
      go_quiet (fail)
      have hbs56 := run_bs56
      obtain ⟨A2, hA2⟩ : ∃ A2 : Option Addr, A2 = if c' = 2 then some ⟨b, off, none⟩ else some ⟨b, off + 2, none⟩ := ⟨_, rfl⟩
      obtain ⟨AU, hAU⟩ : ∃ AU : Option Addr, AU = if c' = U then some ⟨b, off, none⟩ else some ⟨b, off + U, none⟩ := ⟨_, rfl⟩
      have HA2 : Hid (Bs Y w A2 (U - 2) (c' - 2) r) := Lib.hid (by
        have hcl := HBS.out.2.2.2.1
        have eU : U - 2 = R := by have := HU.out; omega
        rw [hA2, eU]
        split
        · rename_i e
          have hr0 : R = 0 := by have := HU.out; omega
          have : r = [] := List.eq_nil_of_length_eq_zero (by have := HR.out; omega)
          rw [this, hr0]
          exact Bs.empty _ _ _ _ (by omega) (fun h => by cases h)
        · have := (HBS.out.upto U (by omega)).past 2 (by have := HU.out; omega)
          rw [eU] at this
          have e2 : (List.take U (UInt8.ofNat (R / 256) :: UInt8.ofNat R :: (r ++ rest))).drop 2 = r := by
            rw [HU.out, List.take_succ_cons, List.take_succ_cons, List.drop_succ_cons, List.drop_succ_cons, List.drop_zero, List.take_append_of_le_length (by have := HR.out; omega), List.take_of_length_le (by have := HR.out; omega)]
          rw [e2] at this
          exact this)
      have HAU : Hid (Bs Y w AU (n' - U) (c' - U) (joinB (rs.drop (i + 1)))) := Lib.hid (by
        have hcl := HBS.out.2.2.2.1
        rw [hAU, ← HRest.out]
        split
        · rename_i e
          have hr0 : rest.length = 0 := by have := HU.out; have := HN'.out; omega
          have : rest = [] := List.eq_nil_of_length_eq_zero hr0
          rw [this, show n' - U = 0 by omega]
          exact Bs.empty _ _ _ _ (by omega) (fun h => by cases h)
        · have := HBS.out.past U (by omega)
          have e2 : (UInt8.ofNat (R / 256) :: UInt8.ofNat R :: (r ++ rest)).drop U = rest := by
            rw [HU.out, List.drop_succ_cons, List.drop_succ_cons, List.drop_append, List.drop_of_length_le (by have := HR.out; omega), List.nil_append, show R - r.length = 0 by have := HR.out; omega, List.drop_zero]
          rw [e2] at this
          exact this)
      obtain ⟨ys, hys, hyj⟩ := HREC.out
      have htl : (rs.take i).length = i := by rw [List.length_take]; omega
      rw [htl] at hys
      obtain ⟨W1, hW1⟩ : ∃ W1, W1 = (wr.drewN nq).alloc (.cells #[.slice A2 (U - 2) (c' - 2)] 34) := ⟨_, rfl⟩
      have hbW : Below wr.heap.size wr W1 := by rw [hW1]; exact (below_drewN' wr nq).alloc (Nat.le_refl _) _
      have HYS : Hid (Rw W1 34 k v0 i ys) := Lib.hid (hys.kept (Kept.of_below (fun _ => False) hbW) (fun _ _ h => h))
      have HYJ := Lib.hid hyj
      have HYL := Lib.hid hys.1
      have HSRC : Hid (Src Tryd.prog 1 22 (.slice (some ⟨wr.heap.size, 0, none⟩) 1 1) 1 [.slice A2 (U - 2) (c' - 2)] W1) := Lib.hid (src_one Tryd.underlying22 (by rw [hW1]; exact heap_new rfl))
      have HBW : Hid (Below wr.heap.size wr W1) := Lib.hid hbW
      have HW1 := Lib.hid hW1
      have HA2E := Lib.hid hA2
      have HAUE := Lib.hid hAU
      clear hys hyj hA2 hAU hW1 hbW htl
      obtain ⟨i0, ji, jz0, jz1, jz2⟩ := info_parts info32'
      go_upto_region 9 with (first
        | (at_builtin; rw [← HA2E.out]; rw [← HW1.out]; refine wpList_append_rw _ rfl (.tmp 27) (.tmp 31) 22 22 rfl 34 i0 (.slice none 0 0) 24 Tryd.underlying22 ji jz0 jz1 jz2 rfl k v0 i ys rfl HYS.out 1 _ HSRC.out (by have := HN.out; unfold maxLen; omega) (by have := HN.out; omega) ?_; intro k2 v2 w2 g1 g2 g3; have G1 := Lib.hid g1; have G2 := Lib.hid g2; have G3 := Lib.hid g3; clear g1 g2 g3 HYS HSRC))
      go_wp2_with fail
      rw [← HAUE.out]
      go_roundw
      case rel =>
        refine ⟨i + 1, _, AU, n' - U, c' - U, k2, by omega, rfl, rfl, HAU.out, ⟨ys ++ [.slice A2 (U - 2) (c' - 2)], ?_, fun j hj => ?_⟩, fun x hx => ?_, ?_⟩
        · rw [show (rs.take (i + 1)).length = i + 1 by rw [List.length_take]; omega]
          exact G1.out
        · have hj2 : j < i + 1 := by rw [List.length_take] at hj; omega
          have hyl : ys.length = i := HYL.out
          have hyj := HYJ.out
          have htl : (rs.take i).length = i := by rw [List.length_take]; omega
          simp only [List.getElem_take]
          by_cases e : j < i
          · obtain ⟨a3, c3, h3, h4⟩ := hyj j (by omega)
            rw [List.getElem_take] at h3 h4
            have hb3 : Below wr.heap.size wr W1 := HBW.out
            exact ⟨a3, c3, by rw [List.getElem?_append_left (by omega)]; exact h3, (h4.kept (Kept.of_below (fun _ => False) hb3) (fun _ _ _ h => h)).kept G3.out (fun x _ hx hk => by have := HY.out x hx; have := HKN.out x hk; omega)⟩
          · obtain rfl : j = i := by omega
            refine ⟨A2, c' - 2, ?_, ?_⟩
            · rw [List.getElem?_append_right (by omega), hyl, Nat.sub_self, ← HRr.out, ← HR.out, show R = U - 2 by have := HU.out; omega]
              rfl
            · rw [← HRr.out, ← HR.out, show R = U - 2 by have := HU.out; omega]
              exact HA2.out.kept ((Kept.of_below (fun j => k = some j) (HBL.out.trans (HBW.out.mono HBL.out.size))).trans G3.out (fun _ _ h => h)) (fun x _ hx hk => by have := HY.out x hx; have := HKN.out x hk; omega)
        · rcases G2.out x hx with e | e
          · exact HKN.out x e
          · have := HBL.out.size; have := HBW.out.size; omega
        · exact (HBL.out.trans (HBW.out.mono HBL.out.size)).trans (G3.out.below (Nat.le_trans HBL.out.size HBW.out.size) (fun j hj e => by have := HKN.out j e; omega))
      case measure => simp [sliceLen]; omega
    · obtain rfl : i = rs.length := by omega
      have e1 : rs.take rs.length = rs := List.take_of_length_le (Nat.le_refl _)
      have e2 : joinB (rs.drop rs.length) = [] := by rw [List.drop_of_length_le (Nat.le_refl _)]; rfl
      rw [e1] at hrec
      rw [e2] at hbs
      obtain rfl : n' = 0 := by have := hbs.1; simpa using this.symm
      have HREC := Lib.hid hrec
      have HKN := Lib.hid hkn
      have HBL := Lib.hid hbl
      clear hbs hrec hkn hbl e1 e2 hi hlt
      go_wp2
      go_ret2
      exact ⟨_, k, rfl, HREC.out, HKN.out, HBL.out⟩
end Go.Proofs.YthffegfcgmhppaaDoor
namespace Go.Proofs.YthffegfcgmhppaaDoor
open Go.RowKit
set_option linter.unusedSimpArgs false
set_option linter.unusedVariables false
theorem Lv.onto {w0 w w' : World} {L : List Obj} {o : Obj} (h : Lv w0 w L) (h2 : Lv w w' [o]) : Lv w0 w' (o :: L) := by
  obtain ⟨B, h3, h4, _⟩ := h2.get (i := 0) rfl
  exact h.cons h2.args h3 h4
set_option maxRecDepth 100000 in
set_option maxHeartbeats 1000000 in
theorem wpList_racc {w0 w : World} {L : List Obj} (h : Lv w0 w L) {i j : Nat} (hij : i ≠ j) {v : Value} {rs : List (List UInt8)} {a : Option Addr} {n c : Nat} {l : List UInt8} (hi : L[i]? = some (recsO v rs)) (hj : L[j]? = some (bytesO (.slice a n c) l)) {ops : Array Oper} {rest : List Oper} {o : Oper} {t : Act} {Q : Exit → Act → World → Prop} (hgd : o.guard = none) (s x : Operand)
    (ho : o.op = .call { callee := .builtin .append, args := #[s, x], argTypes := #[22, 22] }) (hs : t.eval s = v) (hx : Src Tryd.prog 1 22 (t.eval x) 1 [.slice a n c] w) (hb : rs.length ≤ 1000000)
    (K : ∀ a' c' w', Lv w0 w' ((L.set i (recsO (.slice a' (rs.length + 1) c') (rs ++ [l]))).set j noO) → wpList Tryd.prog ops Q rest (t.put o.dst (.slice a' (rs.length + 1) c')) w') : wpList Tryd.prog ops Q (o :: rest) t w := by
  obtain ⟨i0, ji, jz0, jz1, jz2⟩ := info_parts info32'
  have hL := h.join hij hi hj
  have hil : i < L.length := (List.getElem?_eq_some_iff.1 hi).1
  have hg : ((L.set i (pairO (recsO v rs) (bytesO (.slice a n c) l))).set j noO)[i]? = some (pairO (recsO v rs) (bytesO (.slice a n c) l)) := by
    rw [List.getElem?_set_ne (fun e => hij e.symm), List.getElem?_set_self hil]
  obtain ⟨B, ⟨B1, B2, ⟨k, Bf, ⟨ys, h1, h2⟩, h3, h4⟩, ⟨a2, c2, e2, hb2⟩, h5, h6, h7⟩, hlt, _, hset⟩ := hL.get hg
  have hn : l.length = n := by injection e2 with _ e _; exact e.symm
  rw [hn] at e2 hb2
  cases e2
  refine wpList_append_rw w hgd s x _ _ ho 34 i0 (.slice none 0 0) 24 Tryd.underlying22 ji jz0 jz1 jz2 rfl k v rs.length ys hs h1 1 _ hx (by unfold maxLen; omega) (by omega) ?_
  intro k' v' w' g1 g2 g3
  obtain ⟨a', c', rfl, -, -⟩ := g1.shape
  have hkB : ∀ x, k = some x → B x := fun x hx => h6 x (h3 x hx).1
  have hgr : ∀ y, Bf y ∨ (B2 y ∧ y < w.heap.size) → k' ≠ some y := by
    intro y hy e
    rcases g2 y e with e | e
    · rcases hy with hy | hy
      · exact (h3 y e).2 hy
      · exact h5 y (h3 y e).1 hy.1
    · rcases hy with hy | hy
      · have := (hlt y (h6 y (h4 y hy))).2; omega
      · omega
  have key := hset w' (recsO (.slice a' (rs.length + 1) c') (rs ++ [l])) (fun y => k' = some y ∨ Bf y ∨ (B2 y ∧ y < w.heap.size)) ⟨k', fun y => Bf y ∨ (B2 y ∧ y < w.heap.size), ⟨ys ++ [.slice a n c], by rw [List.length_append]; exact g1, fun q hq => ?_⟩, fun y hy => ⟨.inl hy, fun hb => hgr y hb hy⟩, fun y hy => .inr hy⟩ (g3.mono (fun y _ hy => hkB y hy)) ?_ ?_
  · have e3 : (((L.set i (pairO (recsO v rs) (bytesO (.slice a n c) l))).set j noO).set i (recsO (.slice a' (rs.length + 1) c') (rs ++ [l]))) = (L.set i (recsO (.slice a' (rs.length + 1) c') (rs ++ [l]))).set j noO := by
      rw [List.set_comm _ _ (fun e => hij e.symm), List.set_set]
    rw [e3] at key
    exact K a' c' w' key
  · have hyl : ys.length = rs.length := h1.1
    by_cases e : q < rs.length
    · obtain ⟨a4, c4, e4, e5⟩ := h2 q e
      simp only [List.getElem_append_left e]
      exact ⟨a4, c4, by rw [List.getElem?_append_left (by omega)]; exact e4, (e5.kept g3 (fun y _ hy e => (h3 y e).2 hy)).dom (fun y hy => .inl hy)⟩
    · have hq2 : q = rs.length := by rw [List.length_append, List.length_singleton] at hq; omega
      have e6 : (rs ++ [l])[q]'hq = l := by rw [List.getElem_append_right (by omega)]; simp
      refine ⟨a, c, ?_, ?_⟩
      · rw [List.getElem?_append_right (by omega), show q - ys.length = 0 by omega, e6, hn]; rfl
      · rw [e6, hn]
        exact (hb2.small.kept g3 (fun y _ hy e => h5 y (h3 y e).1 hy.1)).dom (fun y hy => .inr hy)
  · rintro y (hy | hy | hy)
    · exact (g2 y hy).imp (fun e => hkB y e) id
    · exact .inl (h6 y (h4 y hy))
    · exact .inl (h7 y hy.1)
  · rintro y (hy | hy | hy)
    · exact g1.lt y hy
    · exact Nat.lt_of_lt_of_le (hlt y (h6 y (h4 y hy))).2 g3.size
    · exact Nat.lt_of_lt_of_le hy.2 g3.size
theorem run_makeR (n : Nat) (hn : n ≤ 1000000) (W : World) :
    (Instr.makeSlice 22 (.int .i64 0) (.int .i64 (n : Int))).run Tryd.prog W = .ok (.slice (some ⟨W.heap.size, 0, none⟩) 0 n) (W.alloc (.cells (madeCells #[.slice none 0 0] n) 34)) := by
  obtain ⟨i0, hi, hz0, hz1, hz2⟩ := info_parts info32'
  have h := run_make (P := Tryd.prog) W 22 34 i0 (.slice none 0 0) Tryd.underlying22 hi hz0 .i64 .i64 0 (n : Int) (by omega) (by omega) (by rw [hz2]; omega) (by omega)
  rw [h, hz1]
  simp [Value.cells]
theorem Lv.recsMake {w0 w : World} {L : List Obj} (h : Lv w0 w L) (n : Nat) (hn : n ≤ 1000000) : Lv w0 (w.alloc (.cells (madeCells #[.slice none 0 0] n) 34)) (recsO (.slice (some ⟨w.heap.size, 0, none⟩) 0 n) [] :: L) := by
  refine h.cons ((Below.refl _ _).alloc (Nat.le_refl _) _) (B := fun x => x = w.heap.size) ⟨some w.heap.size, fun _ => False, ⟨[], ⟨rfl, .inr ⟨w.heap.size, 0, n, _, rfl, rfl, heap_new rfl, Nat.zero_le _, by unfold maxLen; omega, by rw [size_madeCells]; omega, rfl⟩⟩, fun j hj => absurd hj (by simp)⟩, fun x hx => ⟨(Option.some.inj hx).symm, fun h => h⟩, fun _ h => h.elim⟩ (fun x hx => by subst hx; exact ⟨Nat.le_refl _, by rw [size_alloc1]; omega⟩)
set_option maxRecDepth 100000 in
set_option maxHeartbeats 4000000 in
theorem records_lv {w0 w : World} {L : List Obj} {gl g ii : Nat} {m : LM} (h : Lv w0 w L) (hi : L[ii]? = some (logO gl g m)) (hn : m.recs.length ≤ 100000) (h64 : ∀ r ∈ m.recs, r.length ≤ 1000000) :
    Calls Tryd.prog 16 #[.pointer (some ⟨gl, 0, none⟩)] w fun x w' => ∃ a c, x = .returned (.slice a m.recs.length c) ∧ Lv w0 w' (recsO (.slice a m.recs.length c) m.recs :: L) := by
  obtain ⟨kl, Bl, vl, BL, hlg, hlB, -, -⟩ := h.log hi
  obtain ⟨al, cl, rfl, h1, h2, hgl, -, -, -, -, -, c5, -, -, -⟩ := hlg.facts
  have HRD := Lib.hid (hlg.recs.rd (D := BL) (fun x hx => hlB x (.inr (.inl hx))) (fun x hx => hlB x (.inr (.inr hx))))
  have HL := Lib.hid h
  have H64 := Lib.hid h64
  obtain ⟨rs, hrs⟩ : ∃ rs, rs = m.recs := ⟨_, rfl⟩
  rw [← hrs] at HRD H64 h1 c5 hn ⊢
  obtain ⟨n, hnn⟩ : ∃ n, n = rs.length := ⟨_, rfl⟩
  rw [← hnn] at HRD h1 c5 hn ⊢
  have HN := Lib.hid hnn
  have hmk := run_makeR n (by omega)
  obtain ⟨w1, hw1⟩ : ∃ w1, w1 = w.alloc (.cells (madeCells #[.slice none 0 0] n) 34) := ⟨_, rfl⟩
  have HL1 : Hid (Lv w w1 [recsO (.slice (some ⟨w.heap.size, 0, none⟩) 0 n) []]) := Lib.hid (by rw [hw1]; exact (Lv.refl w).recsMake n (by omega))
  have C5 := Lib.hid c5
  have c51 : w1.cell? ⟨gl, 5, none⟩ = some (.slice al n cl) := (HL1.out.args.cell (p := ⟨gl, 5, none⟩) hgl).trans c5
  have HW1 := Lib.hid hw1
  clear hlg hlB h64 h hi hrs hnn hw1
  go_enter Tryd.func16, Tryd.ntmps16
  go_upto_region 2 with fail
  rw [← HW1.out]
  go_wp2_with fail
  go_loopw [3, 17] (fun u t wr => ∃ (i : Nat) (v0 : Value), i ≤ n ∧ v0 = u ∧ t = .int .i64 (i : Int) ∧ Lv w wr [recsO v0 (rs.take i)]) (fun _ t _ => n - (intOf t).toNat)
  case atStart => exact ⟨0, _, Nat.zero_le _, rfl, rfl, HL1.out⟩
  case round =>
    obtain ⟨i, v0, hi9, hv0, rfl, hL⟩ := hrel
    subst hv0
    have HLr := Lib.hid hL
    by_cases hlt : i < n
    · have hn2 : (i : Int) < (n : Int) := by omega
      have hw1 : IntKind.i64.wrap ((i : Int) + 1) = (i : Int) + 1 := i64_id _ (by omega) (by omega)
      have hlr : i < rs.length := by rw [← HN.out]; exact hlt
      obtain ⟨r, hr⟩ : ∃ r, r = rs[i]'hlr := ⟨_, rfl⟩
      obtain ⟨g, off, b, cb, -, rfl, hg, hcell, hbs⟩ := (HRD.out.below hL.args).2.2.2 i hlr
      rw [← hr] at hcell hbs
      have hrb : r.length ≤ 1000000 := H64.out r (by rw [hr]; exact List.getElem_mem _)
      have HBS := Lib.hid hbs
      have HRB := Lib.hid hrb
      have HTK : Hid (rs.take (i + 1) = rs.take i ++ [r]) := Lib.hid (by rw [List.take_succ_eq_append_getElem hlr, hr])
      have HTL : Hid ((rs.take i).length = i) := Lib.hid (by rw [List.length_take]; omega)
      obtain ⟨RT, hRT⟩ : ∃ RT, RT = rs.take i := ⟨_, rfl⟩
      rw [← hRT] at HLr HTK HTL
      have hbs56 := run_bs56
      have HG1 : Hid True := Lib.hid trivial
      clear hL hbs hr hRT hg
      go_wp2_with (first
        | (have x1 := HG1; go_at_call 26; refine (cloneB_any _ b r.length cb r wr HBS.out HRB.out).mono ?_; rintro e w2 ⟨v3, rfl, hm⟩; have hl2 := HLr.out.made hm; obtain ⟨a3, c3, rfl, -⟩ := hm.bs; have HL2 := Lib.hid hl2; have HL3 : Hid (Lv w (w2.alloc (.cells #[.slice a3 r.length c3] 34)) [bytesO (.slice a3 r.length c3) r, recsO v0 RT]) := Lib.hid (hl2.below ((Below.refl _ _).alloc (Nat.le_refl _) _)); have HSRC : Hid (Src Tryd.prog 1 22 (.slice (some ⟨w2.heap.size, 0, none⟩) 1 1) 1 [.slice a3 r.length c3] (w2.alloc (.cells #[.slice a3 r.length c3] 34))) := Lib.hid (src_one Tryd.underlying22 (heap_new rfl)); clear hl2 hm HLr x1 HG1)
        | (at_builtin; refine wpList_racc HL3.out (i := 1) (j := 0) (by omega) rfl rfl rfl (.tmp 21) (.tmp 24) rfl rfl HSRC.out (by have := HTL.out; omega) ?_; clear HL3 HSRC; intro a4 c4 w4 hl4; have HL4 := Lib.hid hl4; clear hl4))
      go_roundw
      case rel => exact ⟨i + 1, _, by omega, rfl, by go_num, by rw [HTK.out]; exact HL4.out.tail⟩
      case measure => simp [intOf]; omega
    · obtain rfl : i = n := by omega
      have e1 : rs.take i = rs := List.take_of_length_le (by rw [← HN.out]; exact Nat.le_refl _)
      rw [e1] at HLr
      obtain ⟨_, ⟨k9, Bf9, hr9, _, _⟩, _, _, _⟩ := HLr.out.get (i := 0) rfl
      obtain ⟨a9, c9, rfl, -, -⟩ := hr9.shape
      rw [← HN.out] at HLr
      have e9 : rs.length = i := HN.out.symm
      have HF := Lib.hid (HL.out.onto HLr.out)
      clear hL e1 hr9 HLr
      go_wp2
      go_ret
      exact ⟨_, _, by rw [e9]; rfl, HF.out⟩
end Go.Proofs.YthffegfcgmhppaaDoor
namespace Go.Proofs.YthffegfcgmhppaaDoor
open Go.RowKit
set_option linter.unusedSimpArgs false
set_option linter.unusedVariables false
/-- max(x, y) -/
theorem wpList_max2 {P : Program} {ops : Array Oper} {rest : List Oper} {o : Oper} {a : Act} {w : World} {Q : Exit → Act → World → Prop} (hgd : o.guard = none) (x y : Operand) (t1 t2 : TypeId)
    (ho : o.op = .call { callee := .builtin .max, args := #[x, y], argTypes := #[t1, t2] }) (n m r : Int) (hx : a.eval x = .int .i64 n) (hy : a.eval y = .int .i64 m) (hr0 : max n m = r)
    (h : wpList P ops Q rest (a.put o.dst (.int .i64 r)) w) : wpList P ops Q (o :: rest) a w := by
  have hr : (Builtin.max_ #[t1, t2] o.type #[.int .i64 n, .int .i64 m]).run P w = .ok (.int .i64 r) w := by
    subst hr0
    by_cases hn : n < m
    · have e : max n m = m := by omega
      rw [e]
      simp [Builtin.max_, Builtin.max2, hn, Result.andThen]
    · have e : max n m = n := by omega
      rw [e]
      simp [Builtin.max_, Builtin.max2, hn, Result.andThen]
  refine wpList_plain hgd fun K hK => ?_
  unfold Oper.wp execOp
  simp only [ho, resolve, invoke, builtin, Sem.run_bind, Sem.run_pure, Result.andThen_ok, List.map_toArray, List.map_cons, List.map_nil, hx, hy, hr]
  exact hK _ _ h
section
variable {w0 w : World} {L : List Obj} {gl g i : Nat} {m : LM} {d : DM}
theorem synced_lv (h : Lv w0 w L) (hi : L[i]? = some (logO gl g m)) :
    Calls Tryd.prog 43 #[.pointer (some ⟨gl, 0, none⟩)] w fun e w' => e = .returned (.int .i64 (m.syn : Int)) ∧ w = w' := by
  obtain ⟨a, c, h1, h2, hg, c0, c1, c2, c3, c4, c5, c6, c7, f0⟩ := h.logFacts hi
  clear h hi
  go_enter Tryd.func43, Tryd.ntmps43
  go_wp2
  go_ret
  exact ⟨rfl, rfl⟩
theorem below_drewN (w : World) (n : Nat) : Below w.heap.size w (w.drewN n) := ⟨rfl, rfl, rfl, Nat.le_refl _, fun _ _ => rfl⟩
/-- what is left, and the longest record -/
def roomZ (n : Nat) (tak : Int) : Int := max (min ((n : Int) * 64 - 128 - tak - 12) 4000) (-1)
set_option maxRecDepth 100000 in
set_option maxHeartbeats 1000000 in
theorem room_lv (h : Lv w0 w L) (hi : L[i]? = some (logO gl g m)) (hn : m.n ≤ 4096) (ht : m.tak ≤ 1000000) :
    Calls Tryd.prog 9 #[.pointer (some ⟨gl, 0, none⟩)] w fun e w' => e = .returned (.int .i64 (roomZ m.n m.tak)) ∧ Below w.heap.size w w' := by
  obtain ⟨a, c, h1, h2, hg, c0, c1, c2, c3, c4, c5, c6, c7, f0⟩ := h.logFacts hi
  obtain ⟨R, hR⟩ : ∃ R, R = roomZ m.n m.tak := ⟨_, rfl⟩
  rw [← hR]
  have HR := Lib.hid hR
  have w1 : IntKind.i64.wrap ((m.n : Int) * 64) = (m.n : Int) * 64 := i64_id _ (by omega) (by omega)
  have w2 : IntKind.i64.wrap ((m.n : Int) * 64 - 128) = (m.n : Int) * 64 - 128 := i64_id _ (by omega) (by omega)
  have w3 : IntKind.i64.wrap ((m.n : Int) * 64 - 128 - (m.tak : Int)) = (m.n : Int) * 64 - 128 - (m.tak : Int) := i64_id _ (by omega) (by omega)
  have w4 : IntKind.i64.wrap ((m.n : Int) * 64 - 128 - (m.tak : Int) - 12) = (m.n : Int) * 64 - 128 - (m.tak : Int) - 12 := i64_id _ (by omega) (by omega)
  obtain ⟨M, hM⟩ : ∃ M, M = min ((m.n : Int) * 64 - 128 - (m.tak : Int) - 12) 4000 := ⟨_, rfl⟩
  have HM : Hid (min ((m.n : Int) * 64 - 128 - (m.tak : Int) - 12) 4000 = M) := Lib.hid hM.symm
  have HX : Hid (max M (-1) = R) := Lib.hid (by rw [hR, hM]; rfl)
  clear h hi hR hM
  go_enter Tryd.func9, Tryd.ntmps9
  go_wp2_with fail
  go_quiet (fail)
  go_wp2_with (first
    | (refine wpList_min2 rfl (.tmp 16) (.const (.int .i64 4000)) 3 3 rfl _ 4000 M rfl rfl HM.out ?_)
    | (refine wpList_max2 rfl (.tmp 17) (.const (.int .i64 (-1))) 3 3 rfl M (-1) R rfl rfl HX.out ?_))
  go_ret
  exact ⟨rfl, below_drewN _ _⟩
def validB (S : Nat) (f n : Int) : Bool := decide (4 ≤ n ∧ 0 ≤ f ∧ n ≤ (S : Int) - f)
set_option maxRecDepth 100000 in
set_option maxHeartbeats 1000000 in
theorem valid_lv (h : Lv w0 w L) (hi : L[i]? = some (diskO g d)) (f n : Int) (f1 : -9223372036854775808 ≤ f) (f2 : f ≤ 9223372036854775807) (n1 : -9223372036854775808 ≤ n) (n2 : n ≤ 9223372036854775807) :
    Calls Tryd.prog 32 #[.pointer (some ⟨g, 0, none⟩), .int .i64 f, .int .i64 n] w fun e w' => e = .returned (.bool (validB d.S.length f n)) ∧ w = w' := by
  have hS := (h.ok hi).2.1
  obtain ⟨B, hB⟩ : ∃ B, B = validB d.S.length f n := ⟨_, rfl⟩
  obtain ⟨S, hSS⟩ : ∃ S, S = d.S.length := ⟨_, rfl⟩
  have HS := Lib.hid hSS
  rw [← hB]
  rw [← hSS] at hS hB
  unfold validB at hB
  have HB := Lib.hid hB
  have HL := Lib.hid h
  have HI := Lib.hid hi
  clear h hi hB hSS
  by_cases a1 : 4 ≤ n
  · by_cases a2 : 0 ≤ f
    · have w1 : IntKind.i64.wrap ((S : Int) - f) = (S : Int) - f := i64_id _ (by omega) (by omega)
      by_cases a3 : n ≤ (S : Int) - f
      · have HT : Hid (B = true) := Lib.hid (by rw [HB.out, decide_eq_true ⟨a1, a2, a3⟩])
        go_enter Tryd.func32, Tryd.ntmps32
        go_wp2_with (go_at_call 52; refine (len_lv HL.out HI.out).mono ?_; rintro e w3 ⟨rfl, rfl⟩; rw [← HS.out])
        go_ret
        exact ⟨by rw [HT.out]; rfl, rfl⟩
      · have HT : Hid (B = false) := Lib.hid (by rw [HB.out, decide_eq_false (fun h => a3 h.2.2)])
        have a4 : decide (n ≤ (S : Int) - f) = false := by simpa using a3
        have a5 : (S : Int) - f < n := by omega
        clear a3
        go_enter Tryd.func32, Tryd.ntmps32
        go_wp2_with (go_at_call 52; refine (len_lv HL.out HI.out).mono ?_; rintro e w3 ⟨rfl, rfl⟩; rw [← HS.out])
        go_ret
        exact ⟨by rw [HT.out]; rfl, rfl⟩
    · have HT : Hid (B = false) := Lib.hid (by rw [HB.out, decide_eq_false (fun h => a2 h.2.1)])
      have a4 : decide (0 ≤ f) = false := by simpa using a2
      have a5 : f < 0 := by omega
      clear a2
      go_enter Tryd.func32, Tryd.ntmps32
      go_wp2
      go_ret
      exact ⟨by rw [HT.out]; rfl, rfl⟩
  · have HT : Hid (B = false) := Lib.hid (by rw [HB.out, decide_eq_false (fun h => a1 h.1)])
    have a4 : decide (4 ≤ n) = false := by simpa using a1
    have a5 : n < 4 := by omega
    clear a1
    go_enter Tryd.func32, Tryd.ntmps32
    go_wp2
    go_ret
    exact ⟨by rw [HT.out]; rfl, rfl⟩
end
end Go.Proofs.YthffegfcgmhppaaDoor
namespace Go.Proofs.YthffegfcgmhppaaDoor
open Go.RowKit
set_option linter.unusedSimpArgs false
set_option linter.unusedVariables false
def Dsc4 : List (Option Tmp) := [some 27, some 28, some 29, some 30, some 31, some 32, some 33, some 34, some 35]
def Lsc4 : List (List Nat) := [[], [0], [], [], [], [], [5], [2, 3, 4, 6], [1, 7]]
theorem run_build4b (x y z t : Int) (W : World) : (Instr.buildSlice 34 4 #[(0, .int .u8 x), (1, .int .u8 y), (2, .int .u8 z), (3, .int .u8 t)]).run Tryd.prog W = .ok (.slice (some ⟨W.heap.size, 0, none⟩) 4 4) (W.alloc (.cells #[.int .u8 x, .int .u8 y, .int .u8 z, .int .u8 t] 5)) := by kernel_rfl
def headB (r e : Nat) : List UInt8 := [UInt8.ofNat r, UInt8.ofNat (e / 65536), UInt8.ofNat (e / 256), UInt8.ofNat e]
def footB (r e : Nat) : List UInt8 := [UInt8.ofNat e, UInt8.ofNat (e / 256), UInt8.ofNat (e / 65536), UInt8.ofNat r]
/-- the sector of a description -/
def desB (r e : Nat) : List UInt8 := headB r e ++ List.replicate 56 0 ++ footB r e
theorem desB_len (r e : Nat) : (desB r e).length = 64 := by simp [desB, headB, footB]
set_option maxRecDepth 100000 in
set_option maxHeartbeats 4000000 in
theorem sector_any (r e : Nat) (hr : r < 256) (he : e < 16777216) (w : World) :
    Calls Tryd.prog 51 #[.agg #[.int .u8 (r : Int), .int .i64 (e : Int)]] w fun x w' => ∃ g, x = .returned (.slice (some ⟨g, 0, none⟩) 64 64) ∧ w.heap.size ≤ g ∧ Bs (fun b => b = g) w' (some ⟨g, 0, none⟩) 64 64 (desB r e) ∧ Below w.heap.size w w' := by
  obtain ⟨h, hh⟩ : ∃ h, h = e / 65536 := ⟨_, rfl⟩
  obtain ⟨m, hm⟩ : ∃ m, m = e / 256 % 256 := ⟨_, rfl⟩
  obtain ⟨l, hl⟩ : ∃ l, l = e % 256 := ⟨_, rfl⟩
  have w1 : IntKind.u8.wrap ((e : Int) / 65536) = (h : Int) := by rw [IntKind.wrap_u8]; omega
  have w2 : IntKind.u8.wrap ((e : Int) / 256) = (m : Int) := by rw [IntKind.wrap_u8]; omega
  have w3 : IntKind.u8.wrap (e : Int) = (l : Int) := by rw [IntKind.wrap_u8]; omega
  obtain ⟨us1, hu1⟩ : ∃ us1, us1 = headB r e := ⟨_, rfl⟩
  obtain ⟨us2, hu2⟩ : ∃ us2, us2 = footB r e := ⟨_, rfl⟩
  have HU1 : Hid (vals us1 = [.int .u8 (r : Int), .int .u8 (h : Int), .int .u8 (m : Int), .int .u8 (l : Int)]) := Lib.hid (by
    rw [hu1, hh, hm, hl]
    have a1 : r % 256 = r := by omega
    have a2 : e / 65536 % 256 = e / 65536 := by omega
    simp only [headB, vals, List.map_cons, List.map_nil, u8_ofNat, a1, a2])
  have HU2 : Hid (vals us2 = [.int .u8 (l : Int), .int .u8 (m : Int), .int .u8 (h : Int), .int .u8 (r : Int)]) := Lib.hid (by
    rw [hu2, hh, hm, hl]
    have a1 : r % 256 = r := by omega
    have a2 : e / 65536 % 256 = e / 65536 := by omega
    simp only [footB, vals, List.map_cons, List.map_nil, u8_ofNat, a1, a2])
  have HL1 : Hid ((vals us1).length = Nat.min 4 64) := Lib.hid (by rw [HU1.out]; rfl)
  have HL2 : Hid ((vals us2).length = Nat.min 4 4) := Lib.hid (by rw [HU2.out]; rfl)
  obtain ⟨s1, hs1⟩ : ∃ s1 : List UInt8, s1 = us1 ++ List.replicate 60 0 := ⟨_, rfl⟩
  have HS1 : Hid (splice (vals zeroB) 0 (vals us1) = vals s1) := Lib.hid (by rw [hs1, hu1]; simp [splice, zeroB, vals, headB])
  have HS2 : Hid (splice (vals s1) 60 (vals us2) = vals (desB r e)) := Lib.hid (by rw [hs1, hu1, hu2]; simp [splice, vals, headB, footB, desB])
  have HF1 : Hid (0 + (vals us1).length ≤ (vals zeroB).length) := Lib.hid (by rw [HU1.out, vals_len, zeroB_len]; show 0 + 4 ≤ 64; omega)
  have HF2 : Hid (60 + (vals us2).length ≤ (vals s1).length) := Lib.hid (by rw [HU2.out, vals_len, hs1, hu1]; simp [headB])
  obtain ⟨q1, hq1⟩ : ∃ q1, q1 = w.alloc (.cells #[.int .u8 (r : Int), .int .i64 (e : Int)] 60) := ⟨_, rfl⟩
  obtain ⟨g1, hg1⟩ : ∃ g1, g1 = w.heap.size := ⟨_, rfl⟩
  have HB1 : Hid (Below w.heap.size w q1) := Lib.hid (by rw [hq1]; exact (Below.refl _ _).alloc (Nat.le_refl _) _)
  have HR1 : Hid (q1.heap[g1]? = some (.cells #[.int .u8 (r : Int), .int .i64 (e : Int)] 60 (0, 0))) := Lib.hid (by rw [hq1, hg1]; exact heap_new rfl)
  have HG1 : Hid (w.heap.size ≤ g1 ∧ g1 < q1.heap.size) := Lib.hid ⟨by omega, (Array.getElem?_eq_some_iff.1 HR1.out).1⟩
  have c10 : q1.cell? ⟨g1, 0, none⟩ = some (.int .u8 (r : Int)) := by rw [cell_of_row q1 g1 0 _ _ _ HR1.out]; rfl
  have c11 : q1.cell? ⟨g1, 1, none⟩ = some (.int .i64 (e : Int)) := by rw [cell_of_row q1 g1 1 _ _ _ HR1.out]; rfl
  have hq1h := Lib.hid hq1
  have hg1h := Lib.hid hg1
  have hmk := run_mk64
  clear hh hm hl hu1 hu2 hs1 hq1 hg1
  go_enter Tryd.func51, Tryd.ntmps51
  go_wp2_with fail
  rw [← hq1h.out, ← hg1h.out]
  go_quiet (fail)
  go_upto_region 3 with fail
  obtain ⟨q2, hq2⟩ : ∃ q2, q2 = (q1.drewN nq).alloc (.cells Z64 5) := ⟨_, rfl⟩
  obtain ⟨g6, hg6⟩ : ∃ g6, g6 = q1.heap.size := ⟨_, rfl⟩
  rw [← hq2, ← hg6]
  have hb2 : Below q1.heap.size q1 q2 := by rw [hq2]; exact (below_drewN q1 nq).alloc (Nat.le_refl _) _
  have HR2 : Hid (q2.heap[g6]? = some (.cells (vals zeroB).toArray 5 (0, 0))) := Lib.hid (by rw [hq2, hg6, ← Z64_vals]; exact heap_new rfl)
  have HB2 : Hid (Below w.heap.size w q2) := Lib.hid (HB1.out.trans (hb2.mono HB1.out.size))
  have HG6 : Hid (w.heap.size ≤ g6) := Lib.hid (by have := HB1.out.size; omega)
  have HG16 : Hid (¬ g1 = g6) := Lib.hid (by have := HG1.out.2; omega)
  have C10 : Hid (q2.cell? ⟨g1, 0, none⟩ = some (.int .u8 (r : Int))) := Lib.hid ((hb2.cell (p := ⟨g1, 0, none⟩) HG1.out.2).trans c10)
  have HG12 : Hid (g1 < q2.heap.size) := Lib.hid (Nat.lt_of_lt_of_le HG1.out.2 hb2.size)
  have c12 := C10.out
  have hb4 := run_build4b
  have HS3 : Hid (∀ j v, (vals us1)[j]? = some v → (q2.alloc (.cells #[.int .u8 (r : Int), .int .u8 (h : Int), .int .u8 (m : Int), .int .u8 (l : Int)] 5)).cell? ((⟨q2.heap.size, 0, none⟩ : Addr).add j) = some v) := Lib.hid (fun j v hv => by rw [Addr.add_mid, Nat.zero_add, cell_of_row _ q2.heap.size j _ _ _ (heap_new rfl)]; rw [HU1.out] at hv; simpa using hv)
  have hba : Below q2.heap.size q2 (q2.alloc (.cells #[.int .u8 (r : Int), .int .u8 (h : Int), .int .u8 (m : Int), .int .u8 (l : Int)] 5)) := (Below.refl _ _).alloc (Nat.le_refl _) _
  have HR3a : Hid ((q2.alloc (.cells #[.int .u8 (r : Int), .int .u8 (h : Int), .int .u8 (m : Int), .int .u8 (l : Int)] 5)).heap[g6]? = some (.cells (vals zeroB).toArray 5 (0, 0))) := Lib.hid ((Kept.of_below (fun _ => False) hba).heap HR2.out (fun h => h))
  have HB2a : Hid (Below w.heap.size w (q2.alloc (.cells #[.int .u8 (r : Int), .int .u8 (h : Int), .int .u8 (m : Int), .int .u8 (l : Int)] 5))) := Lib.hid (HB2.out.trans (hba.mono HB2.out.size))
  have HK2 : Hid (∀ w7 : World, Kept (fun x => x = g6) q2 w7 → w7.cell? ⟨g1, 0, none⟩ = some (.int .u8 (r : Int)) ∧ g1 < w7.heap.size) := Lib.hid (fun w7 hk => ⟨(hk.cell (p := ⟨g1, 0, none⟩) HG12.out HG16.out).trans C10.out, Nat.lt_of_lt_of_le HG12.out hk.size⟩)
  clear hq2 hg6 hb2 c10 c11 hba
  go_upto_region 4 with (first
    | (refine wpList_copy_own rfl (.tmp 19) (.tmp 25) 34 34 rfl 5 Tryd.underlying34 (by kernel_rfl) g6 0 64 64 ⟨q2.heap.size, 0, none⟩ 4 4 rfl rfl (vals zeroB).toArray 5 HR3a.out (vals us1) HL1.out HS3.out (by simpa using HF1.out) (vals_one us1) ?_))
  obtain ⟨q3, hq3⟩ : ∃ q3, q3 = (q2.alloc (.cells #[.int .u8 (r : Int), .int .u8 (h : Int), .int .u8 (m : Int), .int .u8 (l : Int)] 5)).setRow g6 (splice (vals zeroB) 0 (vals us1)).toArray := ⟨_, rfl⟩
  show Code.wp _ _ _ _ ((q2.alloc (.cells #[.int .u8 (r : Int), .int .u8 (h : Int), .int .u8 (m : Int), .int .u8 (l : Int)] 5)).setRow g6 (splice (vals zeroB) 0 (vals us1)).toArray)
  rw [← hq3]
  have hk3 : Kept (fun x => x = g6) q2 q3 := by rw [hq3]; exact (((Kept.refl (fun x => x = g6) q2).alloc _).setRow (fun _ => rfl) _)
  have HR3 : Hid (q3.heap[g6]? = some (.cells (vals s1).toArray 5 (0, 0))) := Lib.hid (by rw [hq3, HS1.out]; exact setRow_heap _ _ _ _ _ _ HR3a.out)
  have HB3 : Hid (Below w.heap.size w q3) := Lib.hid (by rw [hq3]; exact below_setRow HB2a.out HG6.out _)
  have hk4 := HK2.out q3 hk3
  have C1q := Lib.hid hk4.1
  have HG1q := Lib.hid hk4.2
  have HG6q : Hid (g6 < q3.heap.size) := Lib.hid (Array.getElem?_eq_some_iff.1 HR3.out).1
  simp only [Act.put, List.setIfInBounds_toArray, List.set_cons_zero, List.set_cons_succ]
  clear hq3 hk3 HR3a HB2a hk4 HK2 c12 HB2 HR2 C10 HG12 HS3
  refine Roll.region_w 9 37 Dsc4 Lsc4 [(1, .pointer (some ⟨g1, 0, none⟩)), (3, .int .u8 (h : Int)), (4, .int .u8 (m : Int)), (5, .int .u8 (l : Int)), (6, .slice (some ⟨g6, 0, none⟩) 64 64)] 8 [true, true, true, true, true, true, true, false, false] (fun p => Below q3.heap.size q3 p) (fun vv p => p.heap[g6]? = some (.cells (splice (vals s1) 60 (vals us2)).toArray 5 (0, 0)) ∧ Kept (fun x => x = g6) q3 p) (fun p => Kept (fun x => x = g6) q3 p) (fun p p2 => Kept (fun x => x = g6) p p2) [fun vv p => (vv 0) = .slice (some ⟨g6, 0, none⟩) 64 64, fun vv p => (vv 1) = .slice (some ⟨g6, 60, none⟩) 4 4, fun vv p => (vv 2) = .int .u8 (l : Int), fun vv p => (vv 3) = .int .u8 (m : Int), fun vv p => (vv 4) = .int .u8 (h : Int), fun vv p => (vv 5) = .pointer (some ⟨g1, 0, none⟩), fun vv p => (vv 6) = .int .u8 (r : Int), fun vv p => ∃ x, (vv 7) = .slice (some ⟨x, 0, none⟩) 4 4 ∧ q3.heap.size ≤ x ∧ p.heap[x]? = some (.cells #[.int .u8 (l : Int), .int .u8 (m : Int), .int .u8 (h : Int), .int .u8 (r : Int)] 5 (0, 0)), fun vv p => True] (by kernel_rfl) (by kernel_rfl) rfl ⟨rfl, rfl, rfl, rfl, rfl, trivial⟩ ((Below.refl _ _).drew) (by decide) (by kernel_rfl) (fun _ h => Kept.of_below _ h) (fun _ _ h => h.2) (fun _ => Kept.refl _ _) ?_ ?_ ?_
  · exact ⟨fun _ _ _ _ h => h, fun _ _ _ _ h => h, fun _ _ _ _ h => h, fun _ _ _ _ h => h, fun _ _ _ _ h => h, fun _ _ _ _ h => h, fun _ _ _ _ h => h, fun _ _ _ hs h => by obtain ⟨x, e1, e2, e3⟩ := h; exact ⟨x, e1, e2, hs.heap e3 (fun e => by have := HG6q.out; omega)⟩, fun _ _ _ _ h => h, trivial⟩
  · intro b0 hN hlv
    refine ⟨?_, ?_, ?_, ?_, ?_, ?_, ?_, ?_, ?_, trivial⟩
    · intro vs p hI0 hp
      have hI := Roll.inw_pure (by decide) rfl hI0
      clear hI0
      have e6 : (Roll.putD Dsc4 vs [] b0).eval (.tmp 6) = .slice (some ⟨g6, 0, none⟩) 64 64 := (Roll.eval_old rfl).trans (hlv.at 4 (6, .slice (some ⟨g6, 0, none⟩) 64 64) rfl)
      clear hp hlv hN
      unfold Roll.Goes
      simp only [Lsc4, List.getD_cons_zero, List.getD_cons_succ]
      generalize Roll.putD Dsc4 vs [] b0 = a1 at *
      refine Roll.goes_val (w' := p) (.slice (some ⟨g6, 0, none⟩) 64 64) rfl ?_ ⟨(Roll.outw_pure (by decide) rfl), rfl⟩
      (have ec : ∀ x, a1.eval (.const x) = x := fun _ => rfl); (have ef : ∀ x, a1.eval (.func x) = .func (.func x) #[] #[] := fun _ => rfl); generalize a1.eval = ρ at *
      skip
      go_simp <;> (intros; first | (exfalso; omega) | rfl)
    · intro vs p hI0 hp
      have hI := Roll.inw_pure (by decide) rfl hI0
      clear hI0
      have h0 : (vs 0) = .slice (some ⟨g6, 0, none⟩) 64 64 := hp 0 (by simp [Lsc4])
      have e27 : (Roll.putD Dsc4 vs [0] b0).eval (.tmp 27) = .slice (some ⟨g6, 0, none⟩) 64 64 := (Roll.eval_new 0 rfl (by decide) (by decide) (by omega)).trans h0
      clear hp hlv hN
      unfold Roll.Goes
      simp only [Lsc4, List.getD_cons_zero, List.getD_cons_succ]
      generalize Roll.putD Dsc4 vs [0] b0 = a1 at *
      refine Roll.goes_val (w' := p) (.slice (some ⟨g6, 60, none⟩) 4 4) rfl ?_ ⟨(Roll.outw_pure (by decide) rfl), rfl⟩
      (have ec : ∀ x, a1.eval (.const x) = x := fun _ => rfl); (have ef : ∀ x, a1.eval (.func x) = .func (.func x) #[] #[] := fun _ => rfl); generalize a1.eval = ρ at *
      clear h0
      go_simp <;> (intros; first | (exfalso; omega) | rfl)
    · intro vs p hI0 hp
      have hI := Roll.inw_pure (by decide) rfl hI0
      clear hI0
      have e5 : (Roll.putD Dsc4 vs [] b0).eval (.tmp 5) = .int .u8 (l : Int) := (Roll.eval_old rfl).trans (hlv.at 3 (5, .int .u8 (l : Int)) rfl)
      clear hp hlv hN
      unfold Roll.Goes
      simp only [Lsc4, List.getD_cons_zero, List.getD_cons_succ]
      generalize Roll.putD Dsc4 vs [] b0 = a1 at *
      refine Roll.goes_val (w' := p) (.int .u8 (l : Int)) rfl ?_ ⟨(Roll.outw_pure (by decide) rfl), rfl⟩
      (have ec : ∀ x, a1.eval (.const x) = x := fun _ => rfl); (have ef : ∀ x, a1.eval (.func x) = .func (.func x) #[] #[] := fun _ => rfl); generalize a1.eval = ρ at *
      skip
      go_simp <;> (intros; first | (exfalso; omega) | rfl)
    · intro vs p hI0 hp
      have hI := Roll.inw_pure (by decide) rfl hI0
      clear hI0
      have e4 : (Roll.putD Dsc4 vs [] b0).eval (.tmp 4) = .int .u8 (m : Int) := (Roll.eval_old rfl).trans (hlv.at 2 (4, .int .u8 (m : Int)) rfl)
      clear hp hlv hN
      unfold Roll.Goes
      simp only [Lsc4, List.getD_cons_zero, List.getD_cons_succ]
      generalize Roll.putD Dsc4 vs [] b0 = a1 at *
      refine Roll.goes_val (w' := p) (.int .u8 (m : Int)) rfl ?_ ⟨(Roll.outw_pure (by decide) rfl), rfl⟩
      (have ec : ∀ x, a1.eval (.const x) = x := fun _ => rfl); (have ef : ∀ x, a1.eval (.func x) = .func (.func x) #[] #[] := fun _ => rfl); generalize a1.eval = ρ at *
      skip
      go_simp <;> (intros; first | (exfalso; omega) | rfl)
    · intro vs p hI0 hp
      have hI := Roll.inw_pure (by decide) rfl hI0
      clear hI0
      have e3 : (Roll.putD Dsc4 vs [] b0).eval (.tmp 3) = .int .u8 (h : Int) := (Roll.eval_old rfl).trans (hlv.at 1 (3, .int .u8 (h : Int)) rfl)
      clear hp hlv hN
      unfold Roll.Goes
      simp only [Lsc4, List.getD_cons_zero, List.getD_cons_succ]
      generalize Roll.putD Dsc4 vs [] b0 = a1 at *
      refine Roll.goes_val (w' := p) (.int .u8 (h : Int)) rfl ?_ ⟨(Roll.outw_pure (by decide) rfl), rfl⟩
      (have ec : ∀ x, a1.eval (.const x) = x := fun _ => rfl); (have ef : ∀ x, a1.eval (.func x) = .func (.func x) #[] #[] := fun _ => rfl); generalize a1.eval = ρ at *
      skip
      go_simp <;> (intros; first | (exfalso; omega) | rfl)
    · intro vs p hI0 hp
      have hI := Roll.inw_pure (by decide) rfl hI0
      clear hI0
      have e1 : (Roll.putD Dsc4 vs [] b0).eval (.tmp 1) = .pointer (some ⟨g1, 0, none⟩) := (Roll.eval_old rfl).trans (hlv.at 0 (1, .pointer (some ⟨g1, 0, none⟩)) rfl)
      clear hp hlv hN
      unfold Roll.Goes
      simp only [Lsc4, List.getD_cons_zero, List.getD_cons_succ]
      generalize Roll.putD Dsc4 vs [] b0 = a1 at *
      refine Roll.goes_val (w' := p) (.pointer (some ⟨g1, 0, none⟩)) rfl ?_ ⟨(Roll.outw_pure (by decide) rfl), rfl⟩
      (have ec : ∀ x, a1.eval (.const x) = x := fun _ => rfl); (have ef : ∀ x, a1.eval (.func x) = .func (.func x) #[] #[] := fun _ => rfl); generalize a1.eval = ρ at *
      skip
      go_simp <;> (intros; first | (exfalso; omega) | rfl)
    · intro vs p hI0 hp
      have hI := Roll.inw_pure (by decide) rfl hI0
      clear hI0
      have h5 : (vs 5) = .pointer (some ⟨g1, 0, none⟩) := hp 5 (by simp [Lsc4])
      have e32 : (Roll.putD Dsc4 vs [5] b0).eval (.tmp 32) = .pointer (some ⟨g1, 0, none⟩) := (Roll.eval_new 5 rfl (by decide) (by decide) (by omega)).trans h5
      clear hp hlv hN
      unfold Roll.Goes
      simp only [Lsc4, List.getD_cons_zero, List.getD_cons_succ]
      generalize Roll.putD Dsc4 vs [5] b0 = a1 at *
      have cf : p.cell? ⟨g1, 0, none⟩ = some (.int .u8 (r : Int)) := (hI.cell (p := ⟨g1, 0, none⟩) HG1q.out HG16.out).trans C1q.out
      refine Roll.goes_val (w' := p) (.int .u8 (r : Int)) rfl ?_ ⟨(Roll.outw_pure (by decide) rfl), rfl⟩
      (have ec : ∀ x, a1.eval (.const x) = x := fun _ => rfl); (have ef : ∀ x, a1.eval (.func x) = .func (.func x) #[] #[] := fun _ => rfl); generalize a1.eval = ρ at *
      clear h5
      go_simp <;> (intros; first | (exfalso; omega) | rfl)
    · intro vs p hI0 hp
      have hI := Roll.inw_pre (by decide) rfl hI0
      clear hI0
      have h2 : (vs 2) = .int .u8 (l : Int) := hp 2 (by simp [Lsc4])
      have h3 : (vs 3) = .int .u8 (m : Int) := hp 3 (by simp [Lsc4])
      have h4 : (vs 4) = .int .u8 (h : Int) := hp 4 (by simp [Lsc4])
      have h6 : (vs 6) = .int .u8 (r : Int) := hp 6 (by simp [Lsc4])
      have e29 : (Roll.putD Dsc4 vs [2, 3, 4, 6] b0).eval (.tmp 29) = .int .u8 (l : Int) := (Roll.eval_new 2 rfl (by decide) (by decide) (by omega)).trans h2
      have e30 : (Roll.putD Dsc4 vs [2, 3, 4, 6] b0).eval (.tmp 30) = .int .u8 (m : Int) := (Roll.eval_new 3 rfl (by decide) (by decide) (by omega)).trans h3
      have e31 : (Roll.putD Dsc4 vs [2, 3, 4, 6] b0).eval (.tmp 31) = .int .u8 (h : Int) := (Roll.eval_new 4 rfl (by decide) (by decide) (by omega)).trans h4
      have e33 : (Roll.putD Dsc4 vs [2, 3, 4, 6] b0).eval (.tmp 33) = .int .u8 (r : Int) := (Roll.eval_new 6 rfl (by decide) (by decide) (by omega)).trans h6
      clear hp hlv hN
      unfold Roll.Goes
      simp only [Lsc4, List.getD_cons_zero, List.getD_cons_succ]
      generalize Roll.putD Dsc4 vs [2, 3, 4, 6] b0 = a1 at *
      have hal : Below p.heap.size p (p.alloc (.cells #[.int .u8 (l : Int), .int .u8 (m : Int), .int .u8 (h : Int), .int .u8 (r : Int)] 5)) := (Below.refl _ _).alloc (Nat.le_refl _) _
      refine Roll.goes_val (w' := p.alloc (.cells #[.int .u8 (l : Int), .int .u8 (m : Int), .int .u8 (h : Int), .int .u8 (r : Int)] 5)) (.slice (some ⟨p.heap.size, 0, none⟩) 4 4) rfl (by have ec : ∀ x, a1.eval (.const x) = x := fun _ => rfl; have ef : ∀ x, a1.eval (.func x) = .func (.func x) #[] #[] := fun _ => rfl; have hbs := run_build4b; generalize a1.eval = ρ at *; go_simp <;> (intros; first | (exfalso; omega) | rfl)) ⟨Roll.outw_pre (by decide) rfl (hI.trans (hal.mono hI.size)) (Kept.of_below _ hal), p.heap.size, rfl, hI.size, heap_new rfl⟩
    · intro vs p hI0 hp
      have hI := Roll.inw_k0 rfl hI0
      clear hI0
      have h1 : (vs 1) = .slice (some ⟨g6, 60, none⟩) 4 4 := hp 1 (by simp [Lsc4])
      have h7 : ∃ x, (vs 7) = .slice (some ⟨x, 0, none⟩) 4 4 ∧ q3.heap.size ≤ x ∧ p.heap[x]? = some (.cells #[.int .u8 (l : Int), .int .u8 (m : Int), .int .u8 (h : Int), .int .u8 (r : Int)] 5 (0, 0)) := hp 7 (by simp [Lsc4])
      have e28 : (Roll.putD Dsc4 vs [1, 7] b0).eval (.tmp 28) = .slice (some ⟨g6, 60, none⟩) 4 4 := (Roll.eval_new 1 rfl (by decide) (by decide) (by omega)).trans h1
      have e34 : (Roll.putD Dsc4 vs [1, 7] b0).eval (.tmp 34) = vs 7 := (Roll.eval_new 7 rfl (by decide) (by decide) (by omega))
      clear hp hlv hN
      unfold Roll.Goes
      simp only [Lsc4, List.getD_cons_zero, List.getD_cons_succ]
      generalize Roll.putD Dsc4 vs [1, 7] b0 = a1 at *
      obtain ⟨x, hv7, hx, hhx⟩ := h7
      rw [hv7] at e34
      have HS4 : ∀ j v, (vals us2)[j]? = some v → p.cell? ((⟨x, 0, none⟩ : Addr).add j) = some v := fun j v hv => by rw [Addr.add_mid, Nat.zero_add, cell_of_row p x j _ _ _ hhx]; rw [HU2.out] at hv; simpa using hv
      have HR4 : p.heap[g6]? = some (.cells (vals s1).toArray 5 (0, 0)) := (Kept.of_below (fun _ => False) hI).heap HR3.out (fun h => h)
      refine wpList_copy_own rfl (.tmp 28) (.tmp 34) 34 34 rfl 5 Tryd.underlying34 (by kernel_rfl) g6 60 4 4 ⟨x, 0, none⟩ 4 4 e28 e34 (vals s1).toArray 5 HR4 (vals us2) HL2.out HS4 (by simpa using HF2.out) (vals_one us2) ?_
      refine wpList_nil ?_
      have hk : Kept (fun x => x = g6) p (p.setRow g6 (splice (vals s1) 60 (vals us2)).toArray) := (Kept.refl (fun x => x = g6) p).setRow (fun _ => rfl) _
      exact ⟨_, rfl, Roll.outw_k0 rfl ⟨setRow_heap _ _ _ _ _ _ HR4, (Kept.of_below (fun x => x = g6) hI).trans hk (fun _ _ h => h)⟩ hk, trivial⟩
  · intro vs p hI hR
    have h0 : (vs 0) = .slice (some ⟨g6, 0, none⟩) 64 64 := hR 0 (by omega)
    have h1 : (vs 1) = .slice (some ⟨g6, 60, none⟩) 4 4 := hR 1 (by omega)
    have h2 : (vs 2) = .int .u8 (l : Int) := hR 2 (by omega)
    have h3 : (vs 3) = .int .u8 (m : Int) := hR 3 (by omega)
    have h4 : (vs 4) = .int .u8 (h : Int) := hR 4 (by omega)
    have h5 : (vs 5) = .pointer (some ⟨g1, 0, none⟩) := hR 5 (by omega)
    have h6 : (vs 6) = .int .u8 (r : Int) := hR 6 (by omega)
    have h7 : ∃ x, (vs 7) = .slice (some ⟨x, 0, none⟩) 4 4 ∧ q3.heap.size ≤ x ∧ p.heap[x]? = some (.cells #[.int .u8 (l : Int), .int .u8 (m : Int), .int .u8 (h : Int), .int .u8 (r : Int)] 5 (0, 0)) := hR 7 (by omega)
    have h8 : True := hR 8 (by omega)
    clear hR
    simp only [List.range_succ, List.range_zero, List.nil_append, List.cons_append, Roll.putD, Act.put, List.getD_cons_zero, List.getD_cons_succ, List.setIfInBounds_toArray, List.set_cons_zero, List.set_cons_succ, List.drop_succ_cons, List.drop_zero, Dsc4]
    simp only [h0, h1, h2, h3, h4, h5, h6]
    clear h0 h1 h2 h3 h4 h5 h6
    generalize vs 7 = v7 at *
    generalize vs 8 = v8 at *
    clear h7 h8
    have HF := Lib.hid hI.1
    have HBp : Hid (Below w.heap.size w p) := Lib.hid (HB3.out.trans (hI.2.below HB3.out.size (fun j hj e => by have := HG6.out; omega)))
    clear hI
    go_wp2_with fail
    go_ret
    have hfin := HF.out
    rw [HS2.out] at hfin
    have := bs_block hfin (by rw [desB_len]; decide)
    rw [desB_len] at this
    exact ⟨g6, rfl, HG6.out, this, HBp.out⟩
end Go.Proofs.YthffegfcgmhppaaDoor

/-
  Walks over the digest seat: Write.
-/
import Derived.Test.YtdfpjhpkkhdpoaaDoorB0
import Derived.Deep.RegionHeld3
namespace Go.Proofs.YtdfpjhpkkhdpoaaDoor
open Go.RowKit
attribute [local go_sem ↓] exec_at_zero exec_at_succ exec_sliceF exec_load8 exec_store8 exec_load64 Go.wp_at_zero Go.wp_at_succ
/-- a state: its cells, and that it is the state after some bytes -/
def dcells (hs : List (BitVec 32)) (a : Option Addr) (n c : Nat) (L : Int) : Array Value := (wvals hs ++ [Value.slice a n c, Value.int .i64 L]).toArray
def St (w : World) (v : Value) (l : List UInt8) : Prop := ∃ a c, v = .agg (dcells (absH H8 l) a (absR l).length c l.length) ∧ Bs w a (absR l).length c (absR l)
theorem St.below {w w' : World} {v : Value} {l : List UInt8} (h : St w v l) (hb : Below w.heap.size w w') : St w' v l := by
  obtain ⟨a, c, e, hB⟩ := h
  exact ⟨a, c, e, hB.below hb⟩
theorem dcells_size (hs : List (BitVec 32)) (a : Option Addr) (n c : Nat) (L : Int) (h : hs.length = 8) : (dcells hs a n c L).size = 10 := by simp [dcells, wvals, h]
theorem dcells_one (hs : List (BitVec 32)) (a : Option Addr) (n c : Nat) (L : Int) : (dcells hs a n c L).all (·.oneCell') = true := by
  simp [dcells, wvals, Value.oneCell']
theorem dcells_low (hs : List (BitVec 32)) (a : Option Addr) (n c : Nat) (L : Int) (j : Nat) (h : hs.length = 8) (hj : j < 8) : (dcells hs a n c L)[j]? = (wvals hs)[j]? := by
  unfold dcells
  rw [List.getElem?_toArray, List.getElem?_append_left (by rw [wvals_len, h]; exact hj)]
theorem dcells_8 (hs : List (BitVec 32)) (a : Option Addr) (n c : Nat) (L : Int) (h : hs.length = 8) : (dcells hs a n c L)[8]? = some (.slice a n c) := by
  unfold dcells
  rw [List.getElem?_toArray, List.getElem?_append_right (by rw [wvals_len, h]; omega), wvals_len, h]; rfl
theorem dcells_9 (hs : List (BitVec 32)) (a : Option Addr) (n c : Nat) (L : Int) (h : hs.length = 8) : (dcells hs a n c L)[9]? = some (.int .i64 L) := by
  unfold dcells
  rw [List.getElem?_toArray, List.getElem?_append_right (by rw [wvals_len, h]; omega), wvals_len, h]; rfl
/-- the cells of a state in a block -/
theorem dblock {w : World} {g : Nat} {hs : List (BitVec 32)} {a : Option Addr} {n c : Nat} {L : Int} {t : TypeId} (hg : w.heap[g]? = some (.cells (dcells hs a n c L) t (0, 0))) (h : hs.length = 8) :
    Row8 w g 0 ∧ row8 w g 0 = hs ∧ w.cell? ⟨g, 8, none⟩ = some (.slice a n c) ∧ w.cell? ⟨g, 9, none⟩ = some (.int .i64 L) := by
  have hr : w.rangeAt g 0 (wvals hs) := by
    intro j v hv
    have hj : j < 8 := by have := (List.getElem?_eq_some_iff.1 hv).1; rw [wvals_len, h] at this; exact this
    rw [Nat.zero_add, cell_of_row w g j _ _ _ hg, dcells_low _ _ _ _ _ _ h hj]; exact hv
  refine ⟨row8_mk h hr ?_, row8_of h hr, ?_, ?_⟩
  · intro j hj
    rw [Nat.zero_add]
    refine ⟨?_, frozen_of_row w g j _ _ hg⟩
    rw [cell_of_row w g j _ _ _ hg, dcells_low _ _ _ _ _ _ h hj, List.getElem?_eq_getElem (by rw [wvals_len, h]; exact hj)]; rfl
  · rw [cell_of_row w g 8 _ _ _ hg, dcells_8 _ _ _ _ _ h]
  · rw [cell_of_row w g 9 _ _ _ hg, dcells_9 _ _ _ _ _ h]
theorem zeros33 : (#[.int .u32 0, .int .u32 0, .int .u32 0, .int .u32 0, .int .u32 0, .int .u32 0, .int .u32 0, .int .u32 0, .slice none 0 0, .int .i64 0] : Array Value) = dcells (List.replicate 8 0) none 0 0 0 := by
  simp [dcells, wvals, wi, List.replicate]
theorem H8_len : H8.length = 8 := rfl
theorem absH_len (l : List UInt8) : (absH H8 l).length = 8 := absTo_len _ _ rfl _
/-- a block of eight words -/
def Blk8 (w : World) (g : Nat) : Prop := ∃ l : List (BitVec 32), l.length = 8 ∧ w.heap[g]? = some (.cells (wcells l) 31 (0, 0))
theorem Blk8_drew (w : World) (g : Nat) : Blk8 w.drew g ↔ Blk8 w g := by constructor <;> exact id
theorem Blk8_alloc (w : World) (o : Obj) (g : Nat) (h : Blk8 w g) : Blk8 (w.alloc o) g := by
  obtain ⟨l, hl, hg⟩ := h; exact ⟨l, hl, heap_old hg⟩
theorem Blk8_new (w : World) (g : Nat) (hg : g = w.heap.size) : Blk8 (w.alloc (.cells #[.int .u32 0, .int .u32 0, .int .u32 0, .int .u32 0, .int .u32 0, .int .u32 0, .int .u32 0, .int .u32 0] 31)) g :=
  ⟨List.replicate 8 0, by simp, by rw [zeros8]; exact heap_new hg⟩
theorem Blk8_keep {w w' : World} (hb : Below w.heap.size w w') : ∀ g, Blk8 w g → Blk8 w' g := fun g ⟨l, hl, hg⟩ => ⟨l, hl, (hb.block g (heap_lt hg)).trans hg⟩
theorem Blk8_row {w : World} {g : Nat} (h : Blk8 w g) : Row8 w g 0 := by
  obtain ⟨l, hl, hg⟩ := h
  refine row8_mk hl (fun j v hv => ?_) (fun j hj => ?_)
  · rw [Nat.zero_add, cell_of_row w g j _ _ _ hg, ← wvals_arr, List.getElem?_toArray]; exact hv
  · rw [Nat.zero_add]
    exact ⟨by rw [cell_of_row w g j _ _ _ hg, wcells_get l j (by omega)]; rfl, frozen_of_row w g j _ _ hg⟩
theorem run_store8r (w : World) (g : Nat) (l : List (BitVec 32)) (hl : l.length = 8) (h : Blk8 w g) : (store8A (.pointer (some ⟨g, 0, none⟩)) (.agg (wcells l))).run Tryd.prog w = .ok .skip (w.setRow g (wcells l)) := by
  obtain ⟨old, ho, hg⟩ := h
  unfold store8A
  simp only [Instr.storeAt, Instr.sureAddr, Sem.run_bind, Sem.run_pure, Result.andThen_ok, run_storeVar_row w g 31 31 _ (wcells l) hg (by rw [wcells_size, hl]; exact size8w) (by rw [wcells_size, wcells_size, ho, hl]) (wcells_one l)]
/-- a store into such a block turns no bytes -/
theorem Bs_setRow {w : World} {a : Option Addr} {n c : Nat} {l : List UInt8} (h : Bs w a n c l) {g : Nat} (hg : Blk8 w g) (cs : Array Value) : Bs (w.setRow g cs) a n c l := by
  obtain ⟨h1, h2, h3, h4, h5⟩ := h
  refine ⟨h1, h2, h3, h4, fun hn => ?_⟩
  obtain ⟨b, off, ha, hc⟩ := h5 hn
  have hbg : b ≠ g := by
    rintro rfl
    obtain ⟨old, ho, hgo⟩ := hg
    have := hc 0 hn
    rw [cell_of_row w b _ _ _ _ hgo] at this
    have hlt : off + 0 < (wcells old).size := (Array.getElem?_eq_some_iff.1 this).1
    rw [wcells_get old _ (by rw [wcells_size] at hlt; exact hlt)] at this
    simp at this
  refine ⟨b, off, ha, fun i hi => ?_⟩
  have : (w.setRow g cs).cell? ⟨b, off + i, none⟩ = w.cell? ⟨b, off + i, none⟩ := World.cell?_of_block (setRow_other w g b cs hbg)
  rw [this]; exact hc i hi
/-- slices.Concat of two pieces -/
theorem concat2_any (a1 : Option Addr) (n1 c1 : Nat) (l1 : List UInt8) (a2 : Option Addr) (n2 c2 : Nat) (l2 : List UInt8) (S : Nat) (t : TypeId) (w : World)
    (hS : w.heap[S]? = some (.cells #[.slice a1 n1 c1, .slice a2 n2 c2] t (0, 0))) (h1 : Bs w a1 n1 c1 l1) (h2 : Bs w a2 n2 c2 l2) (l : List UInt8) (hl : l = l1 ++ l2) (hn : l.length ≤ 140737488355328) :
    Calls Tryd.prog 36 #[.slice (some ⟨S, 0, none⟩) 2 2] w fun e w' => ∃ a c, e = .returned (.slice a l.length c) ∧ Bs w' a l.length c l ∧ Below w.heap.size w w' := by
  subst hl
  have hj : joined [⟨a1, n1, c1, l1⟩, ⟨a2, n2, c2, l2⟩] = l1 ++ l2 := by simp [joined]
  have := concat_any [⟨a1, n1, c1, l1⟩, ⟨a2, n2, c2, l2⟩] S w ⟨?_, ?_⟩ (heap_lt hS) (by simp) (by rw [hj]; exact hn)
  · rw [hj] at this; exact this
  · intro i hi
    rw [cell_of_row w S i _ _ _ hS]
    match i, hi with
    | 0, _ => rfl
    | 1, _ => rfl
  · intro p hp
    simp only [List.mem_cons, List.not_mem_nil, or_false] at hp
    rcases hp with rfl | rfl
    · exact h1
    · exact h2
theorem words8 {hs : List (BitVec 32)} (h : hs.length = 8) : ∃ a b c d e f g i, hs = [a, b, c, d, e, f, g, i] := by
  match hs, h with
  | [a, b, c, d, e, f, g, i], _ => exact ⟨a, b, c, d, e, f, g, i, rfl⟩
theorem run_build33' (w : World) (x0 x1 x2 x3 x4 x5 x6 x7 : BitVec 32) (a : Option Addr) (n c : Nat) (L : Int) :
    (Instr.build 33 #[(0, .agg (wcells [x0, x1, x2, x3, x4, x5, x6, x7])), (1, .slice a n c), (2, .int .i64 L)]).run Tryd.prog w = .ok (.agg (dcells [x0, x1, x2, x3, x4, x5, x6, x7] a n c L)) w := by kernel_rfl
def build33A (x y z : Value) : Sem Next := do pure (.value (← Instr.build 33 #[(0, x), (1, y), (2, z)]))
theorem exec_build33 (ρ : Operand → Value) (d : Option Tmp) (x y z : Operand) (ty : TypeId) (pos : String) (af : Array Edge) (gd : Option (Nat × Bool)) :
    execOp ρ { dst := d, op := .build 33 #[(0, x), (1, y), (2, z)], type := ty, pos := pos, after := af, guard := gd } = build33A (ρ x) (ρ y) (ρ z) := by
  unfold execOp build33A
  simp
theorem run_build33 (w : World) (hs : List (BitVec 32)) (h : hs.length = 8) (a : Option Addr) (n c : Nat) (L : Int) :
    (build33A (.agg (wcells hs)) (.slice a n c) (.int .i64 L)).run Tryd.prog w = .ok (.value (.agg (dcells hs a n c L))) w := by
  obtain ⟨x0, x1, x2, x3, x4, x5, x6, x7, rfl⟩ := words8 h
  unfold build33A
  simp only [Sem.run_bind, Sem.run_pure, run_build33', Result.andThen_ok]
def Blk33 (w : World) (g : Nat) : Prop := ∃ (hs : List (BitVec 32)) (a : Option Addr) (n c : Nat) (L : Int), hs.length = 8 ∧ w.heap[g]? = some (.cells (dcells hs a n c L) 33 (0, 0))
theorem Blk33_keep {w w' : World} (hb : Below w.heap.size w w') : ∀ g, Blk33 w g → Blk33 w' g := fun g ⟨hs, a, n, c, L, hl, hg⟩ => ⟨hs, a, n, c, L, hl, (hb.block g (heap_lt hg)).trans hg⟩
theorem Blk33_drew (w : World) (g : Nat) : Blk33 w.drew g ↔ Blk33 w g := by constructor <;> exact id
theorem Blk33_alloc (w : World) (o : Obj) (g : Nat) (h : Blk33 w g) : Blk33 (w.alloc o) g := by
  obtain ⟨hs, a, n, c, L, hl, hg⟩ := h; exact ⟨hs, a, n, c, L, hl, heap_old hg⟩
def store33A (v x : Value) : Sem Next := do Instr.storeAt 33 v x; pure .skip
theorem exec_store33 (ρ : Operand → Value) (d : Option Tmp) (x y : Operand) (ty : TypeId) (pos : String) (af : Array Edge) (gd : Option (Nat × Bool)) :
    execOp ρ { dst := d, op := .store 33 x y, type := ty, pos := pos, after := af, guard := gd } = store33A (ρ x) (ρ y) := rfl
theorem size33 : (Tryd.prog.info? 33).map (·.size) = some 10 := by kernel_rfl
theorem run_store33 (w : World) (g : Nat) (hs : List (BitVec 32)) (hl : hs.length = 8) (a : Option Addr) (n c : Nat) (L : Int) (h : Blk33 w g) :
    (store33A (.pointer (some ⟨g, 0, none⟩)) (.agg (dcells hs a n c L))).run Tryd.prog w = .ok .skip (w.setRow g (dcells hs a n c L)) := by
  obtain ⟨hs', a', n', c', L', hl', hg⟩ := h
  unfold store33A
  simp only [Instr.storeAt, Instr.sureAddr, Sem.run_bind, Sem.run_pure, Result.andThen_ok, run_storeVar_row w g 33 33 _ (dcells hs a n c L) hg (by rw [dcells_size _ _ _ _ _ hl]; exact size33) (by rw [dcells_size _ _ _ _ _ hl, dcells_size _ _ _ _ _ hl']) (dcells_one _ _ _ _ _)]
theorem Row8_alloc (w : World) (o : Obj) (g k : Nat) (h : Row8 w g k) : Row8 (w.alloc o) g k := (h.below ((Below.refl _ _).alloc (Nat.le_refl _) _)).1
theorem row8_alloc (w : World) (o : Obj) (g k : Nat) (h : Row8 w g k) : row8 (w.alloc o) g k = row8 w g k := (h.below ((Below.refl _ _).alloc (Nat.le_refl _) _)).2
attribute [local go_sem ↓] exec_build33 exec_store33
attribute [local go_sem] run_build33 run_store33 Blk33_drew Blk33_alloc Row8_alloc row8_alloc
attribute [local go_sem] run_load8 run_store8r Row8_drew row8_drew Blk8_drew Blk8_alloc Blk8_new
/-- what the first parts of Write rest on -/
theorem S_below {B : Nat} {hs : List (BitVec 32)} {x : Value} {w3 w' : World} {H : Nat} (hB : B = w3.heap.size) (h3 : Row8 w3 H 0 ∧ row8 w3 H 0 = hs ∧ w3.cell? ⟨H, 8, none⟩ = some x) (hb : Below B w3 w') :
    Row8 w' H 0 ∧ row8 w' H 0 = hs ∧ w'.cell? ⟨H, 8, none⟩ = some x ∧ Below B w3 w' := by
  subst hB
  obtain ⟨r, e, c⟩ := h3
  exact ⟨(r.below hb).1, (r.below hb).2.trans e, (hb.cell (p := ⟨H, 8, none⟩) (block_lt_of_cell c)).trans c, hb⟩
theorem Tabs_drew {w : World} (h : Tabs w) : Tabs w.drew := h
theorem Bs_drew {w : World} {a : Option Addr} {n c : Nat} {l : List UInt8} (h : Bs w a n c l) : Bs w.drew a n c l := h
theorem SK_alloc {A B C : Prop} {B3 : Nat} {w3 w : World} {o : Obj} (hB : B3 = w3.heap.size) (h : A ∧ B ∧ C ∧ Below B3 w3 w) : Below B3 w3 (w.alloc o) := h.2.2.2.alloc (by rw [hB]; exact h.2.2.2.size) _
theorem SK_alloc' {A B C : Prop} {B3 : Nat} {w3 w : World} {o : Obj} (hB : B3 = w3.heap.size) (h : A ∧ B ∧ C ∧ Below B3 w3 w.drew) : Below B3 w3 (w.alloc o).drew :=
  show Below B3 w3 (w.drew.alloc o) from h.2.2.2.alloc (by rw [hB]; exact h.2.2.2.size) _
theorem SK_call {A B C : Prop} {B3 : Nat} {w3 w w' : World} (hB : B3 = w3.heap.size) (hb : Below w.heap.size w w') (h : A ∧ B ∧ C ∧ Below B3 w3 w) : Below B3 w3 w' := h.2.2.2.trans (hb.mono (by rw [hB]; exact h.2.2.2.size))
theorem SK_row {A B C A' B' C' : Prop} {B3 : Nat} {w3 w x : World} {cs : Array Value} (hB : B3 = w3.heap.size) (hX : A' ∧ B' ∧ C' ∧ Below B3 w3 x) (h : A ∧ B ∧ C ∧ Below B3 w3 w) : Below B3 w3 (w.setRow x.heap.size cs) := Below_setRow h.2.2.2 (by rw [hB]; exact hX.2.2.2.size) _
theorem SK_row2 {A B C : Prop} {B3 g : Nat} {w3 w : World} {cs : Array Value} (h : A ∧ B ∧ C ∧ Below B3 w3 w) (hg : B3 ≤ g) : Below B3 w3 (w.setRow g cs) := Below_setRow h.2.2.2 hg _
theorem SK_size {A B C : Prop} {B3 : Nat} {w3 w w' : World} (hB : B3 = w3.heap.size) (hb : Below w.heap.size w w') (h : A ∧ B ∧ C ∧ Below B3 w3 w) : B3 ≤ w'.heap.size := by
  have := h.2.2.2.size; have := hb.size; omega
theorem SK_bs {A B C : Prop} {B3 : Nat} {w3 w : World} (hB : B3 = w3.heap.size) {a : Option Addr} {n c : Nat} {l : List UInt8} (hb : Bs w3 a n c l) (h : A ∧ B ∧ C ∧ Below B3 w3 w) : Bs w a n c l := hb.below (by rw [← hB]; exact h.2.2.2)
theorem SK_tabs {A B C : Prop} {B3 : Nat} {w3 w : World} (hB : B3 = w3.heap.size) (ht : Tabs w3) (h : A ∧ B ∧ C ∧ Below B3 w3 w) : Tabs w := ht.below h.2.2.2 (by rw [hB]; exact ht.2.2)
theorem Bs_take {w : World} {a : Option Addr} {n c : Nat} {l : List UInt8} (h : Bs w a n c l) (F : Nat) (hF : F ≤ n) : Bs w a F c (l.take F) := by
  obtain ⟨h1, h2, h3, h4, h5⟩ := h
  refine ⟨by rw [List.length_take]; omega, by omega, h3, h4, fun hp => ?_⟩
  obtain ⟨b, off, ha, hc⟩ := h5 (by omega)
  exact ⟨b, off, ha, fun i hi => by rw [byteAt_take _ _ _ hi]; exact hc i (by omega)⟩
theorem Bel_alloc {w w' : World} {o : Obj} (hb : Below (w.alloc o).drew.heap.size (w.alloc o).drew w') : Below w.heap.size w w' :=
  (((Below.refl _ _).alloc (Nat.le_refl _) o).drew).trans (hb.mono (by show w.heap.size ≤ (w.alloc o).heap.size; rw [size_alloc1]; omega))
theorem keep5 {w w' : World} {g k H j : Nat} {h2 : List (BitVec 32)} {x : Value} (r : Row8 w g 0) (e : row8 w g 0 = h2) (b : Blk33 w k) (c : w.cell? ⟨H, j, none⟩ = some x) (hb : Below w.heap.size w w') :
    Row8 w' g 0 ∧ row8 w' g 0 = h2 ∧ Blk33 w' k ∧ w'.cell? ⟨H, j, none⟩ = some x :=
  ⟨(r.below hb).1, (r.below hb).2.trans e, Blk33_keep hb _ b, cell_later hb c⟩
theorem W2 {W w3 : World} {B3 g n ac : Nat} {aa : Option Addr} {l : List UInt8} {new : List (BitVec 32)} (hg : Blk8 W g) (hl : new.length = 8) (hBs : Bs W aa n ac l) (hb : Below B3 w3 W) (hz : B3 ≤ g) :
    ∃ (g' : Nat) (aa' : Option Addr) (ac' : Nat), Value.pointer (some ⟨g, 0, none⟩) = .pointer (some ⟨g', 0, none⟩) ∧ Value.slice aa n ac = .slice aa' n ac' ∧ (W.setRow g (wcells new)).heap[g']? = some (.cells (wcells new) 31 (0, 0)) ∧ B3 ≤ g' ∧ Bs (W.setRow g (wcells new)) aa' n ac' l ∧ Below B3 w3 (W.setRow g (wcells new)) := by
  obtain ⟨old, ho, hgo⟩ := id hg
  exact ⟨g, aa, ac, rfl, rfl, setRow_heap _ _ _ _ _ _ hgo, hz, Bs_setRow hBs hg _, Below_setRow hb hz _⟩
theorem Bs_setRow33 {w : World} {a : Option Addr} {n c : Nat} {l : List UInt8} (h : Bs w a n c l) {g : Nat} (hg : Blk33 w g) (cs : Array Value) : Bs (w.setRow g cs) a n c l := by
  obtain ⟨h1, h2, h3, h4, h5⟩ := h
  refine ⟨h1, h2, h3, h4, fun hn => ?_⟩
  obtain ⟨b, off, ha, hc⟩ := h5 hn
  have hbg : b ≠ g := by
    rintro rfl
    obtain ⟨hs, a', n', c', L, ho, hgo⟩ := hg
    have := hc 0 hn
    rw [cell_of_row w b _ _ _ _ hgo] at this
    have := Array.mem_of_getElem? this
    simp [dcells, wvals] at this
  refine ⟨b, off, ha, fun i hi => ?_⟩
  have : (w.setRow g cs).cell? ⟨b, off + i, none⟩ = w.cell? ⟨b, off + i, none⟩ := World.cell?_of_block (setRow_other w g b cs hbg)
  rw [this]; exact hc i hi
theorem write_fin {l m T TF MR RT RM RR : List UInt8} {hs h1 h2 : List (BitVec 32)} {F : Nat} (eF : F = fillOf l m) (ehs : hs = absH H8 l) (eT : T = absR l) (eTF : TF = T ++ m.take F) (eM : MR = m.drop F)
    (e1 : h1 = absH hs TF) (e2 : h2 = absH h1 MR) (eRT : absR TF = RT) (eRM : absR MR = RM) (eR : RR = RT ++ RM) : absH H8 (l ++ m) = h2 ∧ absR (l ++ m) = RR := by
  subst eF ehs eT eTF eM e1 e2 eRT eRM eR
  exact ⟨(write_spec l m).1.symm, (write_spec l m).2.symm⟩
theorem write_out {l m RR : List UInt8} {h2 : List (BitVec 32)} {w' : World} {ca : Option Addr} {cc L n : Nat} {x : Int} (h : absH H8 (l ++ m) = h2 ∧ absR (l ++ m) = RR) (hB : Bs w' ca RR.length cc RR) (hL : L = l.length) (hn : m.length = n) (hx : x = (L : Int) + (n : Int)) {g : Nat} (hg : Blk33 w' g) :
    St (w'.setRow g (dcells h2 ca RR.length cc x)) (.agg (dcells h2 ca RR.length cc x)) (l ++ m) := by
  obtain ⟨rfl, rfl⟩ := h
  refine ⟨ca, cc, ?_, Bs_setRow33 hB hg _⟩
  rw [List.length_append, hn, ← hL, hx, Int.natCast_add]
set_option maxRecDepth 100000 in
set_option maxHeartbeats 2000000 in
theorem write_any (v : Value) (l : List UInt8) (a : Option Addr) (n c : Nat) (m : List UInt8) (w : World) (hT : Tabs w) (hS : St w v l) (hB : Bs w a n c m) (hn : l.length + m.length ≤ 70368744177664) :
    Calls Tryd.prog 17 #[v, .slice a n c] w fun e w' => ∃ v', e = .returned v' ∧ St w' v' (l ++ m) ∧ Below w.heap.size w w' := by
  obtain ⟨ta, tc, rfl, hTB⟩ := hS
  have hlH := absH_len l
  have hTl := absR_len l
  have hmn := hB.1
  have hTn := hTB.1
  obtain ⟨hs, hhs⟩ : ∃ hs, hs = absH H8 l := ⟨_, rfl⟩
  obtain ⟨T, hTT⟩ : ∃ T, T = absR l := ⟨_, rfl⟩
  obtain ⟨tn, htn⟩ : ∃ tn, tn = T.length := ⟨_, rfl⟩
  rw [← hhs] at hlH ⊢
  rw [← hTT] at hTB hTl hTn ⊢
  rw [← htn] at hTB hTl hTn ⊢
  have HT := Lib.hid hT
  have HB := Lib.hid hB
  have HTB := Lib.hid hTB
  have Hhs := Lib.hid hhs
  have HTT := Lib.hid hTT
  have Htn := Lib.hid htn
  have Hmn := Lib.hid hmn
  have HlH := Lib.hid hlH
  have t64 : tn < 64 := by omega
  have hz := hT.2.2
  clear hT hB hTB hhs hTT htn hmn hlH hTl hTn
  go_enter Tryd.func17, Tryd.ntmps17
  go_upto_region 1 with (fail)
  rw [zeros33]
  have h0 : ((w.alloc (.cells (dcells hs ta tn tc l.length) 33)).alloc (.cells (dcells (List.replicate 8 0) none 0 0 0) 33)).heap[w.heap.size]? = some (.cells (dcells hs ta tn tc l.length) 33 (0, 0)) := heap_old (heap_new rfl)
  have h1 : ((w.alloc (.cells (dcells hs ta tn tc l.length) 33)).alloc (.cells (dcells (List.replicate 8 0) none 0 0 0) 33)).heap[w.heap.size + 1]? = some (.cells (dcells (List.replicate 8 0) none 0 0 0) 33 (0, 0)) := heap_new (by simp only [size_alloc1])
  have hbel : Below w.heap.size w ((w.alloc (.cells (dcells hs ta tn tc l.length) 33)).alloc (.cells (dcells (List.replicate 8 0) none 0 0 0) 33)) := ((Below.refl _ _).alloc (Nat.le_refl _) _).alloc (by simp) _
  have hs2 : ((w.alloc (.cells (dcells hs ta tn tc l.length) 33)).alloc (.cells (dcells (List.replicate 8 0) none 0 0 0) 33)).heap.size = w.heap.size + 2 := by simp only [size_alloc1]
  generalize ((w.alloc (.cells (dcells hs ta tn tc l.length) 33)).alloc (.cells (dcells (List.replicate 8 0) none 0 0 0) 33)) = w3 at *
  obtain ⟨r8, e8, c8, c9⟩ := dblock h0 HlH.out
  have H1 := Lib.hid h1
  have HBel := Lib.hid hbel
  have Hs2 := Lib.hid hs2
  clear h0 h1 hbel hs2
  have hn2 : m.length ≤ 70368744177664 := by omega
  have hn3 : l.length ≤ 70368744177664 := by omega
  obtain ⟨L, hL⟩ : ∃ L, L = l.length := ⟨_, rfl⟩
  rw [← hL] at c9 hn3
  have HL := Lib.hid hL
  rw [← hL]
  rw [Hmn.out] at hn2
  clear hn hL
  obtain ⟨hp0, hp1⟩ := padI_bd (tn : Int) 0
  obtain ⟨p, hp⟩ := Int.eq_ofNat_of_zero_le hp0
  obtain ⟨F, hF⟩ : ∃ F, F = min n p := ⟨_, rfl⟩
  have hFill : F = fillOf l m := by rw [fillOf, ← HTT.out, ← Htn.out, hp, Int.toNat_natCast, Hmn.out]; exact hF
  have hFn : F ≤ n := by omega
  have Hp := Lib.hid hp
  have HFill := Lib.hid hFill
  clear hp hFill hp0 hp1
  go_cut [5] (fun x wx => x = .int .i64 (F : Int) ∧ w3 = wx)
  case first =>
    by_cases hnp : n ≤ p
    all_goals
      go_wp2_with (go_at_call 34; refine (padTo_any _ _ _ (by omega) (by omega) (by omega) (by omega)).mono ?_; rw [Hp.out]; rintro e w' ⟨rfl, rfl⟩)
      go_meet
      exact ⟨by simp only [Value.int.injEq, true_and]; omega, rfl⟩
  case rest =>
    obtain ⟨rfl, rfl⟩ := hcut
    have HFF := Lib.hid hF
    clear hF
    have hBn := HB.out.2.1
    have hBc := HB.out.2.2.1
    have hcap : c ≤ 9223372036854775807 := hBc
    go_upto_region 2 with (fail)
    obtain ⟨B3, hB3⟩ : ∃ B3, B3 = w3.heap.size := ⟨_, rfl⟩
    have hst := And.intro r8 (And.intro e8 c8)
    have hbT : Bs w3 ta tn tc T := HTB.out.below HBel.out
    have hbF : Bs w3 a F c (m.take F) := Bs_take (HB.out.below HBel.out) F hFn
    have htb : Tabs w3 := HT.out.below HBel.out hz
    obtain ⟨TF, hTF⟩ : ∃ TF, TF = T ++ m.take F := ⟨_, rfl⟩
    have hlen : TF.length ≤ 140737488355328 := by
      rw [hTF, List.length_append, List.length_take, ← Htn.out]; omega
    have HTF := Lib.hid hTF
    clear hTF
    have HbT := Lib.hid hbT
    have HbF := Lib.hid hbF
    have Hlen := Lib.hid hlen
    have Htb := Lib.hid htb
    have Hst := Lib.hid hst
    have HB3 := Lib.hid hB3
    have hal : (absH hs TF).length = 8 := absTo_len _ _ HlH.out _
    clear hbT hbF htb hlen hst hB3
    have z1 : (0 : Int) ≤ (F : Int) := by omega
    have z2 : (F : Int) ≤ (c : Int) := by omega
    go_cut [6, 7] (fun s6 s7 wx => ∃ (g : Nat) (aa : Option Addr) (ac : Nat), s6 = .pointer (some ⟨g, 0, none⟩) ∧ s7 = .slice aa (absR TF).length ac ∧ wx.heap[g]? = some (.cells (wcells (absH hs TF)) 31 (0, 0)) ∧ B3 ≤ g ∧ Bs wx aa (absR TF).length ac (absR TF) ∧ Below B3 w3 wx)
    case first =>
      go_region_held3 (fun w' => Row8 w' w.heap.size 0 ∧ row8 w' w.heap.size 0 = hs ∧ w'.cell? ⟨w.heap.size, 8, none⟩ = some (.slice ta tn tc) ∧ Below B3 w3 w') (first | exact S_below HB3.out Hst.out (Below.refl _ _).drew | exact S_below HB3.out Hst.out (SK_alloc' HB3.out (by assumption)) | exact S_below HB3.out Hst.out (SK_alloc HB3.out (by assumption)) | exact S_below HB3.out Hst.out (SK_call HB3.out (by assumption) (by assumption)) | exact S_below HB3.out Hst.out (SK_row2 (by assumption) (by first | assumption | (have := HB3.out; simp; omega)))) (first | (go_at_call 35; refine (absorb_any hs ca _ cc TF _ ?_ HlH.out ?_ ?_).mono ?_; exact SK_tabs HB3.out Htb.out (by assumption); (first | exact hcB | exact hcB.alloc _); (have := Hlen.out; omega); rintro e w' ⟨aa, ac, rfl, haB, hb2⟩; have hq2 := Blk8_keep hb2; have hz2 := SK_size HB3.out hb2 (by assumption); have hbl2 := SK_call HB3.out hb2 (by assumption); (first | have u2 := hq2 _ (Blk8_new _ _ rfl) | have u2 := hq2 _ u0 | skip)) | (go_at_call 36; refine (concat2_any ta tn tc T a F c (m.take F) _ 22 _ ?_ ?_ ?_ TF HTF.out Hlen.out).mono ?_; (first | exact heap_new rfl | exact heap_old (heap_new rfl) | exact heap_new (by simp only [size_alloc1])); exact SK_bs HB3.out HbT.out (by assumption); exact SK_bs HB3.out HbF.out (by assumption); rintro e w' ⟨ca, cc, rfl, hcB, hb1⟩; have hq1 := Blk8_keep hb1; have hz1 := SK_size HB3.out hb1 (by assumption); (first | have u0 := hq1 (w3.heap.size + 1) (Blk8_new _ _ (by simp)) | have u0 := hq1 w3.heap.size (Blk8_alloc _ _ _ (Blk8_new _ _ rfl)) | skip)))
      all_goals
        go_wp2_with fail
        go_meet
        first | exact W2 (Blk8_new _ _ rfl) hal (haB.alloc _) (hbl2.alloc hz2 _) hz2 | exact W2 u2 hal haB hbl2 (by first | exact hz1 | (have := HB3.out; omega))
    case rest =>
      obtain ⟨g, aa, ac, rfl, rfl, hg, hgB, haa, hbx⟩ := hcut
      go_upto_region 3 with (fail)
      obtain ⟨w4, hw4⟩ : ∃ w4, w4 = wc := ⟨_, rfl⟩
      rw [← hw4] at hg haa hbx ⊢
      clear hw4
      have blk : Blk8 w4 g := ⟨_, hal, hg⟩
      have r4 : Row8 w4 g 0 := Blk8_row blk
      have e4 : row8 w4 g 0 = absH hs TF := row8_of hal (fun j v hv => by rw [Nat.zero_add, cell_of_row w4 g j _ _ _ hg, ← wvals_arr, List.getElem?_toArray]; exact hv)
      obtain ⟨a', c', hsl, hbD⟩ := run_sliceF (HB.out.below HBel.out) F hFn
      obtain ⟨MR, hMR⟩ : ∃ MR, MR = m.drop F := ⟨_, rfl⟩
      rw [← hMR] at hbD
      obtain ⟨h1, hh1⟩ : ∃ h1, h1 = absH hs TF := ⟨_, rfl⟩
      rw [← hh1] at hal e4
      have hbD4 := hbD.below (w' := w4) (by rw [← HB3.out]; exact hbx)
      have ht4 : Tabs w4 := Htb.out.below hbx (by rw [HB3.out]; exact Htb.out.2.2)
      have hal2 : (absH h1 MR).length = 8 := absTo_len _ _ hal _
      have HMR := Lib.hid hMR
      have Hh1 := Lib.hid hh1
      have HbD4 := Lib.hid hbD4
      have Ht4 := Lib.hid ht4
      have Haa := Lib.hid haa
      have Hbx := Lib.hid hbx
      have HgB := Lib.hid hgB
      have Hal := Lib.hid hal
      have Hz1 := Lib.hid z1
      clear hg haa hbx hbD hbD4 ht4 hMR hh1 r8 e8 c8 hgB hal
      go_cut [8] (fun s8 wx => ∃ (ab : Option Addr) (bc : Nat), s8 = .slice ab (absR MR).length bc ∧ wx.heap[g]? = some (.cells (wcells (absH h1 MR)) 31 (0, 0)) ∧ Bs wx aa (absR TF).length ac (absR TF) ∧ Bs wx ab (absR MR).length bc (absR MR) ∧ Below B3 w3 wx)
      case first =>
        go_region_with (first | (go_at_call 35; refine (absorb_any h1 _ (n - F) _ MR _ ?_ Hal.out ?_ ?_).mono ?_; exact Tabs_drew Ht4.out; exact Bs_drew HbD4.out; omega; rintro e w' ⟨ab, bc, rfl, habB, hb3⟩; have u3 := Blk8_keep hb3 g ((Blk8_drew _ _).2 blk)))
        all_goals
          go_wp2_with fail
          go_meet
          obtain ⟨old, ho, hgo⟩ := id u3
          exact ⟨ab, bc, rfl, setRow_heap _ _ _ _ _ _ hgo, Bs_setRow ((Bs_drew Haa.out).below hb3) u3 _, Bs_setRow habB u3 _, Below_setRow (Hbx.out.drew.trans (hb3.mono (by have := Hbx.out.size; have := HB3.out; simp; omega))) HgB.out _⟩
      case rest =>
        obtain ⟨ab, bc, rfl, hg, haa, hab, hbx⟩ := hcut
        go_upto_region 4 with (fail)
        obtain ⟨w5, hw5⟩ : ∃ w5, w5 = wc := ⟨_, rfl⟩
        rw [← hw5] at hg haa hab hbx ⊢
        clear hw5 blk r4 e4 hsl hcap
        obtain ⟨h2, hh2⟩ : ∃ h2, h2 = absH h1 MR := ⟨_, rfl⟩
        rw [← hh2] at hg hal2
        have blk : Blk8 w5 g := ⟨_, hal2, hg⟩
        have r5 : Row8 w5 g 0 := Blk8_row blk
        have e5 : row8 w5 g 0 = h2 := row8_of hal2 (fun j v hv => by rw [Nat.zero_add, cell_of_row w5 g j _ _ _ hg, ← wvals_arr, List.getElem?_toArray]; exact hv)
        have b33 : Blk33 w5 (w.heap.size + 1) := ⟨_, _, _, _, _, by simp, (hbx.block _ (by have := Hs2.out; have := HB3.out; omega)).trans H1.out⟩
        have c5 : w5.cell? ⟨w.heap.size, 9, none⟩ = some (.int .i64 L) := (hbx.cell (p := ⟨w.heap.size, 9, none⟩) (by simp; have := Hs2.out; have := HB3.out; omega)).trans c9
        have c5a : ∀ o, (w5.alloc o).cell? ⟨w.heap.size, 9, none⟩ = some (.int .i64 L) := fun o => (((Below.refl _ _).alloc (Nat.le_refl _) o).cell (p := ⟨w.heap.size, 9, none⟩) (block_lt_of_cell c5)).trans c5
        have c5b : ∀ o, (w5.alloc o).drew.cell? ⟨w.heap.size, 9, none⟩ = some (.int .i64 L) := c5a
        have hne : w5.heap.size ≠ w.heap.size := World.new_ne w5 _ c5
        have hne' : w.heap.size ≠ w5.heap.size := hne.symm
        obtain ⟨RR, hRR⟩ : ∃ RR, RR = absR TF ++ absR MR := ⟨_, rfl⟩
        have hRl : RR.length ≤ 140737488355328 := by
          rw [hRR, List.length_append, absR_len, absR_len]; omega
        have HRR := Lib.hid hRR
        have HRl := Lib.hid hRl
        have Hh2 := Lib.hid hh2
        have Haa := Lib.hid haa
        have Hab := Lib.hid hab
        have Hbx2 := Lib.hid hbx
        clear hg haa hab hbx hh2 hRR hRl c9 blk
        generalize eRT : absR TF = RT at *
        generalize eRM : absR MR = RM at *
        have HRT := Lib.hid eRT
        have HRM := Lib.hid eRM
        clear eRT eRM
        obtain ⟨nT, hnT⟩ : ∃ nT, nT = RT.length := ⟨_, rfl⟩
        obtain ⟨nM, hnM⟩ : ∃ nM, nM = RM.length := ⟨_, rfl⟩
        rw [← hnT] at Haa ⊢
        rw [← hnM] at Hab ⊢
        clear hnT hnM
        go_region_with (first | (go_at_call 36; refine (concat2_any aa nT ac RT ab nM bc RM _ 22 _ ?_ ?_ ?_ RR HRR.out HRl.out).mono ?_; exact heap_new rfl; exact Bs_drew (Haa.out.alloc _); exact Bs_drew (Hab.out.alloc _); rintro e w' ⟨ca, cc, rfl, hcB, hb4⟩; have hb5 := Bel_alloc hb4; obtain ⟨r6, e6, b6, c6⟩ := keep5 r5 e5 b33 c5 hb5))
        all_goals
          go_wp2_with fail
          obtain ⟨hs', a', n', c', L', hl', hg'⟩ := id b6
          have hw : IntKind.i64.wrap ((L : Int) + (n : Int)) = (L : Int) + (n : Int) := by have := HL.out; exact i64_id _ (by omega) (by omega)
          refine bodyPost_ret (v := .agg (dcells h2 ca RR.length cc (IntKind.i64.wrap ((L : Int) + (n : Int))))) ?_ rfl ⟨_, rfl, write_out (write_fin HFill.out Hhs.out HTT.out HTF.out HMR.out Hh1.out Hh2.out HRT.out HRM.out HRR.out) hcB HL.out Hmn.out hw b6, Below_setRow (HBel.out.trans ((Hbx2.out.mono (by have := Hs2.out; have := HB3.out; omega)).trans (hb5.mono (by have := Hbx2.out.size; have := Hs2.out; have := HB3.out; omega)))) (by omega) _⟩
          exact results_cell_row rfl _ _ (w.heap.size + 1) 33 _ (0, 0) _ rfl (setRow_heap _ _ _ _ _ _ hg') Tryd.underlying33 rfl (by rw [dcells_size _ _ _ _ _ hal2]; exact size33)
end Go.Proofs.YtdfpjhpkkhdpoaaDoor

/-
  Zones in memory: shifts, segments, a zone; loads and stores of them (written by gen_Z1.py).
-/
import Derived.Test.YtcdjilnlmihnhaaDoorZ0
import Derived.RangeFuncNested
import Derived.RangeFuncBound
import Derived.RangeFuncCalls
import Derived.RangeFuncLeaves
import Derived.RangeFuncBox
import Derived.Shelf.Abstract
import Derived.Shelf.RegionOpen
import Derived.WalkKit
import Derived.OwnWalkIn
import Derived.TacticsInMore
import Derived.LoopNIn
import Derived.LoopIn
import Derived.Deep.QuietTactic
import Derived.BigQuiet
import Derived.Deep.CutBlock
import Derived.OwnWalk
import Derived.Deep.DrawnRows
import Derived.Deep.CutRange
import Derived.Deep.LoopGhost
import Derived.Laws.Tables
import Derived.Laws.ResultCell
import Derived.Deep.WholeRow
namespace Go.Proofs.YtcdjilnlmihnhaaDoor
open Go.RowKit
set_option linter.unusedSimpArgs false
set_option linter.unusedVariables false
theorem exec_at_zeroZ {ρ : Operand → Value} {o : Oper} {l : List Oper} {h : 0 < (o :: l).toArray.size} : execOp ρ ((o :: l).toArray[0]'h) = execOp ρ o := rfl
theorem exec_at_succZ {ρ : Operand → Value} {o : Oper} {l : List Oper} {n : Nat} {h : n + 1 < (o :: l).toArray.size} : execOp ρ ((o :: l).toArray[n + 1]'h) = execOp ρ (l.toArray[n]'(by simpa using h)) := rfl
def SM.cells (s : SM) : List Value := [.int .i64 s.t, .int .i64 s.o]
def scells (l : List SM) : List Value := l.flatMap SM.cells
theorem scells_len (ps : List SM) : (scells ps).length = ps.length * 2 := by
  unfold scells
  induction ps with
  | nil => rfl
  | cons m r ih => rw [List.flatMap_cons, List.length_append, ih, List.length_cons]; show 2 + _ = _; omega
theorem scells_get (ps : List SM) (i j : Nat) (hi : i < ps.length) (hj : j < 2) : (scells ps)[i * 2 + j]? = ps[i].cells[j]? := by
  unfold scells
  induction ps generalizing i with
  | nil => simp at hi
  | cons m r ih =>
    rw [List.flatMap_cons]
    have hl : m.cells.length = 2 := rfl
    cases i with
    | zero =>
      rw [List.getElem?_append_left (by omega), Nat.zero_mul, Nat.zero_add]
      rfl
    | succ i =>
      rw [List.getElem?_append_right (by omega), show (i + 1) * 2 + j - m.cells.length = i * 2 + j by omega, ih i (by simpa using hi)]
      rfl
theorem scells_app (l m : List SM) : scells (l ++ m) = scells l ++ scells m := by unfold scells; rw [List.flatMap_append]
/-- a slice of shifts -/
def Ss (D : Nat → Prop) (w : World) (a : Option Addr) (n c : Nat) (l : List SM) : Prop := l.length = n ∧ Sl D w a n c (scells l) 2
theorem Ss.kept {D S : Nat → Prop} {w w' : World} {a : Option Addr} {n c : Nat} {l : List SM} (h : Ss D w a n c l) (hk : Kept S w w') (hd : ∀ b, b < w.heap.size → D b → ¬ S b) : Ss D w' a n c l := ⟨h.1, h.2.kept (by decide) hk hd⟩
theorem Ss.below {D : Nat → Prop} {w w' : World} {a : Option Addr} {n c : Nat} {l : List SM} (h : Ss D w a n c l) (hb : Below w.heap.size w w') : Ss D w' a n c l := h.kept (Kept.of_below (fun _ => False) hb) (fun _ _ _ h => h)
theorem Ss.dom {D D' : Nat → Prop} {w : World} {a : Option Addr} {n c : Nat} {l : List SM} (h : Ss D w a n c l) (hd : ∀ b, D b → D' b) : Ss D' w a n c l := ⟨h.1, h.2.dom hd⟩
theorem Ss.in {D : Nat → Prop} {w : World} {a : Option Addr} {n c : Nat} {l : List SM} (h : Ss D w a n c l) : Ss (fun b => D b ∧ b < w.heap.size) w a n c l := by
  obtain ⟨h1, h2, h3, h4, h5, h6⟩ := h
  refine ⟨h1, h2, h3, h4, h5, fun hp => ?_⟩
  obtain ⟨b, off, hD, ha, hr⟩ := h6 hp
  exact ⟨b, off, ⟨hD, range_lt hr (by rw [h2]; omega)⟩, ha, hr⟩
theorem Ss.nil (D : Nat → Prop) (w : World) : Ss D w none 0 0 [] := ⟨rfl, Sl.empty _ _ _ _ _ (by decide) (fun _ => rfl)⟩
theorem Ss.at {D : Nat → Prop} {w : World} {a : Option Addr} {n c : Nat} {l : List SM} (h : Ss D w a n c l) (hp : 0 < n) : ∃ b off, D b ∧ b < w.heap.size ∧ a = some ⟨b, off, none⟩ ∧ ∀ (i : Nat) (hi : i < l.length), w.rangeAt b (off + i * 2) l[i].cells := by
  obtain ⟨h1, h2, h3, h4, h5, h6⟩ := h
  obtain ⟨b, off, hD, ha, hr⟩ := h6 hp
  refine ⟨b, off, hD, range_lt hr (by omega), ha, fun i hi j v hv => ?_⟩
  have hj : j < 2 := (List.getElem?_eq_some_iff.1 hv).1
  rw [Nat.add_assoc]
  exact hr (i * 2 + j) v (by rw [scells_get l i j hi hj]; exact hv)
theorem Ss.cells {D : Nat → Prop} {w : World} {a : Option Addr} {n c : Nat} {l : List SM} (h : Ss D w a n c l) (hp : 0 < n) : ∃ b off, D b ∧ b < w.heap.size ∧ a = some ⟨b, off, none⟩ ∧ ∀ (i : Nat) (hi : i < l.length), w.cell? ⟨b, off + i * 2, none⟩ = some (.int .i64 l[i].t) ∧ w.cell? ⟨b, off + i * 2 + 1, none⟩ = some (.int .i64 l[i].o) := by
  obtain ⟨b, off, h1, h2, h3, h4⟩ := h.at hp
  exact ⟨b, off, h1, h2, h3, fun i hi => ⟨h4 i hi 0 _ rfl, h4 i hi 1 _ rfl⟩⟩
theorem Ss.row {w : World} {base : Nat} {v : Value} {l : List SM} (h : w.ownsRow base 38 2 v l.length (scells l)) : ∃ a n c, v = .slice a n c ∧ Ss (fun b => base ≤ b) w a n c l := by
  obtain ⟨h1, h2⟩ := h
  rcases h2 with ⟨rfl, h0⟩ | ⟨g, cap, cur, rfl, hb, hg, h3, h4, h5, h6⟩
  · exact ⟨none, 0, 0, rfl, h0, by rw [h0] at h1; exact h1, Nat.le_refl _, by decide, fun _ => rfl, fun h => absurd h (by omega)⟩
  · refine ⟨_, _, _, rfl, rfl, h1, h3, h4, (fun h => by cases h), fun _ => ⟨g, 0, hb, rfl, fun j v hj => ?_⟩⟩
    have : cur[0 + j]? = some v := by
      rw [← h6] at hj
      rw [Nat.zero_add, ← Array.getElem?_toList]
      rw [List.getElem?_take] at hj
      split at hj
      · exact hj
      · cases hj
    exact (cell_of_row w g (0 + j) cur _ _ hg).trans this
theorem Is.row {w : World} {base : Nat} {v : Value} {l : List Int} (h : w.ownsRow base 3 1 v l.length (ivals l)) : ∃ a n c, v = .slice a n c ∧ Is (fun b => base ≤ b) w a n c l := by
  obtain ⟨h1, h2⟩ := h
  rcases h2 with ⟨rfl, h0⟩ | ⟨g, cap, cur, rfl, hb, hg, h3, h4, h5, h6⟩
  · exact ⟨none, 0, 0, rfl, h0, by rw [h0] at h1; exact h1, Nat.le_refl _, by decide, fun _ => rfl, fun h => absurd h (by omega)⟩
  · refine ⟨_, _, _, rfl, rfl, h1, h3, h4, (fun h => by cases h), fun _ => ⟨g, 0, hb, rfl, fun j v hj => ?_⟩⟩
    have : cur[0 + j]? = some v := by
      rw [← h6] at hj
      rw [Nat.zero_add, ← Array.getElem?_toList]
      rw [List.getElem?_take] at hj
      split at hj
      · exact hj
      · cases hj
    exact (cell_of_row w g (0 + j) cur _ _ hg).trans this
def zV (o : Int) (a : Option Addr) (n c : Nat) : Value := .agg #[.int .i64 o, .slice a n c]
def segV (x : SgM) : Value := .agg #[.int .i64 x.f, .int .i64 x.u, .int .i64 x.o]
def segC (x : SgM) : Array Value := #[.int .i64 x.f, .int .i64 x.u, .int .i64 x.o]
theorem infoShiftS : (Tryd.prog.info? 38).map (·.size) = some 2 := by kernel_rfl
def loadShiftA (v : Value) : Sem Next := do pure (.value (← Instr.loadAt 38 v))
theorem exec_loadShift (ρ : Operand → Value) (d : Option Tmp) (x : Operand) (ty : TypeId) (pos : String) (af : Array Edge) (gd : Option (Nat × Bool)) :
    execOp ρ { dst := d, op := .load 38 x, type := ty, pos := pos, after := af, guard := gd } = loadShiftA (ρ x) := rfl
theorem run_loadShiftAt {w : World} {b off : Nat} {x0 x1 : Int} (h : w.rangeAt b off [.int .i64 x0, .int .i64 x1]) : (loadShiftA (.pointer (some ⟨b, off, none⟩))).run Tryd.prog w = .ok (.value (.agg #[.int .i64 x0, .int .i64 x1])) w := by
  unfold loadShiftA
  simp only [Sem.run_bind, Sem.run_pure, Result.andThen_ok, run_loadAt_mid w b off 38 [.int .i64 x0, .int .i64 x1] _ h Tryd.underlying38 rfl (by show _ = some 2; kernel_rfl)]
theorem range_Shift {w : World} {g : Nat} {x0 x1 : Int} {t : TypeId} (h : w.heap[g]? = some (.cells #[.int .i64 x0, .int .i64 x1] t (0, 0))) : w.rangeAt g 0 [.int .i64 x0, .int .i64 x1] := fun j u hu => by
  rw [Nat.zero_add, cell_of_row w g j _ _ _ h]
  simpa using hu
theorem run_loadShift {w : World} {g : Nat} {x0 x1 : Int} {t : TypeId} (h : w.heap[g]? = some (.cells #[.int .i64 x0, .int .i64 x1] t (0, 0))) : (loadShiftA (.pointer (some ⟨g, 0, none⟩))).run Tryd.prog w = .ok (.value (.agg #[.int .i64 x0, .int .i64 x1])) w := run_loadShiftAt (range_Shift h)
/-- a block that holds such a thing -/
def ShiftB (w : World) (g : Nat) : Prop := ∃ y0 y1 : Value, w.heap[g]? = some (.cells #[y0, y1] 38 (0, 0))
def storeShiftA (v x : Value) : Sem Next := do Instr.storeAt 38 v x; pure .skip
theorem exec_storeShift (ρ : Operand → Value) (d : Option Tmp) (x y : Operand) (ty : TypeId) (pos : String) (af : Array Edge) (gd : Option (Nat × Bool)) :
    execOp ρ { dst := d, op := .store 38 x y, type := ty, pos := pos, after := af, guard := gd } = storeShiftA (ρ x) (ρ y) := rfl
theorem run_storeShift (w : World) (g : Nat) (x0 x1 : Int) (h : ShiftB w g) : (storeShiftA (.pointer (some ⟨g, 0, none⟩)) (.agg #[.int .i64 x0, .int .i64 x1])).run Tryd.prog w = .ok .skip (w.setRow g #[.int .i64 x0, .int .i64 x1]) := by
  obtain ⟨y0, y1, hg⟩ := h
  unfold storeShiftA
  simp only [Instr.storeAt, Instr.sureAddr, Sem.run_bind, Sem.run_pure, Result.andThen_ok, run_storeVar_row w g 38 38 _ #[.int .i64 x0, .int .i64 x1] hg infoShiftS rfl (by simp [Value.oneCell'])]
theorem infoSegS : (Tryd.prog.info? 58).map (·.size) = some 3 := by kernel_rfl
def loadSegA (v : Value) : Sem Next := do pure (.value (← Instr.loadAt 58 v))
theorem exec_loadSeg (ρ : Operand → Value) (d : Option Tmp) (x : Operand) (ty : TypeId) (pos : String) (af : Array Edge) (gd : Option (Nat × Bool)) :
    execOp ρ { dst := d, op := .load 58 x, type := ty, pos := pos, after := af, guard := gd } = loadSegA (ρ x) := rfl
theorem run_loadSegAt {w : World} {b off : Nat} {x0 x1 x2 : Int} (h : w.rangeAt b off [.int .i64 x0, .int .i64 x1, .int .i64 x2]) : (loadSegA (.pointer (some ⟨b, off, none⟩))).run Tryd.prog w = .ok (.value (.agg #[.int .i64 x0, .int .i64 x1, .int .i64 x2])) w := by
  unfold loadSegA
  simp only [Sem.run_bind, Sem.run_pure, Result.andThen_ok, run_loadAt_mid w b off 58 [.int .i64 x0, .int .i64 x1, .int .i64 x2] _ h Tryd.underlying58 rfl (by show _ = some 3; kernel_rfl)]
theorem range_Seg {w : World} {g : Nat} {x0 x1 x2 : Int} {t : TypeId} (h : w.heap[g]? = some (.cells #[.int .i64 x0, .int .i64 x1, .int .i64 x2] t (0, 0))) : w.rangeAt g 0 [.int .i64 x0, .int .i64 x1, .int .i64 x2] := fun j u hu => by
  rw [Nat.zero_add, cell_of_row w g j _ _ _ h]
  simpa using hu
theorem run_loadSeg {w : World} {g : Nat} {x0 x1 x2 : Int} {t : TypeId} (h : w.heap[g]? = some (.cells #[.int .i64 x0, .int .i64 x1, .int .i64 x2] t (0, 0))) : (loadSegA (.pointer (some ⟨g, 0, none⟩))).run Tryd.prog w = .ok (.value (.agg #[.int .i64 x0, .int .i64 x1, .int .i64 x2])) w := run_loadSegAt (range_Seg h)
/-- a block that holds such a thing -/
def SegB (w : World) (g : Nat) : Prop := ∃ y0 y1 y2 : Value, w.heap[g]? = some (.cells #[y0, y1, y2] 58 (0, 0))
def storeSegA (v x : Value) : Sem Next := do Instr.storeAt 58 v x; pure .skip
theorem exec_storeSeg (ρ : Operand → Value) (d : Option Tmp) (x y : Operand) (ty : TypeId) (pos : String) (af : Array Edge) (gd : Option (Nat × Bool)) :
    execOp ρ { dst := d, op := .store 58 x y, type := ty, pos := pos, after := af, guard := gd } = storeSegA (ρ x) (ρ y) := rfl
theorem run_storeSeg (w : World) (g : Nat) (x0 x1 x2 : Int) (h : SegB w g) : (storeSegA (.pointer (some ⟨g, 0, none⟩)) (.agg #[.int .i64 x0, .int .i64 x1, .int .i64 x2])).run Tryd.prog w = .ok .skip (w.setRow g #[.int .i64 x0, .int .i64 x1, .int .i64 x2]) := by
  obtain ⟨y0, y1, y2, hg⟩ := h
  unfold storeSegA
  simp only [Instr.storeAt, Instr.sureAddr, Sem.run_bind, Sem.run_pure, Result.andThen_ok, run_storeVar_row w g 58 58 _ #[.int .i64 x0, .int .i64 x1, .int .i64 x2] hg infoSegS rfl (by simp [Value.oneCell'])]
theorem infoZoneS : (Tryd.prog.info? 25).map (·.size) = some 2 := by kernel_rfl
def loadZoneA (v : Value) : Sem Next := do pure (.value (← Instr.loadAt 25 v))
theorem exec_loadZone (ρ : Operand → Value) (d : Option Tmp) (x : Operand) (ty : TypeId) (pos : String) (af : Array Edge) (gd : Option (Nat × Bool)) :
    execOp ρ { dst := d, op := .load 25 x, type := ty, pos := pos, after := af, guard := gd } = loadZoneA (ρ x) := rfl
theorem run_loadZoneAt {w : World} {b off : Nat} {x0 : Int} {a : Option Addr} {n c : Nat} (h : w.rangeAt b off [.int .i64 x0, .slice a n c]) : (loadZoneA (.pointer (some ⟨b, off, none⟩))).run Tryd.prog w = .ok (.value (.agg #[.int .i64 x0, .slice a n c])) w := by
  unfold loadZoneA
  simp only [Sem.run_bind, Sem.run_pure, Result.andThen_ok, run_loadAt_mid w b off 25 [.int .i64 x0, .slice a n c] _ h Tryd.underlying25 rfl (by show _ = some 2; kernel_rfl)]
theorem range_Zone {w : World} {g : Nat} {x0 : Int} {a : Option Addr} {n c : Nat} {t : TypeId} (h : w.heap[g]? = some (.cells #[.int .i64 x0, .slice a n c] t (0, 0))) : w.rangeAt g 0 [.int .i64 x0, .slice a n c] := fun j u hu => by
  rw [Nat.zero_add, cell_of_row w g j _ _ _ h]
  simpa using hu
theorem run_loadZone {w : World} {g : Nat} {x0 : Int} {a : Option Addr} {n c : Nat} {t : TypeId} (h : w.heap[g]? = some (.cells #[.int .i64 x0, .slice a n c] t (0, 0))) : (loadZoneA (.pointer (some ⟨g, 0, none⟩))).run Tryd.prog w = .ok (.value (.agg #[.int .i64 x0, .slice a n c])) w := run_loadZoneAt (range_Zone h)
/-- a block that holds such a thing -/
def ZoneB (w : World) (g : Nat) : Prop := ∃ y0 y1 : Value, w.heap[g]? = some (.cells #[y0, y1] 25 (0, 0))
def storeZoneA (v x : Value) : Sem Next := do Instr.storeAt 25 v x; pure .skip
theorem exec_storeZone (ρ : Operand → Value) (d : Option Tmp) (x y : Operand) (ty : TypeId) (pos : String) (af : Array Edge) (gd : Option (Nat × Bool)) :
    execOp ρ { dst := d, op := .store 25 x y, type := ty, pos := pos, after := af, guard := gd } = storeZoneA (ρ x) (ρ y) := rfl
theorem run_storeZone (w : World) (g : Nat) (x0 : Int) (a : Option Addr) (n c : Nat) (h : ZoneB w g) : (storeZoneA (.pointer (some ⟨g, 0, none⟩)) (.agg #[.int .i64 x0, .slice a n c])).run Tryd.prog w = .ok .skip (w.setRow g #[.int .i64 x0, .slice a n c]) := by
  obtain ⟨y0, y1, hg⟩ := h
  unfold storeZoneA
  simp only [Instr.storeAt, Instr.sureAddr, Sem.run_bind, Sem.run_pure, Result.andThen_ok, run_storeVar_row w g 25 25 _ #[.int .i64 x0, .slice a n c] hg infoZoneS rfl (by simp [Value.oneCell'])]
/-- what a round that goes on keeps: what lay below n₀, and shifts and segments in blocks of their own -/
def KZ (n₀ : Nat) (W W' : World) : Prop := Below n₀ W W' ∧ ∀ (b : Nat) (cs : Array Value) (t : TypeId), (t = 38 ∨ t = 58 ∨ t = 25) → W.heap[b]? = some (.cells cs t (0, 0)) → W'.heap[b]? = some (.cells cs t (0, 0))
theorem KZ.refl (n₀ : Nat) (W : World) : KZ n₀ W W := ⟨Below.refl _ _, fun _ _ _ _ h => h⟩
theorem KZ.trans {n₀ : Nat} {A B C : World} (h : KZ n₀ A B) (k : KZ n₀ B C) : KZ n₀ A C := ⟨h.1.trans k.1, fun b cs t ht hh => k.2 b cs t ht (h.2 b cs t ht hh)⟩
theorem KZ.of {n₀ : Nat} {A B : World} (h : Below A.heap.size A B) (hn : n₀ ≤ A.heap.size) : KZ n₀ A B := ⟨h.mono hn, fun b cs t _ hh => (h.block b (Array.getElem?_eq_some_iff.1 hh).1).trans hh⟩
theorem KZ.putObj {n₀ : Nat} {B : Nat} (hB : n₀ ≤ B) (W : World) (l : Nat) (o o' : Obj) (hl : B ≤ l) (h : W.heap[l]? = some o) (hc : o.isCells = false) : KZ n₀ W (W.putObj l o') := by
  refine ⟨(Below.refl n₀ W).grown (grownBy_putObj' W l o') (by have := (Array.getElem?_eq_some_iff.1 h).1; omega) (fun k e => by cases e; omega), fun b cs t _ hh => ?_⟩
  by_cases e : b = l
  · subst e
    rw [h] at hh
    cases hh
    cases hc
  · exact (World.putObj_heap_other e).trans hh
/-- a variable of another type is written -/
theorem KZ.setBox {n₀ : Nat} {W : World} {B : Nat} {t : TypeId} {v : Value} (h : Boxed W B t v) (ht : t ≠ 38 ∧ t ≠ 58 ∧ t ≠ 25) (hB : n₀ ≤ B) (u : Value) : KZ n₀ W (W.setCell ⟨B, 0, none⟩ u) := by
  refine ⟨(Below.refl n₀ W).setCell (p := ⟨B, 0, none⟩) hB _, fun b cs t' ht' hh => ?_⟩
  have hne : b ≠ B := by
    rintro rfl
    have := hh.symm.trans h
    simp at this
    rcases ht' with e | e | e
    · exact ht.1 (this.2 ▸ e)
    · exact ht.2.1 (this.2 ▸ e)
    · exact ht.2.2 (this.2 ▸ e)
  exact (Below.heap_setCell _ _ _ b hne).trans hh
end Go.Proofs.YtcdjilnlmihnhaaDoor

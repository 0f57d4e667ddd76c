/-
  Rules of drawn regions: stores and loads of whole rows.
-/
import Derived.Test.YtcdjilnlmihnhaaDoorR0
import Derived.Deep.MidRow
namespace Go.Proofs.YtcdjilnlmihnhaaDoor.Roll
variable {P : Program}
theorem goes_store_row {o : Oper} {a1 : Act} {w : World} {T : Value → World → Prop} (hgd : o.guard = none) (ty : TypeId) (x y : Operand) (ho : o.op = .store ty x y) (g : Nat) (cells : Array Value) (hx : a1.eval x = .pointer (some ⟨g, 0, none⟩)) (hy : a1.eval y = .agg cells)
    (t : TypeId) (old : Array Value) (hg : w.heap[g]? = some (.cells old t (0, 0))) (hi : (P.info? ty).map (·.size) = some cells.size) (hold : old.size = cells.size) (h1 : cells.all (·.oneCell') = true)
    (hT : T undef (w.setRow g cells)) : wpList P #[] (Post a1 o.dst T) [o] a1 w := by
  refine goes_skip hgd ?_ hT
  unfold execOp
  simp only [ho, hx, hy, Instr.storeAt, Instr.sureAddr, Sem.run_bind, Sem.run_pure, Result.andThen_ok, run_storeVar_row w g t ty old cells hg hi hold h1]
theorem goes_load_row {o : Oper} {a1 : Act} {w : World} {T : Value → World → Prop} (hgd : o.guard = none) (ty : TypeId) (x : Operand) (ho : o.op = .load ty x) (g : Nat) (hx : a1.eval x = .pointer (some ⟨g, 0, none⟩)) (t : TypeId) (cs : Array Value) (fr : Nat × Nat) (d : TypeDesc) (hg : w.heap[g]? = some (.cells cs t fr))
    (hu : P.underlying ty = some d) (hd : (match d with | .struct _ | .array _ _ => true | _ => false) = true) (hi : (P.info? ty).map (·.size) = some cs.size)
    (hT : T (.agg cs) w) : wpList P #[] (Post a1 o.dst T) [o] a1 w := by
  refine goes_val (.agg cs) hgd ?_ hT
  unfold execOp
  simp only [ho, hx, Instr.loadAt, Instr.sureAddr, Sem.run_bind, Sem.run_pure, Result.andThen_ok, run_loadVar_row w g t ty cs fr d hg hu hd hi]
theorem goes_load_mid {o : Oper} {a1 : Act} {w : World} {T : Value → World → Prop} (hgd : o.guard = none) (ty : TypeId) (x : Operand) (ho : o.op = .load ty x) (b off : Nat) (hx : a1.eval x = .pointer (some ⟨b, off, none⟩)) (cs : List Value) (d : TypeDesc) (hc : w.rangeAt b off cs)
    (hu : P.underlying ty = some d) (hd : d.isRow = true) (hi : (P.info? ty).map (·.size) = some cs.length)
    (hT : T (.agg cs.toArray) w) : wpList P #[] (Post a1 o.dst T) [o] a1 w := by
  refine goes_val (.agg cs.toArray) hgd ?_ hT
  unfold execOp
  simp only [ho, hx, Instr.loadAt, Instr.sureAddr, Sem.run_bind, Sem.run_pure, Result.andThen_ok, run_loadVar_mid w b off ty cs d hc hu hd hi]
theorem goes_store_mid {o : Oper} {a1 : Act} {w : World} {T : Value → World → Prop} (hgd : o.guard = none) (ty : TypeId) (x y : Operand) (ho : o.op = .store ty x y) (b off : Nat) (cells : Array Value) (hx : a1.eval x = .pointer (some ⟨b, off, none⟩)) (hy : a1.eval y = .agg cells)
    (ht : w.there b off cells.size) (hi : (P.info? ty).map (·.size) = some cells.size) (h1 : cells.all (·.oneCell') = true)
    (hT : T undef (w.setCells b off cells.toList)) : wpList P #[] (Post a1 o.dst T) [o] a1 w := by
  refine goes_skip hgd ?_ hT
  unfold execOp
  simp only [ho, hx, hy, Instr.storeAt, Instr.sureAddr, Sem.run_bind, Sem.run_pure, Result.andThen_ok, run_storeVar_mid w b off ty cells ht hi h1]
theorem goes_slice_from {o : Oper} {a1 : Act} {w : World} {T : Value → World → Prop} (hgd : o.guard = none) (t : TypeId) (x lo : Operand) (ho : o.op = .slice t x (some lo) none none) (X L v : Value) (hx : a1.eval x = X) (hl : a1.eval lo = L)
    (hr : (Instr.sliceAt t X (some L) none none).run P w = .ok v w) (hT : T v w) : wpList P #[] (Post a1 o.dst T) [o] a1 w := by
  refine goes_val v hgd ?_ hT
  unfold execOp
  simp only [ho, hx, hl, Option.map_some, Option.map_none, Sem.run_bind, Sem.run_pure, hr, Result.andThen_ok]
theorem goes_slice_to {o : Oper} {a1 : Act} {w : World} {T : Value → World → Prop} (hgd : o.guard = none) (t : TypeId) (x hi : Operand) (ho : o.op = .slice t x none (some hi) none) (X L v : Value) (hx : a1.eval x = X) (hl : a1.eval hi = L)
    (hr : (Instr.sliceAt t X none (some L) none).run P w = .ok v w) (hT : T v w) : wpList P #[] (Post a1 o.dst T) [o] a1 w := by
  refine goes_val v hgd ?_ hT
  unfold execOp
  simp only [ho, hx, hl, Option.map_some, Option.map_none, Sem.run_bind, Sem.run_pure, hr, Result.andThen_ok]
theorem goes_convert {o : Oper} {a1 : Act} {w : World} {T : Value → World → Prop} (hgd : o.guard = none) (t u : TypeId) (x : Operand) (ho : o.op = .convert t u x) (X v : Value) (hx : a1.eval x = X)
    (hr : (convert t u X).run P w = .ok v w) (hT : T v w) : wpList P #[] (Post a1 o.dst T) [o] a1 w := by
  refine goes_val v hgd ?_ hT
  unfold execOp
  simp only [ho, hx, Sem.run_bind, Sem.run_pure, hr, Result.andThen_ok]
end Go.Proofs.YtcdjilnlmihnhaaDoor.Roll

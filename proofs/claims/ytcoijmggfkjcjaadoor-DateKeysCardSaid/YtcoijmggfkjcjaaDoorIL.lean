/-
  From the rows' conditions to the walks: the tables, arguments that are dates, a world for the witnesses (written by gen_IL.py).
-/
import Derived.Test.YtcoijmggfkjcjaaDoorIG
import Derived.Test.YtcoijmggfkjcjaaDoorCards
import Derived.Test.YtcoijmggfkjcjaaDoorTie
import Derived.WalkKit
import Derived.ProofKit
import Derived.OpenShut
import Derived.Carry
import Derived.Deep.DeepHandedRow
import Derived.Lib.LaidTab
import Derived.Stop.LaidErr
import Derived.ChangeMaps5
namespace Go.Proofs.YtcoijmggfkjcjaaDoor
open Go.ChangeShapes Go.WideShapes Go.ChangeAt Go.RowKit
set_option linter.unusedSimpArgs false
set_option linter.unusedVariables false
theorem own : ownKnob Tryd.prog.godebug = none := by kernel_rfl
theorem laidOut : laidOutB Tryd.prog = true := by kernel_rfl
theorem laidPow : (Rows.laid_internal_strconv_uint64pow10 : DataW Unit) = Lib.tabData .u64 Lib.pow10Tab := by kernel_rfl
theorem laidLen : (Rows.laid_rollbook_date_lengths : DataW Unit) = Lib.tabData .i64 lens := by kernel_rfl
theorem gnPow : Tryd.prog.globalNamed "internal/strconv.uint64pow10" = some 2 := by kernel_rfl
theorem gtLen : (Tryd.prog.globals[0]?).map (·.type) = some 59 := by kernel_rfl
theorem gtPow : (Tryd.prog.globals[2]?).map (·.type) = some 137 := by kernel_rfl
theorem cells12 : Tryd.prog.cellsOf 59 = 12 := by kernel_rfl
theorem cells20 : Tryd.prog.cellsOf 137 = 20 := by kernel_rfl
theorem cells1i : Tryd.prog.cellsOf 3 = 1 := by kernel_rfl
theorem cells1u : Tryd.prog.cellsOf 112 = 1 := by kernel_rfl
/-- what the rows' lists give -/
theorem tabs_laid {W : World} (h : laidMetH Tryd.prog [("math/bits.deBruijn32tab", Rows.laid_math_bits_deBruijn32tab), ("math/bits.deBruijn64tab", Rows.laid_math_bits_deBruijn64tab), ("internal/strconv.uint64pow10", Rows.laid_internal_strconv_uint64pow10), ("rollbook/date.lengths", Rows.laid_rollbook_date_lengths)] W) : Tabs W := by
  have h0 : laidMet Tryd.prog [("math/bits.deBruijn32tab", Rows.laid_math_bits_deBruijn32tab), ("math/bits.deBruijn64tab", Rows.laid_math_bits_deBruijn64tab), ("internal/strconv.uint64pow10", Rows.laid_internal_strconv_uint64pow10), ("rollbook/date.lengths", Rows.laid_rollbook_date_lengths)] W := h
  have h2 := h0.tail.tail
  have h3 := h2.tail
  rw [laidPow] at h2
  rw [laidLen] at h3
  exact ⟨Lib.tabIs_of_head gnLen gtLen Tryd.underlying59 Tryd.underlying3 cells1i cells12 h3,
    Lib.tabIs_of_head gnPow gtPow Tryd.underlying137 Tryd.underlying112 cells1u cells20 h2⟩
set_option maxRecDepth 100000 in
/-- a date that came in -/
theorem open_date {H : Type} {enc : TypeId × Value → H} {W : World} {base : Nat} {v : Value} {d : DataW H} {p : List MemPlace} (hval : Value.okWide Tryd.prog W .any base 23 v) (h : DataW.Trod enc Tryd.prog W 0 (fun _ => true) true 23 v d p) :
    ∃ a b c : Int, v = .agg #[.int .i64 a, .int .i64 b, .int .i64 c] ∧ (-9223372036854775808 ≤ a ∧ a ≤ 9223372036854775807) ∧ (-9223372036854775808 ≤ b ∧ b ≤ 9223372036854775807) ∧ (-9223372036854775808 ≤ c ∧ c ≤ 9223372036854775807) ∧ p = [] := by
  simp only [Value.okWide, Tryd.underlying23] at hval
  obtain ⟨cs, rfl, hsz, _⟩ := hval
  obtain ⟨fuel, hf⟩ := h
  obtain ⟨ys, n, _, hx, hlen, hyl, hf⟩ := DataW.trod_struct Tryd.underlying23 hf
  have hc3 : Tryd.prog.cellsOf 23 = 3 := by kernel_rfl
  rw [hc3] at hlen
  simp only [Value.cells] at hlen hf
  obtain ⟨l, rfl⟩ : ∃ l : List Value, cs = l.toArray := ⟨cs.toList, by simp⟩
  simp only at hlen hf
  match l, hlen with
  | [c0, c1, c2], _ =>
    match ys, hyl with
    | [y0, y1, y2], _ =>
      have h0 : DataW.trod enc Tryd.prog W 0 (fun _ => true) true n 3 [c0] = some y0 := hf 0 _ rfl
      have h1 : DataW.trod enc Tryd.prog W 0 (fun _ => true) true n 3 [c1] = some y1 := hf 1 _ rfl
      have h2 : DataW.trod enc Tryd.prog W 0 (fun _ => true) true n 3 [c2] = some y2 := hf 2 _ rfl
      obtain ⟨i0, e0, p0, w0⟩ := DataW.trod_int Tryd.underlying3 h0
      obtain ⟨i1, e1, p1, w1⟩ := DataW.trod_int Tryd.underlying3 h1
      obtain ⟨i2, e2, p2, w2⟩ := DataW.trod_int Tryd.underlying3 h2
      cases e0; cases e1; cases e2
      refine ⟨i0, i1, i2, rfl, bounds_i64 w0, bounds_i64 w1, bounds_i64 w2, ?_⟩
      have hp : p = [y0, y1, y2].flatMap (·.2) := by simpa using congrArg Prod.snd hx
      rw [hp, p0, p1, p2]
      rfl
def withCells (cs : Array Value) : Obj → Obj
  | .cells _ t frozen => .cells cs t frozen
  | o => o
def tabCells : DataW Unit → Array Value
  | .agg l => (l.map fun d => match d with | .lit (.int k n) => Value.int k n | _ => undef).toArray
  | _ => #[]
/-- a world for the witnesses: the tables hold what their initialisers lay -/
noncomputable def laidWorld (os : Os) : World :=
  { World.holding Tryd.prog os ⟨#[], #[], []⟩ with heap := ((((World.holding Tryd.prog os ⟨#[], #[], []⟩).heap.modify 0 (withCells (tabCells Rows.laid_rollbook_date_lengths))).modify 2 (withCells (tabCells Rows.laid_internal_strconv_uint64pow10))).modify 3 (withCells (tabCells Rows.laid_math_bits_deBruijn32tab))).modify 4 (withCells (tabCells Rows.laid_math_bits_deBruijn64tab)) }
theorem laid_met0 (os : Os) : laidMet Tryd.prog Rows.dateOfRow.laid ((laidWorld os).forCall (fun _ _ => 0) ⟨#[], #[.int .i64 0], []⟩).memory :=
  laidMet_of_run' 8 (by kernel_rfl) (by kernel_rfl)
end Go.Proofs.YtcoijmggfkjcjaaDoor

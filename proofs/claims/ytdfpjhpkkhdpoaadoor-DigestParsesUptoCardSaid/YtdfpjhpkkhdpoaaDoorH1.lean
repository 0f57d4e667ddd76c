/-
  strings.IndexByte.
-/
import Derived.Test.YtdfpjhpkkhdpoaaDoorB6
import Derived.Lib.Bytealg
import Derived.Laws.StandIn
namespace Go.Proofs.YtdfpjhpkkhdpoaaDoor
open Go.RowKit
set_option linter.unusedSimpArgs false
set_option linter.unusedVariables false
theorem run_indexCall (s : ByteArray) (c : Int) (w : World) :
    (callFunc 52 #[.string s, .int .u8 c]).run Tryd.prog w = .ok (.value (.int .i64 (Go.Lib.indexByte s.data.toList c.toNat.toUInt8))) w := by
  rw [run_callFunc_indexByte Tryd.func52 (by kernel_rfl) (by kernel_rfl) (by kernel_rfl) (by kernel_rfl), Go.Lib.run_indexByteString]
  rfl
attribute [local go_sem] run_indexCall
set_option maxRecDepth 100000 in
theorem slIndex_any (s : ByteArray) (c : Int) (w : World) :
    Calls Tryd.prog 46 #[.string s, .int .u8 c] w fun e w' => e = .returned (.int .i64 (Go.Lib.indexByte s.data.toList c.toNat.toUInt8)) ∧ w = w' := by
  go_enter Tryd.func46, Tryd.ntmps46
  go_wp2_with fail
  go_ret
  exact ⟨rfl, rfl⟩
set_option maxRecDepth 100000 in
theorem index_any (s : ByteArray) (c : Int) (w : World) :
    Calls Tryd.prog 39 #[.string s, .int .u8 c] w fun e w' => e = .returned (.int .i64 (Go.Lib.indexByte s.data.toList c.toNat.toUInt8)) ∧ w = w' := by
  go_enter Tryd.func39, Tryd.ntmps39
  go_wp2_with (go_at_call 46; refine (slIndex_any s c _).mono ?_; rintro e w1 ⟨rfl, rfl⟩)
  go_ret
  exact ⟨rfl, rfl⟩
/-- the value of a digit -/
theorem index_dg (n : Nat) (h : n < 16) : Go.Lib.indexByte DG (dg n) = (n : Int) := by
  have : ∀ n : Fin 16, Go.Lib.indexByte DG (dg n.val) = (n.val : Int) := by decide +kernel
  exact this ⟨n, h⟩
end Go.Proofs.YtdfpjhpkkhdpoaaDoor

/-
  Walks over the digest seat: Parse of a text of another length; the examples.
-/
import Derived.Test.YtdfpjhpkkhdpoaaDoorB5
namespace Go.Proofs.YtdfpjhpkkhdpoaaDoor
open Go.RowKit
def Z32 : List UInt8 := List.replicate 32 0
theorem Z32_len : Z32.length = 32 := by simp [Z32]
theorem run_build0 (w : World) : (Instr.build 24 #[]).run Tryd.prog w = .ok (.agg (bcells Z32)) w := by kernel_rfl
def build0A : Sem Next := do pure (.value (← Instr.build 24 #[]))
theorem exec_build0 (ρ : Operand → Value) (d : Option Tmp) (ty : TypeId) (pos : String) (af : Array Edge) (gd : Option (Nat × Bool)) :
    execOp ρ { dst := d, op := .build 24 #[], type := ty, pos := pos, after := af, guard := gd } = build0A := by
  unfold execOp build0A
  simp
theorem run_build0A (w : World) : build0A.run Tryd.prog w = .ok (.value (.agg (bcells Z32))) w := by
  unfold build0A
  simp only [Sem.run_bind, Sem.run_pure, run_build0 w, Result.andThen_ok]
attribute [local go_sem ↓] exec_build0
attribute [local go_sem] run_build0A
set_option maxRecDepth 100000 in
set_option maxHeartbeats 1000000 in
theorem parse_short (s : ByteArray) (w : World) (hs : s.size ≠ 64) :
    Calls Tryd.prog 30 #[.string s] w fun e w' => e = .returned (.tuple #[.agg (bcells Z32), .int .i64 7]) ∧ Below w.heap.size w w' := by
  have hs2 : (s.size : Int) ≠ 64 := by omega
  clear hs
  go_enter Tryd.func30, Tryd.ntmps30
  go_upto_region 2 with (fail)
  rw [zeros32, show List.replicate 32 (0 : UInt8) = Z32 from rfl]
  have hg : ((w.alloc (.cells (bcells Z32) 24)).alloc (.cells (bcells Z32) 24)).heap[w.heap.size]? = some (.cells (bcells Z32) 24 (0, 0)) := heap_old (heap_new rfl)
  have hb : Below w.heap.size w ((w.alloc (.cells (bcells Z32) 24)).alloc (.cells (bcells Z32) 24)) := ((Below.refl _ _).alloc (Nat.le_refl _) _).alloc (by simp) _
  generalize ((w.alloc (.cells (bcells Z32) 24)).alloc (.cells (bcells Z32) 24)) = w1 at *
  have Hb := Lib.hid hb
  have Hg := Lib.hid hg
  clear hb hg
  go_wp2_with (refine wpList_store_row rfl 24 (.tmp 2) (.tmp 11) rfl w.heap.size _ rfl rfl 24 _ Hg.out (by rw [bcells_size, Z32_len]; exact size32b) rfl (bcells_one _) ?_)
  refine bodyPost_ret (v := .tuple #[.agg (bcells Z32), .int .i64 7]) ?_ rfl ⟨rfl, Below_setRow Hb.out (Nat.le_refl _) _⟩
  have hld := run_loadVar_row (P := Tryd.prog) (w1.setRow w.heap.size (bcells Z32)) w.heap.size 24 24 (bcells Z32) (0, 0) _ (setRow_heap _ _ _ _ _ _ Hg.out) Tryd.underlying24 rfl (by rw [bcells_size, Z32_len]; exact size32b)
  rw [results_cell_tmp rfl]
  simp [asAddr, Result.andThen, hld]
end Go.Proofs.YtdfpjhpkkhdpoaaDoor

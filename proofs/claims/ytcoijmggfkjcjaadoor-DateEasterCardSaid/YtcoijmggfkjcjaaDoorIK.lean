/-
  Easter Sunday, the reference's: every year (written by gen_IE.py).
-/
import Derived.Test.YtcoijmggfkjcjaaDoorIH
import Derived.Test.YtcoijmggfkjcjaaDoorIJ
namespace Go.Proofs.YtcoijmggfkjcjaaDoor
open Go.RowKit
set_option linter.unusedSimpArgs false
set_option linter.unusedVariables false
set_option maxRecDepth 100000 in
set_option maxHeartbeats 1000000 in
theorem refEaster_any (y : Int) (w : World) : Calls Tryd.prog 33 #[.int .i64 y] w fun e w' => e = .returned (.tuple #[.int .i64 (easR y), .int .i64 (easE y)]) ∧ Below w.heap.size w w' := by
  by_cases hy : easOk y
  · have e : easE y = 0 := by unfold easE; rw [if_pos hy]
    rw [e]
    by_cases h : 11 * eG y + 20 + eZ y - eX y < 0
    · exact refEaster_neg y w hy h
    · exact refEaster_pos y w hy (by omega)
  · have HR : Hid (easR y = 0 ∧ easE y = 5) := Lib.hid (by unfold easR easE; rw [if_neg hy, if_neg hy]; exact ⟨rfl, rfl⟩)
    by_cases h1 : y < 1583
    · clear hy
      go_enter Tryd.func33, Tryd.ntmps33
      go_wp2_with fail
      go_ret2
      rw [HR.out.1, HR.out.2]
      exact ⟨rfl, Below.refl _ _⟩
    · have h2 : 9999 < y := by unfold easOk at hy; omega
      clear hy
      go_enter Tryd.func33, Tryd.ntmps33
      go_wp2_with fail
      go_ret2
      rw [HR.out.1, HR.out.2]
      exact ⟨rfl, Below.refl _ _⟩
end Go.Proofs.YtcoijmggfkjcjaaDoor

/-
  The laws' helpers over numbers, bytes and strings.
-/
import Derived.Deep.QuietTactic
import Derived.BigQuiet
import Derived.Test.YtbnodhcgdgcebaaW9
namespace Go.Proofs.Ytbnodhcgdgcebaa
open Go.RowKit
set_option linter.unusedSimpArgs false
set_option linter.unusedVariables false
def short (s : ByteArray) (most : Nat) : ByteArray := ⟨(s.data.toList.take most).toArray⟩
end Go.Proofs.Ytbnodhcgdgcebaa

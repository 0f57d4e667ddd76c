/-
  The fuse leaves the sectors alone.
-/
import Derived.Test.YtbnodhcgdgcebaaS2
namespace Go.Proofs.Ytbnodhcgdgcebaa
theorem setFuse_S' (d : DM) (n : Int) : (d.setFuse n).S = d.S := by unfold DM.setFuse; split <;> rfl
end Go.Proofs.Ytbnodhcgdgcebaa

/-
  The reference's Offset and Local (written by gen_Z8.py).
-/
import Derived.Test.YtcdjilnlmihnhaaDoorZ8
namespace Go.Proofs.YtcdjilnlmihnhaaDoor
open Go.RowKit
set_option linter.unusedSimpArgs false
set_option linter.unusedVariables false
attribute [local go_sem ↓] exec_loadShift exec_storeShift exec_loadSeg exec_storeSeg exec_loadZone exec_storeZone
attribute [local go_sem] run_storeShift run_storeSeg run_storeZone
theorem offR_drop (t o : Int) (L : List SM) (i : Nat) (h : i < L.length) (cur : Int) : offR t cur (L.drop i) = offR t (if L[i].t ≤ t then L[i].o else cur) (L.drop (i + 1)) := by
  rw [List.drop_eq_getElem_cons h, offR]
end Go.Proofs.YtcdjilnlmihnhaaDoor

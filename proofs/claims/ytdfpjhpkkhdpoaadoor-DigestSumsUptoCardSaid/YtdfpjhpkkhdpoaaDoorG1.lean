/-
  The law DigestSums: its walk.
-/
import Derived.Test.YtdfpjhpkkhdpoaaDoorF5
import Derived.Test.YtdfpjhpkkhdpoaaDoorC2
namespace Go.Proofs.YtdfpjhpkkhdpoaaDoor
open Go.RowKit
set_option linter.unusedSimpArgs false
set_option linter.unusedVariables false
attribute [local go_sem] run_eq24 Hv_len eqg24
set_option maxRecDepth 100000 in
set_option maxHeartbeats 1000000 in
theorem sums_any (a : Option Addr) (n c : Nat) (l : List UInt8) (w : World) (hT : Tabs w) (hB : Bs w a n c l) (hn : n ≤ 1048576) :
    Calls Tryd.prog 3 #[.slice a n c] w fun e w' => e = .returned (.bool true) ∧ Below w.heap.size w w' := by
  have HB := Lib.hid hB
  have N0 := Lib.hid (Now.start hT)
  clear hT hB
  go_enter Tryd.func3, Tryd.ntmps3
  go_wp2_with (first
    | (go_at_call 12; refine (sum_any a n c l _ N0.out.tabs (HB.out.below N0.out.bel) (by omega)).mono ?_; rintro e w1 ⟨rfl, hb⟩; have N1 := Lib.hid (N0.out.step hb); clear hb)
    | (go_at_call 13; refine (rsum_any a n c l _ (HB.out.below N1.out.bel) (by omega)).mono ?_; rintro e w2 ⟨rfl, hb⟩; have N2 := Lib.hid (N1.out.step hb); clear hb)
    | (go_at_call 14; refine (lives_any _ N2.out.tabs).mono ?_; rintro e w3 ⟨rfl, hb⟩; have N3 := Lib.hid (N2.out.step hb); clear hb))
  all_goals
    go_ret
    exact ⟨rfl, N3.out.bel⟩
end Go.Proofs.YtdfpjhpkkhdpoaaDoor

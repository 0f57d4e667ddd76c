/-
  Check and Day: the program's and the reference's (written by gen_I3.py).
-/
import Derived.Test.YtcdjilnlmihnhaaDoorI2
namespace Go.Proofs.YtcdjilnlmihnhaaDoor
open Go.RowKit
set_option linter.unusedSimpArgs false
set_option linter.unusedVariables false
theorem below_al_drewN (w : World) (o : Obj) (n : Nat) : Below w.heap.size w ((w.alloc o).drewN n) := below_drewN ((Below.refl _ w).alloc (Nat.le_refl _) o) n
/-- what Check returns -/
def chk (y m d : Int) : Int := if validD y m d then 0 else 5

set_option maxRecDepth 100000 in
set_option maxHeartbeats 1000000 in
theorem check_any (y m d : Int) (w : World) (hT : Tabs w) : Calls Tryd.prog 29 #[.agg #[.int .i64 y, .int .i64 m, .int .i64 d]] w fun e w' => e = .returned (.int .i64 (chk y m d)) ∧ Below w.heap.size w w' := by
  obtain ⟨l, hl⟩ : ∃ l, l = lenD y m := ⟨_, rfl⟩
  have HC : Hid (∀ n o, Calls Tryd.prog 25 #[.int .i64 y, .int .i64 m] ((w.alloc o).drewN n) fun e w' => e = .returned (.int .i64 l) ∧ w' = (w.alloc o).drewN n) := Lib.hid (fun n o => by rw [hl]; exact (length_any y m _ (hT.below (below_al_drewN _ _ _))).mono fun e w' h => ⟨h.1, h.2.symm⟩)
  clear hT
  by_cases hy1 : y < 1
  · skip
    have HV : Hid (chk y m d = 5) := Lib.hid (by unfold chk; rw [if_neg]; rintro ⟨h1, h2, h3, h4⟩; omega)
    clear HC
    go_enter Tryd.func29, Tryd.ntmps29
    go_wp2_with fail
    go_quiet (fail)
    go_wp2
    go_ret
    rw [HV.out]
    exact ⟨rfl, below_al_drewN _ _ _⟩
  by_cases hy2 : 9999 < y
  · skip
    have e0 : decide (y < 1) = false := decide_eq_false (by omega)
    have HV : Hid (chk y m d = 5) := Lib.hid (by unfold chk; rw [if_neg]; rintro ⟨h1, h2, h3, h4⟩; omega)
    clear HC
    go_enter Tryd.func29, Tryd.ntmps29
    go_wp2_with fail
    go_quiet (fail)
    go_wp2
    go_ret
    rw [HV.out]
    exact ⟨rfl, below_al_drewN _ _ _⟩
  by_cases hd1 : d < 1
  · skip
    have e0 : decide (y < 1) = false := decide_eq_false (by omega)
    have e1 : decide (9999 < y) = false := decide_eq_false (by omega)
    have HV : Hid (chk y m d = 5) := Lib.hid (by unfold chk; rw [if_neg]; rintro ⟨h1, h2, h3, h4⟩; omega)
    clear HC
    go_enter Tryd.func29, Tryd.ntmps29
    go_wp2_with fail
    go_quiet (fail)
    go_wp2
    go_ret
    rw [HV.out]
    exact ⟨rfl, below_al_drewN _ _ _⟩
  by_cases hd2 : l < d
  · skip
    have e0 : decide (y < 1) = false := decide_eq_false (by omega)
    have e1 : decide (9999 < y) = false := decide_eq_false (by omega)
    have e2 : decide (d < 1) = false := decide_eq_false (by omega)
    have HV : Hid (chk y m d = 5) := Lib.hid (by unfold chk; rw [if_neg]; rintro ⟨h1, h2, h3, h4⟩; omega)
    skip
    go_enter Tryd.func29, Tryd.ntmps29
    go_wp2_with fail
    go_quiet ((go_at_call 25; exact Calls.quiet_of_same (HC.out _ _)))
    go_wp2
    go_ret
    rw [HV.out]
    exact ⟨rfl, below_al_drewN _ _ _⟩
  · skip
    have e0 : decide (y < 1) = false := decide_eq_false (by omega)
    have e1 : decide (9999 < y) = false := decide_eq_false (by omega)
    have e2 : decide (d < 1) = false := decide_eq_false (by omega)
    have e3 : decide (l < d) = false := decide_eq_false (by omega)
    have HV : Hid (chk y m d = 0) := Lib.hid (by unfold chk; rw [if_pos]; exact ⟨by omega, by omega, by omega, by omega⟩)
    skip
    go_enter Tryd.func29, Tryd.ntmps29
    go_wp2_with fail
    go_quiet ((go_at_call 25; exact Calls.quiet_of_same (HC.out _ _)))
    go_wp2
    go_ret
    rw [HV.out]
    exact ⟨rfl, below_al_drewN _ _ _⟩

end Go.Proofs.YtcdjilnlmihnhaaDoor

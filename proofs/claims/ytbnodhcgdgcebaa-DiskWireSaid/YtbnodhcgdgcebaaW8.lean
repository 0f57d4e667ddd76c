/-
  The methods of a Reader that read strings and lists.
-/
import Derived.Test.YtbnodhcgdgcebaaW7
namespace Go.Proofs.Ytbnodhcgdgcebaa
open Go.RowKit
set_option linter.unusedSimpArgs false
set_option linter.unusedVariables false
set_option maxRecDepth 100000 in
set_option maxHeartbeats 400000 in
theorem rlen_any (g : Nat) (k : Option Nat) (l : List UInt8) (e : Nat) (most : Int) (w : World) (hR : Rd w g k l e) (hl : l.length ≤ 100000000000000) (h1 : -9223372036854775808 ≤ most) (h2 : most ≤ 9223372036854775807) :
    Calls Try.prog 60 #[.pointer (some ⟨g, 0, none⟩), .int .i64 most] w fun x w' => x = .returned (.int .u64 ((rLen ⟨l, e⟩ most).1 : Int)) ∧ Reads g k w (rLen ⟨l, e⟩ most).2.l (rLen ⟨l, e⟩ most).2.e w' := by
  have hC := ruint_any g k l e w hR hl
  unfold rLen
  have hv := rUint_val ⟨l, e⟩
  generalize rUint ⟨l, e⟩ = R at *
  obtain ⟨V, S⟩ := R
  simp only at hC hv ⊢
  have HC := Lib.hid hC
  clear hC hR
  by_cases hm : most < 0 ∨ most < (V : Int)
  · rw [if_pos hm]
    by_cases hm0 : most < 0
    · go_enter Try.func60, Try.ntmps60
      go_wp2_with (first
        | (go_at_call 67; refine HC.out.mono ?_; rintro e w1 ⟨rfl, h1⟩; have H1 := Lib.hid h1; clear h1)
        | (go_at_call 68; refine (fail_any g k _ _ 2 _ _ H1.out.1 rfl).mono ?_; rintro e w2 ⟨rfl, h2⟩; have H2 := Lib.hid h2; clear h2))
      go_ret
      exact ⟨rfl, H1.out.trans H2.out⟩
    · have hm1 : most < (V : Int) := by omega
      go_enter Try.func60, Try.ntmps60
      go_wp2_with (first
        | (go_at_call 67; refine HC.out.mono ?_; rintro e w1 ⟨rfl, h1⟩; have H1 := Lib.hid h1; clear h1)
        | (go_at_call 68; refine (fail_any g k _ _ 2 _ _ H1.out.1 rfl).mono ?_; rintro e w2 ⟨rfl, h2⟩; have H2 := Lib.hid h2; clear h2))
      go_ret
      exact ⟨rfl, H1.out.trans H2.out⟩
  · rw [if_neg hm]
    have hm0 : ¬ most < 0 := by omega
    have hm1 : ¬ most < (V : Int) := by omega
    clear hm
    go_enter Try.func60, Try.ntmps60
    go_wp2_with (first
      | (go_at_call 67; refine HC.out.mono ?_; rintro e w1 ⟨rfl, h1⟩; have H1 := Lib.hid h1; clear h1))
    go_ret
    exact ⟨rfl, H1.out⟩
end Go.Proofs.Ytbnodhcgdgcebaa

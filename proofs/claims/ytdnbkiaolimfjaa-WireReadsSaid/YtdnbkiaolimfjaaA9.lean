/-
  The methods of a Reader that read strings and lists.
-/
import Derived.Test.YtdnbkiaolimfjaaA8
namespace Go.Proofs.Ytdnbkiaolimfjaa
open Go.RowKit
set_option linter.unusedSimpArgs false
set_option linter.unusedVariables false
set_option maxRecDepth 100000 in
set_option maxHeartbeats 400000 in
theorem rlen_any (g : Nat) (k : Option Nat) (l : List UInt8) (e : Nat) (most : Int) (w : World) (hR : Rd w g k l e) (hl : l.length ≤ 100000000000000) (h1 : -9223372036854775808 ≤ most) (h2 : most ≤ 9223372036854775807) :
    Calls Try.prog 59 #[.pointer (some ⟨g, 0, none⟩), .int .i64 most] w fun x w' => x = .returned (.int .u64 ((rLen ⟨l, e⟩ most).1 : Int)) ∧ Reads g k w (rLen ⟨l, e⟩ most).2.l (rLen ⟨l, e⟩ most).2.e w' := by
  have hC := ruint_any g k l e w hR hl
  unfold rLen
  have hv := rUint_val ⟨l, e⟩
  generalize rUint ⟨l, e⟩ = R at *
  obtain ⟨V, S⟩ := R
  simp only at hC hv ⊢
  have HC := Lib.hid hC
  clear hC hR
  by_cases hm : most < 0 ∨ most < (V : Int)
  · rw [if_pos hm]
    by_cases hm0 : most < 0
    · go_enter Try.func59, Try.ntmps59
      go_wp2_with (first
        | (go_at_call 41; refine HC.out.mono ?_; rintro e w1 ⟨rfl, h1⟩; have H1 := Lib.hid h1; clear h1)
        | (go_at_call 27; refine (fail_any g k _ _ 2 _ _ H1.out.1 rfl).mono ?_; rintro e w2 ⟨rfl, h2⟩; have H2 := Lib.hid h2; clear h2))
      go_ret
      exact ⟨rfl, H1.out.trans H2.out⟩
    · have hm1 : most < (V : Int) := by omega
      go_enter Try.func59, Try.ntmps59
      go_wp2_with (first
        | (go_at_call 41; refine HC.out.mono ?_; rintro e w1 ⟨rfl, h1⟩; have H1 := Lib.hid h1; clear h1)
        | (go_at_call 27; refine (fail_any g k _ _ 2 _ _ H1.out.1 rfl).mono ?_; rintro e w2 ⟨rfl, h2⟩; have H2 := Lib.hid h2; clear h2))
      go_ret
      exact ⟨rfl, H1.out.trans H2.out⟩
  · rw [if_neg hm]
    have hm0 : ¬ most < 0 := by omega
    have hm1 : ¬ most < (V : Int) := by omega
    clear hm
    go_enter Try.func59, Try.ntmps59
    go_wp2_with (first
      | (go_at_call 41; refine HC.out.mono ?_; rintro e w1 ⟨rfl, h1⟩; have H1 := Lib.hid h1; clear h1))
    go_ret
    exact ⟨rfl, H1.out⟩
set_option maxRecDepth 100000 in
set_option maxHeartbeats 400000 in
theorem rtext_any (g : Nat) (k : Option Nat) (l : List UInt8) (e : Nat) (most : Int) (w : World) (hR : Rd w g k l e) (hl : l.length ≤ 100000000000000) (h1 : -9223372036854775808 ≤ most) (h2 : most ≤ 9223372036854775807) :
    Calls Try.prog 45 #[.pointer (some ⟨g, 0, none⟩), .int .i64 most] w fun x w' => x = .returned (.string ⟨(rText ⟨l, e⟩ most).1.toArray⟩) ∧ Reads g k w (rText ⟨l, e⟩ most).2.l (rText ⟨l, e⟩ most).2.e w' := by
  have hC := rlen_any g k l e most w hR hl h1 h2
  unfold rText
  have hv : (rLen ⟨l, e⟩ most).1 < 18446744073709551616 := by
    unfold rLen
    split
    · show 0 < 18446744073709551616
      omega
    · exact rUint_val _
  have hll := rLen_len ⟨l, e⟩ most
  generalize rLen ⟨l, e⟩ most = R at *
  obtain ⟨V, S, E⟩ := R
  simp only at hC hv hll ⊢
  have HC := Lib.hid hC
  clear hC hR
  by_cases hm : S.length < V
  · rw [if_pos hm]
    go_enter Try.func45, Try.ntmps45
    go_wp2_with (first
      | (go_at_call 59; refine HC.out.mono ?_; rintro e w1 ⟨rfl, h1⟩; have H1 := Lib.hid h1; clear h1)
      | (go_at_call 53; refine (left_any g k _ _ _ H1.out.1).mono ?_; rintro e w2 ⟨rfl, rfl⟩)
      | (go_at_call 27; refine (fail_any g k _ _ 6 _ _ H1.out.1 rfl).mono ?_; rintro e w2 ⟨rfl, h2⟩; have H2 := Lib.hid h2; clear h2))
    go_ret
    exact ⟨rfl, H1.out.trans H2.out⟩
  · rw [if_neg hm]
    go_enter Try.func45, Try.ntmps45
    go_wp2_with (first
      | (go_at_call 59; refine HC.out.mono ?_; rintro e w1 ⟨rfl, h1⟩; have H1 := Lib.hid h1; clear h1)
      | (go_at_call 53; refine (left_any g k _ _ _ H1.out.1).mono ?_; rintro e w2 ⟨rfl, rfl⟩)
      | (go_at_call 58; refine (take_any g k S E V _ H1.out.1 (by omega)).mono ?_; rintro e w3 ⟨a3, c3, rfl, hb3, h3⟩; have r3 := run_str hb3; have H3 := Lib.hid h3; clear h3 hb3))
    go_ret
    exact ⟨rfl, H1.out.trans H3.out⟩
end Go.Proofs.Ytdnbkiaolimfjaa

/-
  The methods of a Reader that read.
-/
import Derived.Test.YtbnodhcgdgcebaaW6
namespace Go.Proofs.Ytbnodhcgdgcebaa
open Go.RowKit
set_option linter.unusedSimpArgs false
set_option linter.unusedVariables false
theorem Reads.trans {g : Nat} {k : Option Nat} {w w1 w2 : World} {l1 l2 : List UInt8} {e1 e2 : Nat} (h : Reads g k w l1 e1 w1) (h2 : Reads g k w1 l2 e2 w2) : Reads g k w l2 e2 w2 := ⟨h2.1, h.2.trans h2.2 (fun _ _ h => h)⟩
set_option maxRecDepth 100000 in
set_option maxHeartbeats 400000 in
theorem ruint_any (g : Nat) (k : Option Nat) (l : List UInt8) (e : Nat) (w : World) (hR : Rd w g k l e) (hl : l.length ≤ 100000000000000) :
    Calls Try.prog 67 #[.pointer (some ⟨g, 0, none⟩)] w fun x w' => x = .returned (.int .u64 ((rUint ⟨l, e⟩).1 : Int)) ∧ Reads g k w (rUint ⟨l, e⟩).2.l (rUint ⟨l, e⟩).2.e w' := by
  obtain ⟨a, c, hg, h0, h1, f0, f1, hB, hk⟩ := hR.facts
  have HB := Lib.hid hB
  have HR := Lib.hid hR
  clear hg hB hk hR
  by_cases he : e = 0
  · subst he
    rw [rUint_ok ⟨l, 0⟩ rfl]
    have hsz := fnum_size l 0 0
    obtain ⟨V, hV⟩ : ∃ V, V = (fnum l 0 0).1 := ⟨_, rfl⟩
    obtain ⟨K, hK⟩ : ∃ K, K = (fnum l 0 0).2.1 := ⟨_, rfl⟩
    obtain ⟨E, hE⟩ : ∃ E, E = (fnum l 0 0).2.2 := ⟨_, rfl⟩
    have hC := firstNumber_any _ a l.length c l w HB.out hl
    rw [← hV, ← hK, ← hE] at hC
    rw [← hK] at hsz
    simp only [← hV, ← hK, ← hE]
    have HC := Lib.hid hC
    have hsz2 : K ≤ l.length := by omega
    clear hC hV hK hE HB hsz
    go_enter Try.func67, Try.ntmps67
    go_wp2_with (first
      | (go_at_call 71; refine (take_any g k l _ K _ H2.out.1 hsz2).mono ?_; rintro e w3 ⟨a3, c3, rfl, -, h3⟩; have H3 := Lib.hid h3; clear h3)
      | (go_at_call 68; refine (fail_any g k l 0 E _ _ HR.out rfl).mono ?_; rintro e w2 ⟨rfl, h2⟩; have H2 := Lib.hid h2; clear h2)
      | (go_at_call 70; refine HC.out.mono ?_; rintro e w1 ⟨rfl, rfl⟩))
    go_ret
    exact ⟨rfl, H2.out.trans H3.out⟩
  · have he2 : ((e : Int) == 0) = false := by rw [beq_eq_false_iff_ne]; omega
    have he3 : ((e : Int) != 0) = true := by rw [bne_iff_ne]; omega
    rw [rUint_err ⟨l, e⟩ he]
    go_enter Try.func67, Try.ntmps67
    go_wp2
    go_ret
    exact ⟨rfl, HR.out, Kept.refl _ _⟩
set_option maxRecDepth 100000 in
set_option maxHeartbeats 400000 in
theorem rint_any (g : Nat) (k : Option Nat) (l : List UInt8) (e : Nat) (w : World) (hR : Rd w g k l e) (hl : l.length ≤ 100000000000000) :
    Calls Try.prog 61 #[.pointer (some ⟨g, 0, none⟩)] w fun x w' => x = .returned (.int .i64 (rInt ⟨l, e⟩).1) ∧ Reads g k w (rInt ⟨l, e⟩).2.l (rInt ⟨l, e⟩).2.e w' := by
  have hC := ruint_any g k l e w hR hl
  unfold rInt
  have hv := rUint_val ⟨l, e⟩
  generalize rUint ⟨l, e⟩ = R at *
  obtain ⟨V, S⟩ := R
  simp only at hC hv ⊢
  have HC := Lib.hid hC
  clear hC hR
  by_cases h2 : V % 2 = 0
  · have HZ : Hid (zag V = ((V / 2 : Nat) : Int)) := Lib.hid (by unfold zag; rw [if_pos h2])
    go_enter Try.func61, Try.ntmps61
    go_wp2_with (go_at_call 67; refine HC.out.mono ?_; rintro e w1 ⟨rfl, h1⟩; have H1 := Lib.hid h1; clear h1)
    go_ret
    exact ⟨ret_int (by rw [HZ.out]; first | rfl | omega | (rw [IntKind.wrap_i64]; omega)), H1.out⟩
  · have HZ : Hid (zag V = -((V / 2 : Nat) : Int) - 1) := Lib.hid (by unfold zag; rw [if_neg h2])
    have h3 : ((V : Int) % 2 == 0) = false := by rw [beq_eq_false_iff_ne]; omega
    go_enter Try.func61, Try.ntmps61
    go_wp2_with (go_at_call 67; refine HC.out.mono ?_; rintro e w1 ⟨rfl, h1⟩; have H1 := Lib.hid h1; clear h1)
    go_ret
    exact ⟨ret_int (by rw [HZ.out]; first | rfl | omega | (simp only [IntKind.wrap_i64]; omega)), H1.out⟩
theorem retB (b : Bool) {x y : Bool} (h : x = y) : Ending.returned (.bool x) = .returned (.bool y) := by rw [h]
end Go.Proofs.Ytbnodhcgdgcebaa

/-
  The methods of a Reader that read.
-/
import Derived.Test.YtdnbkiaolimfjaaA7
import Derived.Test.YtdnbkiaolimfjaaM2
namespace Go.Proofs.Ytdnbkiaolimfjaa
open Go.RowKit
set_option linter.unusedSimpArgs false
set_option linter.unusedVariables false
theorem Reads.trans {g : Nat} {k : Option Nat} {w w1 w2 : World} {l1 l2 : List UInt8} {e1 e2 : Nat} (h : Reads g k w l1 e1 w1) (h2 : Reads g k w1 l2 e2 w2) : Reads g k w l2 e2 w2 := ⟨h2.1, h.2.trans h2.2 (fun _ _ h => h)⟩
set_option maxRecDepth 100000 in
set_option maxHeartbeats 400000 in
theorem ruint_any (g : Nat) (k : Option Nat) (l : List UInt8) (e : Nat) (w : World) (hR : Rd w g k l e) (hl : l.length ≤ 100000000000000) :
    Calls Try.prog 41 #[.pointer (some ⟨g, 0, none⟩)] w fun x w' => x = .returned (.int .u64 ((rUint ⟨l, e⟩).1 : Int)) ∧ Reads g k w (rUint ⟨l, e⟩).2.l (rUint ⟨l, e⟩).2.e w' := by
  obtain ⟨a, c, hg, h0, h1, f0, f1, hB, hk⟩ := hR.facts
  have HB := Lib.hid hB
  have HR := Lib.hid hR
  clear hg hB hk hR
  by_cases he : e = 0
  · subst he
    rw [rUint_ok ⟨l, 0⟩ rfl]
    have hsz := fnum_size l 0 0
    obtain ⟨V, hV⟩ : ∃ V, V = (fnum l 0 0).1 := ⟨_, rfl⟩
    obtain ⟨K, hK⟩ : ∃ K, K = (fnum l 0 0).2.1 := ⟨_, rfl⟩
    obtain ⟨E, hE⟩ : ∃ E, E = (fnum l 0 0).2.2 := ⟨_, rfl⟩
    have hC := firstNumber_any _ a l.length c l w HB.out hl
    rw [← hV, ← hK, ← hE] at hC
    rw [← hK] at hsz
    simp only [← hV, ← hK, ← hE]
    have HC := Lib.hid hC
    have hsz2 : K ≤ l.length := by omega
    clear hC hV hK hE HB hsz
    go_enter Try.func41, Try.ntmps41
    go_wp2_with (first
      | (go_at_call 58; refine (take_any g k l _ K _ H2.out.1 hsz2).mono ?_; rintro e w3 ⟨a3, c3, rfl, -, h3⟩; have H3 := Lib.hid h3; clear h3)
      | (go_at_call 27; refine (fail_any g k l 0 E _ _ HR.out rfl).mono ?_; rintro e w2 ⟨rfl, h2⟩; have H2 := Lib.hid h2; clear h2)
      | (go_at_call 57; refine HC.out.mono ?_; rintro e w1 ⟨rfl, rfl⟩))
    go_ret
    exact ⟨rfl, H2.out.trans H3.out⟩
  · have he2 : ((e : Int) == 0) = false := by rw [beq_eq_false_iff_ne]; omega
    have he3 : ((e : Int) != 0) = true := by rw [bne_iff_ne]; omega
    rw [rUint_err ⟨l, e⟩ he]
    go_enter Try.func41, Try.ntmps41
    go_wp2
    go_ret
    exact ⟨rfl, HR.out, Kept.refl _ _⟩
set_option maxRecDepth 100000 in
set_option maxHeartbeats 400000 in
theorem rint_any (g : Nat) (k : Option Nat) (l : List UInt8) (e : Nat) (w : World) (hR : Rd w g k l e) (hl : l.length ≤ 100000000000000) :
    Calls Try.prog 43 #[.pointer (some ⟨g, 0, none⟩)] w fun x w' => x = .returned (.int .i64 (rInt ⟨l, e⟩).1) ∧ Reads g k w (rInt ⟨l, e⟩).2.l (rInt ⟨l, e⟩).2.e w' := by
  have hC := ruint_any g k l e w hR hl
  unfold rInt
  have hv := rUint_val ⟨l, e⟩
  generalize rUint ⟨l, e⟩ = R at *
  obtain ⟨V, S⟩ := R
  simp only at hC hv ⊢
  have HC := Lib.hid hC
  clear hC hR
  by_cases h2 : V % 2 = 0
  · have HZ : Hid (zag V = ((V / 2 : Nat) : Int)) := Lib.hid (by unfold zag; rw [if_pos h2])
    go_enter Try.func43, Try.ntmps43
    go_wp2_with (go_at_call 41; refine HC.out.mono ?_; rintro e w1 ⟨rfl, h1⟩; have H1 := Lib.hid h1; clear h1)
    go_ret
    exact ⟨ret_int (by rw [HZ.out]; first | rfl | omega | (rw [IntKind.wrap_i64]; omega)), H1.out⟩
  · have HZ : Hid (zag V = -((V / 2 : Nat) : Int) - 1) := Lib.hid (by unfold zag; rw [if_neg h2])
    have h3 : ((V : Int) % 2 == 0) = false := by rw [beq_eq_false_iff_ne]; omega
    go_enter Try.func43, Try.ntmps43
    go_wp2_with (go_at_call 41; refine HC.out.mono ?_; rintro e w1 ⟨rfl, h1⟩; have H1 := Lib.hid h1; clear h1)
    go_ret
    exact ⟨ret_int (by rw [HZ.out]; first | rfl | omega | (simp only [IntKind.wrap_i64]; omega)), H1.out⟩
theorem retB (b : Bool) {x y : Bool} (h : x = y) : Ending.returned (.bool x) = .returned (.bool y) := by rw [h]
set_option maxRecDepth 100000 in
set_option maxHeartbeats 400000 in
theorem rbool_any (g : Nat) (k : Option Nat) (l : List UInt8) (e : Nat) (w : World) (hR : Rd w g k l e) (hl : l.length ≤ 100000000000000) :
    Calls Try.prog 44 #[.pointer (some ⟨g, 0, none⟩)] w fun x w' => x = .returned (.bool (rBool ⟨l, e⟩).1) ∧ Reads g k w (rBool ⟨l, e⟩).2.l (rBool ⟨l, e⟩).2.e w' := by
  obtain ⟨a, c, hg, h0, h1, f0, f1, hB, hk⟩ := hR.facts
  have HR := Lib.hid hR
  clear hg hB hk hR
  by_cases he : e = 0
  · subst he
    cases l with
    | nil =>
      have e1 : rBool ⟨[], 0⟩ = (false, ⟨[], 6⟩) := rfl
      rw [e1]
      go_enter Try.func44, Try.ntmps44
      go_wp2_with (first
        | (go_at_call 53; refine (left_any g k [] _ _ HR.out).mono ?_; rintro e w2 ⟨rfl, rfl⟩)
        | (go_at_call 27; refine (fail_any g k [] 0 6 _ _ HR.out rfl).mono ?_; rintro e w2 ⟨rfl, h2⟩; have H2 := Lib.hid h2; clear h2))
      go_ret
      exact ⟨rfl, H2.out⟩
    | cons b r =>
      have e1 : rBool ⟨b :: r, 0⟩ = (b.toNat == 1, ⟨r, if 1 < b.toNat then 7 else 0⟩) := rfl
      have hbx := b.toNat_lt
      by_cases hb : 1 < b.toNat
      · have e2 : (b.toNat == 1) = false := by rw [beq_eq_false_iff_ne]; omega
        have e3 : ((b.toNat : Int) == 1) = false := by rw [beq_eq_false_iff_ne]; omega
        rw [e1, if_pos hb, e2]
        clear e1 e2
        go_enter Try.func44, Try.ntmps44
        go_wp2_with (first
          | (go_at_call 53; refine (left_any g k _ _ _ HR.out).mono ?_; rintro e w2 ⟨rfl, rfl⟩)
          | (go_at_call 58; refine (take_any g k _ _ 1 _ HR.out (by simp)).mono ?_; rintro e w3 ⟨a3, c3, rfl, hb3, h3⟩; obtain ⟨bb, off, -, -, rfl, hc3⟩ := hb3.cells (by omega); have hc4 : w3.cell? ⟨bb, off, none⟩ = some (.int .u8 (b.toNat : Int)) := hc3 0 (by simp); have H3 := Lib.hid h3; clear h3 hb3 hc3)
          | (go_at_call 27; refine (fail_any g k r 0 7 _ _ H3.out.1 rfl).mono ?_; rintro e w4 ⟨rfl, h4⟩; have H4 := Lib.hid h4; clear h4))
        go_ret
        exact ⟨rfl, H3.out.trans H4.out⟩
      · rw [e1, if_neg hb]
        clear e1
        have e4 : (b.toNat == 1) = ((b.toNat : Int) == 1) := by rw [Bool.eq_iff_iff]; simp; omega
        have E4 := Lib.hid e4
        clear e4
        go_enter Try.func44, Try.ntmps44
        go_wp2_with (first
          | (go_at_call 53; refine (left_any g k _ _ _ HR.out).mono ?_; rintro e w2 ⟨rfl, rfl⟩)
          | (go_at_call 58; refine (take_any g k _ _ 1 _ HR.out (by simp)).mono ?_; rintro e w3 ⟨a3, c3, rfl, hb3, h3⟩; obtain ⟨bb, off, -, -, rfl, hc3⟩ := hb3.cells (by omega); have hc4 : w3.cell? ⟨bb, off, none⟩ = some (.int .u8 (b.toNat : Int)) := hc3 0 (by simp); have H3 := Lib.hid h3; clear h3 hb3 hc3))
        go_ret
        exact ⟨retB true (by rw [E4.out]), H3.out⟩
  · have he2 : ((e : Int) == 0) = false := by rw [beq_eq_false_iff_ne]; omega
    have he3 : ((e : Int) != 0) = true := by rw [bne_iff_ne]; omega
    have e1 : rBool ⟨l, e⟩ = (false, ⟨l, e⟩) := by unfold rBool; rw [if_neg he]
    rw [e1]
    go_enter Try.func44, Try.ntmps44
    go_wp2
    go_ret
    exact ⟨rfl, HR.out, Kept.refl _ _⟩
end Go.Proofs.Ytdnbkiaolimfjaa

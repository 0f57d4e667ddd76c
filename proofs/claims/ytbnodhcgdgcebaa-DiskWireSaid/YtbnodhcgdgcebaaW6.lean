/-
  The methods of a Reader: Fail, Err, left, take.
-/
import Derived.Test.YtbnodhcgdgcebaaW5
namespace Go.Proofs.Ytbnodhcgdgcebaa
open Go.RowKit
set_option linter.unusedSimpArgs false
set_option linter.unusedVariables false
/-- what a method of a reader leaves -/
def Reads (g : Nat) (k : Option Nat) (w : World) (l' : List UInt8) (e' : Nat) (w' : World) : Prop := Rd w' g k l' e' ∧ Kept (fun j => j = g) w w'
theorem Rd.facts {w : World} {g : Nat} {k : Option Nat} {l : List UInt8} {e : Nat} (h : Rd w g k l e) : ∃ a c, w.heap[g]? = some (.cells #[.slice a l.length c, .int .i64 (e : Int)] 103 (0, 0)) ∧ w.cell? ⟨g, 0, none⟩ = some (.slice a l.length c) ∧ w.cell? ⟨g, 1, none⟩ = some (.int .i64 (e : Int)) ∧ w.frozen? ⟨g, 0, none⟩ = false ∧ w.frozen? ⟨g, 1, none⟩ = false ∧ Bs (fun b => k = some b) w a l.length c l ∧ k ≠ some g := by
  obtain ⟨a, c, hg, hB, hk⟩ := h
  exact ⟨a, c, hg, by rw [cell_of_row w g 0 _ _ _ hg]; rfl, by rw [cell_of_row w g 1 _ _ _ hg]; rfl, frozen_of_row w g 0 _ _ hg, frozen_of_row w g 1 _ _ hg, hB, hk⟩
def failed (e f : Nat) : Nat := if e = 0 then f else e
set_option maxRecDepth 100000 in
set_option maxHeartbeats 400000 in
theorem fail_any (g : Nat) (k : Option Nat) (l : List UInt8) (e f : Nat) (F : Int) (w : World) (hR : Rd w g k l e) (hF : F = (f : Int)) :
    Calls Try.prog 68 #[.pointer (some ⟨g, 0, none⟩), .int .i64 F] w fun x w' => x = .returned (.tuple #[]) ∧ Reads g k w l (failed e f) w' := by
  subst hF
  obtain ⟨a, c, hg, h0, h1, f0, f1, hB, hk⟩ := hR.facts
  have HG := Lib.hid hg
  have HB := Lib.hid hB
  have HK := Lib.hid hk
  have HR := Lib.hid hR
  clear hg hB hk hR
  by_cases he : e = 0
  · subst he
    go_enter Try.func68, Try.ntmps68
    go_wp2
    go_end0
    refine ⟨rfl, ⟨a, c, ?_, HB.out.kept ((Kept.refl (fun j => j = g) w).setCell (fun _ => rfl) _) (fun b _ hb e => HK.out (by rw [hb, e])), HK.out⟩, (Kept.refl (fun j => j = g) w).setCell (fun _ => rfl) _⟩
    rw [heap_setCell_same w g 1 _ _ _ HG.out]
    rfl
  · have he2 : ((e : Int) == 0) = false := by rw [beq_eq_false_iff_ne]; omega
    go_enter Try.func68, Try.ntmps68
    go_wp2
    go_end0
    refine ⟨rfl, ?_, Kept.refl _ _⟩
    rw [failed, if_neg he]
    exact HR.out
set_option maxRecDepth 100000 in
theorem left_any (g : Nat) (k : Option Nat) (l : List UInt8) (e : Nat) (w : World) (hR : Rd w g k l e) :
    Calls Try.prog 62 #[.pointer (some ⟨g, 0, none⟩)] w fun x w' => x = .returned (.int .i64 (l.length : Int)) ∧ w = w' := by
  obtain ⟨a, c, hg, h0, h1, f0, f1, hB, hk⟩ := hR.facts
  clear hg hB hk hR
  go_enter Try.func62, Try.ntmps62
  go_wp2
  go_ret
  exact ⟨rfl, rfl⟩
def endE (e n : Nat) : Nat := if e = 0 ∧ 0 < n then 7 else e
set_option maxRecDepth 100000 in
theorem end_any (g : Nat) (k : Option Nat) (l : List UInt8) (e : Nat) (w : World) (hR : Rd w g k l e) :
    Calls Try.prog 44 #[.pointer (some ⟨g, 0, none⟩)] w fun x w' => x = .returned (.int .i64 (endE e l.length : Int)) ∧ w = w' := by
  obtain ⟨a, c, hg, h0, h1, f0, f1, hB, hk⟩ := hR.facts
  have HR := Lib.hid hR
  clear hg hB hk hR
  by_cases he : e = 0
  · subst he
    by_cases hl : 0 < l.length
    · go_enter Try.func44, Try.ntmps44
      go_wp2_with (go_at_call 62; refine (left_any g k l _ _ HR.out).mono ?_; rintro e w2 ⟨rfl, rfl⟩)
      go_ret
      exact ⟨ret_int (by rw [endE, if_pos ⟨rfl, hl⟩]; rfl), rfl⟩
    · have hl0 : l.length = 0 := by omega
      go_enter Try.func44, Try.ntmps44
      go_wp2_with (go_at_call 62; refine (left_any g k l _ _ HR.out).mono ?_; rintro e w2 ⟨rfl, rfl⟩)
      go_ret
      exact ⟨ret_int (by rw [endE, if_neg (by omega)]; rfl), rfl⟩
  · have he2 : ((e : Int) == 0) = false := by rw [beq_eq_false_iff_ne]; omega
    go_enter Try.func44, Try.ntmps44
    go_wp2
    go_ret
    exact ⟨ret_int (by rw [endE, if_neg (by omega)]), rfl⟩
theorem vals_drop (l : List UInt8) (n : Nat) : vals (l.drop n) = (vals l).drop n := by simp [vals, List.map_drop]
theorem Bs.from {D : Nat → Prop} {w : World} {a : Option Addr} {n c : Nat} {l : List UInt8} (h : Bs D w a n c l) (F : Nat) (hF : F ≤ n) : Bs D w (if c = F then a else a.map (fun x => x.add F)) (n - F) (c - F) (l.drop F) := by
  obtain ⟨h1, h2, h3, h4, h5, h6⟩ := h
  have h4' : c ≤ maxLen := h4
  refine ⟨by rw [List.length_drop]; omega, ?_, by omega, by unfold maxLen at *; omega, ?_, fun hp => ?_⟩
  · rw [vals_len, List.length_drop]; omega
  · intro ha
    by_cases hcF : c = F
    · omega
    · rw [if_neg hcF] at ha
      cases a with
      | none => have := h5 rfl; omega
      | some x => cases ha
  · obtain ⟨b, off, hD, rfl, hr⟩ := h6 (by omega)
    rw [if_neg (by omega)]
    refine ⟨b, off + F, hD, by rw [Option.map_some, Addr.add_mid], fun j v hv => ?_⟩
    rw [vals_drop, List.getElem?_drop] at hv
    rw [Nat.add_assoc]
    exact hr (F + j) v hv
set_option maxRecDepth 100000 in
set_option maxHeartbeats 400000 in
theorem take_any (g : Nat) (k : Option Nat) (l : List UInt8) (e : Nat) (n : Nat) (w : World) (hR : Rd w g k l e) (hn : n ≤ l.length) :
    Calls Try.prog 71 #[.pointer (some ⟨g, 0, none⟩), .int .i64 (n : Int)] w fun x w' => ∃ a c, x = .returned (.slice a n c) ∧ Bs (fun b => k = some b) w' a n c (l.take n) ∧ Reads g k w (l.drop n) e w' := by
  obtain ⟨a, c, hg, h0, h1, f0, f1, hB, hk⟩ := hR.facts
  have hc1 : l.length ≤ c := hB.2.2.1
  have hc2 : c ≤ 9223372036854775807 := hB.2.2.2.1
  have fin : ∀ (a' : Option Addr) (c' : Nat), Bs (fun b => k = some b) w a' (l.length - n) c' (l.drop n) → Bs (fun b => k = some b) (w.setCell ⟨g, 0, none⟩ (.slice a' (l.length - n) c')) a n c (l.take n) ∧ Reads g k w (l.drop n) e (w.setCell ⟨g, 0, none⟩ (.slice a' (l.length - n) c')) := by
    intro a' c' hs
    have K := (Kept.refl (fun j => j = g) w).setCell (p := ⟨g, 0, none⟩) (fun _ => rfl) (.slice a' (l.length - n) c')
    refine ⟨(hB.upto n hn).kept K (fun b _ hb e => hk (by rw [hb, e])), ⟨a', c', ?_, ?_, hk⟩, K⟩
    · rw [heap_setCell_same w g 0 _ _ _ hg, List.length_drop]
      rfl
    · rw [List.length_drop]
      exact hs.kept K (fun b _ hb e => hk (by rw [hb, e]))
  have Bf := hB.from n hn
  have HF := Lib.hid fin
  have HB := Lib.hid Bf
  clear hg hB hk hR fin Bf
  by_cases hcn : c = n
  · have hb := HB.out
    rw [if_pos hcn] at hb
    subst hcn
    rw [Nat.sub_self] at hb
    have HB2 := Lib.hid hb
    clear hb HB
    go_enter Try.func71, Try.ntmps71
    go_wp2
    go_ret
    have h := HF.out _ _ HB2.out
    rw [show l.length - c = 0 by omega] at h
    exact ⟨a, _, rfl, h⟩
  · have hb := HB.out
    rw [if_neg hcn] at hb
    have HB2 := Lib.hid hb
    clear hb HB
    go_enter Try.func71, Try.ntmps71
    go_wp2
    go_ret
    exact ⟨a, _, rfl, HF.out _ _ HB2.out⟩
end Go.Proofs.Ytbnodhcgdgcebaa

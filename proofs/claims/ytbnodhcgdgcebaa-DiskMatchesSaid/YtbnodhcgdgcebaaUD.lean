/-
  The law's prefix.
-/
import Derived.Test.YtbnodhcgdgcebaaU5
namespace Go.Proofs.Ytbnodhcgdgcebaa
open Go.RowKit
set_option linter.unusedSimpArgs false
set_option linter.unusedVariables false
/-- some first bytes of one, the rest of another -/
def Mix (b f l : List UInt8) : Prop := ∃ m, m ≤ 64 ∧ b = f.take m ++ l.drop m
theorem mix_at {b f l : List UInt8} (h : Mix b f l) (hf : f.length = 64) (i j : Nat) (hne : i < 64 → b[i]? ≠ f[i]?) (hij : i ≤ j) (hj : j < 64) : b[j]? = l[j]? := by
  obtain ⟨m, hm, rfl⟩ := h
  have hl : (f.take m).length = m := by rw [List.length_take]; omega
  by_cases hjm : m ≤ j
  · rw [List.getElem?_append_right (by omega), hl, List.getElem?_drop]
    congr 1; omega
  · refine absurd ?_ (hne (by omega))
    rw [List.getElem?_append_left (by omega), List.getElem?_take, if_pos (by omega)]
set_option maxRecDepth 100000 in
set_option maxHeartbeats 1600000 in
theorem prefix_any (D1 D2 D3 : Nat → Prop) (a1 : Option Addr) (c1 : Nat) (b : List UInt8) (a2 : Option Addr) (c2 : Nat) (f : List UInt8) (a3 : Option Addr) (c3 : Nat) (l : List UInt8) (w : World) (h1 : Bs D1 w a1 64 c1 b) (h2 : Bs D2 w a2 64 c2 f) (h3 : Bs D3 w a3 64 c3 l) :
    Calls Try.prog 28 #[.slice a1 64 c1, .slice a2 64 c2, .slice a3 64 c3] w fun e w' => ∃ X, e = .returned (.bool X) ∧ (Mix b f l → X = true) ∧ ∃ d, w' = w.drewN d := by
  have L1 := Lib.hid h1.1
  have L2 := Lib.hid h2.1
  have L3 := Lib.hid h3.1
  obtain ⟨b1, o1, -, -, rfl, k1⟩ := h1.cells (by omega)
  obtain ⟨b2, o2, -, -, rfl, k2⟩ := h2.cells (by omega)
  obtain ⟨b3, o3, -, -, rfl, k3⟩ := h3.cells (by omega)
  have m1 : 64 ≤ c1 ∧ c1 ≤ 9223372036854775807 := ⟨h1.2.2.1, h1.2.2.2.1⟩
  have m2 : 64 ≤ c2 ∧ c2 ≤ 9223372036854775807 := ⟨h2.2.2.1, h2.2.2.2.1⟩
  have m3 : 64 ≤ c3 ∧ c3 ≤ 9223372036854775807 := ⟨h3.2.2.1, h3.2.2.2.1⟩
  have n1 := m1.1
  have n2 := m2.1
  have n3 := m3.1
  have K1 := Lib.hid k1
  have K2 := Lib.hid k2
  have K3 := Lib.hid k3
  clear h1 h2 h3 k1 k2 k3 m1 m2 m3
  go_enter Try.func28, Try.ntmps28
  go_upto_region 2 with fail
  go_loopw [7] (fun t wr => ∃ i : Nat, i ≤ 64 ∧ t = .int .i64 (i : Int) ∧ b.take i = f.take i ∧ ∃ d, wr = w.drewN d) (fun t _ => 64 - (intOf t).toNat)
  case atStart => exact ⟨0, Nat.zero_le _, rfl, rfl, 0, rfl⟩
  case round =>
    obtain ⟨i, hi, rfl, htk, d, rfl⟩ := hrel
    have HTK := Lib.hid htk
    clear htk
    by_cases hlt : i < 64
    · have hl1 : i < b.length := by rw [L1.out]; exact hlt
      have hl2 : i < f.length := by rw [L2.out]; exact hlt
      have hx := K1.out i hl1
      have hy := K2.out i hl2
      have hlt2 : (i : Int) < 64 := by omega
      obtain ⟨x, hxx⟩ : ∃ x, x = b[i] := ⟨_, rfl⟩
      obtain ⟨y, hyy⟩ : ∃ y, y = f[i] := ⟨_, rfl⟩
      rw [← hxx] at hx
      rw [← hyy] at hy
      have Hx := Lib.hid hxx
      have Hy := Lib.hid hyy
      clear hxx hyy
      have hw1 : IntKind.i64.wrap ((i : Int) + 1) = (i : Int) + 1 := i64_id _ (by omega) (by omega)
      by_cases hxy : x = y
      · subst hxy
        -- CUT 1
        go_wp2
        go_quiet (fail)
        go_wp2
        go_roundw
        case rel => exact ⟨i + 1, by omega, by go_num, by rw [List.take_succ_eq_append_getElem hl1, List.take_succ_eq_append_getElem hl2, HTK.out, ← Hx.out, ← Hy.out], (by first | exact ⟨_, rfl⟩ | exact ⟨_, World.drewN_drewN _ _ _⟩)⟩
        case measure => simp [intOf] <;> omega
      · have hxy2 : ¬ ((x.toNat : Int) = (y.toNat : Int)) := fun e => hxy (UInt8.toNat_inj.1 (by omega))
        have HNE : Hid (i < 64 → b[i]? ≠ f[i]?) := Lib.hid (fun _ e => by
          rw [List.getElem?_eq_getElem hl1, List.getElem?_eq_getElem hl2, ← Hx.out, ← Hy.out] at e
          exact hxy (Option.some.inj e))
        go_wp2
        go_quiet (fail)
        go_upto_region 5 with fail
        go_loopw [8] (fun t wr => ∃ j : Nat, i ≤ j ∧ j ≤ 64 ∧ t = .int .i64 (j : Int) ∧ ∃ d, wr = w.drewN d) (fun t _ => 64 - (intOf t).toNat)
        case atStart => exact ⟨i, Nat.le_refl _, by omega, rfl, (by first | exact ⟨_, rfl⟩ | exact ⟨_, World.drewN_drewN _ _ _⟩)⟩
        case round =>
          obtain ⟨j, hij, hj, rfl, dd, rfl⟩ := hrel
          by_cases hjl : j < 64
          · have g1 : j < b.length := by rw [L1.out]; exact hjl
            have g2 : j < l.length := by rw [L3.out]; exact hjl
            have hz1 := K1.out j g1
            have hz2 := K3.out j g2
            have hjl2 : (j : Int) < 64 := by omega
            obtain ⟨z, hz⟩ : ∃ z, z = b[j] := ⟨_, rfl⟩
            obtain ⟨u, hu⟩ : ∃ u, u = l[j] := ⟨_, rfl⟩
            rw [← hz] at hz1
            rw [← hu] at hz2
            have Hz := Lib.hid hz
            have Hu := Lib.hid hu
            clear hz hu
            have hw2 : IntKind.i64.wrap ((j : Int) + 1) = (j : Int) + 1 := i64_id _ (by omega) (by omega)
            by_cases hzu : z = u
            · subst hzu
              go_wp2
              go_quiet (fail)
              go_wp2
              go_roundw
              case rel => exact ⟨j + 1, by omega, by omega, by go_num, (by first | exact ⟨_, rfl⟩ | exact ⟨_, World.drewN_drewN _ _ _⟩)⟩
              case measure => simp [intOf] <;> omega
            · have hzu2 : ¬ ((z.toNat : Int) = (u.toNat : Int)) := fun e => hzu (UInt8.toNat_inj.1 (by omega))
              have HNM : Hid (¬ Mix b f l) := Lib.hid (fun hm => by
                have e := mix_at hm L2.out i j HNE.out hij hjl
                rw [List.getElem?_eq_getElem g1, List.getElem?_eq_getElem g2, ← Hz.out, ← Hu.out] at e
                exact hzu (Option.some.inj e))
              go_wp2
              go_quiet (fail)
              go_wp2
              go_ret
              exact ⟨_, rfl, fun hm => absurd hm HNM.out, (by first | exact ⟨_, rfl⟩ | exact ⟨_, World.drewN_drewN _ _ _⟩)⟩
          · obtain rfl : j = 64 := by omega
            go_wp2
            go_ret
            exact ⟨_, rfl, fun _ => rfl, _, rfl⟩
    · obtain rfl : i = 64 := by omega
      have HNE : Hid ((64 : Nat) < 64 → b[64]? ≠ f[64]?) := Lib.hid (fun h => absurd h (by omega))
      go_wp2
      go_quiet (fail)
      go_upto_region 5 with fail
      go_loopw [8] (fun t wr => ∃ j : Nat, 64 ≤ j ∧ j ≤ 64 ∧ t = .int .i64 (j : Int) ∧ ∃ d, wr = w.drewN d) (fun t _ => 64 - (intOf t).toNat)
      case atStart => exact ⟨64, Nat.le_refl _, by omega, rfl, (by first | exact ⟨_, rfl⟩ | exact ⟨_, World.drewN_drewN _ _ _⟩)⟩
      case round =>
        obtain ⟨j, hij, hj, rfl, dd, rfl⟩ := hrel
        by_cases hjl : j < 64
        · exfalso; omega
        · obtain rfl : j = 64 := by omega
          go_wp2
          go_ret
          exact ⟨_, rfl, fun _ => rfl, _, rfl⟩
end Go.Proofs.Ytbnodhcgdgcebaa

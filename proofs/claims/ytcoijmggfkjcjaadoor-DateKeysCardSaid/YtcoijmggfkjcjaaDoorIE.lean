/-
  Easter Sunday, the program's and the reference's (written by gen_IE.py).
-/
import Derived.Test.YtcoijmggfkjcjaaDoorI5
namespace Go.Proofs.YtcoijmggfkjcjaaDoor
open Go.RowKit
set_option linter.unusedSimpArgs false
set_option linter.unusedVariables false
def eG (y : Int) : Int := y % 19 + 1
def eC (y : Int) : Int := y / 100 + 1
def eX (y : Int) : Int := 3 * eC y / 4 - 12
def eZ (y : Int) : Int := (8 * eC y + 5) / 25 - 5
def eD (y : Int) : Int := 5 * y / 4 - eX y - 10
def eE0 (y : Int) : Int := (11 * eG y + 20 + eZ y - eX y) % 30
def eE (y : Int) : Int := if eE0 y = 24 ∨ eE0 y = 25 ∧ 11 < eG y then eE0 y + 1 else eE0 y
def eN (y : Int) : Int := if 44 - eE y < 21 then 44 - eE y + 30 else 44 - eE y
/-- the day of March on which Easter Sunday is -/
def easterM (y : Int) : Int := eN y + 7 - (eD y + eN y) % 7
set_option maxRecDepth 100000 in
set_option maxHeartbeats 4000000 in
theorem easterMarch_any (y : Int) (w : World) (h1 : 1583 ≤ y) (h2 : y ≤ 9999) : Calls Tryd.prog 51 #[.int .i64 y] w fun e w' => e = .returned (.int .i64 (easterM y)) ∧ w = w' := by
  have HREM : Hid (∀ (a m : Int) u, -9223372036854775808 ≤ a → a ≤ 9223372036854775807 → 0 < m → m ≤ 1000 → Calls Tryd.prog 50 #[.int .i64 a, .int .i64 m] u fun e w' => e = .returned (.int .i64 (a % m)) ∧ u = w') := Lib.hid (fun a m u => remainder_any a m u)
  obtain ⟨g0, hg0⟩ : ∃ g0, g0 = y % 19 := ⟨_, rfl⟩
  have bg0 : 0 ≤ g0 ∧ g0 ≤ 18 := by omega
  have wg0 : y % 19 = g0 := hg0.symm
  obtain ⟨G, hG⟩ : ∃ G, G = g0 + 1 := ⟨_, rfl⟩
  have bG : 1 ≤ G ∧ G ≤ 19 := by omega
  have wG : IntKind.i64.wrap (g0 + 1) = G := by rw [hG]; exact i64_id _ (by omega) (by omega)
  obtain ⟨c0, hc0⟩ : ∃ c0, c0 = y / 100 := ⟨_, rfl⟩
  have bc0 : 15 ≤ c0 ∧ c0 ≤ 99 := by omega
  have wc0 : y / 100 = c0 := hc0.symm
  obtain ⟨C, hC⟩ : ∃ C, C = c0 + 1 := ⟨_, rfl⟩
  have bC : 16 ≤ C ∧ C ≤ 100 := by omega
  have wC : IntKind.i64.wrap (c0 + 1) = C := by rw [hC]; exact i64_id _ (by omega) (by omega)
  obtain ⟨a1, ha1⟩ : ∃ a1, a1 = 3 * C := ⟨_, rfl⟩
  have ba1 : 48 ≤ a1 ∧ a1 ≤ 300 := by omega
  have wa1 : IntKind.i64.wrap (3 * C) = a1 := by rw [ha1]; exact i64_id _ (by omega) (by omega)
  obtain ⟨a2, ha2⟩ : ∃ a2, a2 = a1 / 4 := ⟨_, rfl⟩
  have ba2 : 12 ≤ a2 ∧ a2 ≤ 75 := by omega
  have wa2 : a1 / 4 = a2 := ha2.symm
  obtain ⟨X, hX⟩ : ∃ X, X = a2 - 12 := ⟨_, rfl⟩
  have bX : 0 ≤ X ∧ X ≤ 63 := by omega
  have wX : IntKind.i64.wrap (a2 - 12) = X := by rw [hX]; exact i64_id _ (by omega) (by omega)
  obtain ⟨b1, hb1⟩ : ∃ b1, b1 = 8 * C := ⟨_, rfl⟩
  have bb1 : 128 ≤ b1 ∧ b1 ≤ 800 := by omega
  have wb1 : IntKind.i64.wrap (8 * C) = b1 := by rw [hb1]; exact i64_id _ (by omega) (by omega)
  obtain ⟨b2, hb2⟩ : ∃ b2, b2 = b1 + 5 := ⟨_, rfl⟩
  have bb2 : 133 ≤ b2 ∧ b2 ≤ 805 := by omega
  have wb2 : IntKind.i64.wrap (b1 + 5) = b2 := by rw [hb2]; exact i64_id _ (by omega) (by omega)
  obtain ⟨b3, hb3⟩ : ∃ b3, b3 = b2 / 25 := ⟨_, rfl⟩
  have bb3 : 5 ≤ b3 ∧ b3 ≤ 32 := by omega
  have wb3 : b2 / 25 = b3 := hb3.symm
  obtain ⟨Z, hZ⟩ : ∃ Z, Z = b3 - 5 := ⟨_, rfl⟩
  have bZ : 0 ≤ Z ∧ Z ≤ 27 := by omega
  have wZ : IntKind.i64.wrap (b3 - 5) = Z := by rw [hZ]; exact i64_id _ (by omega) (by omega)
  obtain ⟨d1, hd1⟩ : ∃ d1, d1 = 5 * y := ⟨_, rfl⟩
  have bd1 : 7915 ≤ d1 ∧ d1 ≤ 49995 := by omega
  have wd1 : IntKind.i64.wrap (5 * y) = d1 := by rw [hd1]; exact i64_id _ (by omega) (by omega)
  obtain ⟨d2, hd2⟩ : ∃ d2, d2 = d1 / 4 := ⟨_, rfl⟩
  have bd2 : 1978 ≤ d2 ∧ d2 ≤ 12498 := by omega
  have wd2 : d1 / 4 = d2 := hd2.symm
  obtain ⟨d3, hd3⟩ : ∃ d3, d3 = d2 - X := ⟨_, rfl⟩
  have bd3 : 1915 ≤ d3 ∧ d3 ≤ 12498 := by omega
  have wd3 : IntKind.i64.wrap (d2 - X) = d3 := by rw [hd3]; exact i64_id _ (by omega) (by omega)
  obtain ⟨D, hD⟩ : ∃ D, D = d3 - 10 := ⟨_, rfl⟩
  have bD : 1905 ≤ D ∧ D ≤ 12488 := by omega
  have wD : IntKind.i64.wrap (d3 - 10) = D := by rw [hD]; exact i64_id _ (by omega) (by omega)
  obtain ⟨e1, he1⟩ : ∃ e1, e1 = 11 * G := ⟨_, rfl⟩
  have be1 : 11 ≤ e1 ∧ e1 ≤ 209 := by omega
  have we1 : IntKind.i64.wrap (11 * G) = e1 := by rw [he1]; exact i64_id _ (by omega) (by omega)
  obtain ⟨e2, he2⟩ : ∃ e2, e2 = e1 + 20 := ⟨_, rfl⟩
  have be2 : 31 ≤ e2 ∧ e2 ≤ 229 := by omega
  have we2 : IntKind.i64.wrap (e1 + 20) = e2 := by rw [he2]; exact i64_id _ (by omega) (by omega)
  obtain ⟨e3, he3⟩ : ∃ e3, e3 = e2 + Z := ⟨_, rfl⟩
  have be3 : 31 ≤ e3 ∧ e3 ≤ 256 := by omega
  have we3 : IntKind.i64.wrap (e2 + Z) = e3 := by rw [he3]; exact i64_id _ (by omega) (by omega)
  obtain ⟨e4, he4⟩ : ∃ e4, e4 = e3 - X := ⟨_, rfl⟩
  have be4 : -32 ≤ e4 ∧ e4 ≤ 256 := by omega
  have we4 : IntKind.i64.wrap (e3 - X) = e4 := by rw [he4]; exact i64_id _ (by omega) (by omega)
  obtain ⟨E0, hE0⟩ : ∃ E0, E0 = e4 % 30 := ⟨_, rfl⟩
  have bE0 : 0 ≤ E0 ∧ E0 ≤ 29 := by omega
  have wE0 : e4 % 30 = E0 := hE0.symm
  have qG : eG y = G := by unfold eG; omega
  have qC : eC y = C := by unfold eC; omega
  have qX : eX y = X := by unfold eX; rw [qC]; omega
  have qZ : eZ y = Z := by unfold eZ; rw [qC]; omega
  have qD : eD y = D := by unfold eD; rw [qX]; omega
  have qE : eE0 y = E0 := by unfold eE0; rw [qG, qZ, qX]; rw [hE0]; congr 1; omega
  by_cases k24 : E0 = 24
  · obtain ⟨N1, hN0⟩ : ∃ N1, N1 = 44 - (E0 + 1) := ⟨_, rfl⟩
    by_cases hsm : N1 < 21
    · obtain ⟨E1, hE1⟩ : ∃ E1, E1 = E0 + 1 := ⟨_, rfl⟩
      have wE1 : IntKind.i64.wrap (E0 + 1) = E1 := by rw [hE1]; exact i64_id _ (by omega) (by omega)
      have hN1 : N1 = 44 - E1 := by omega
      have wN1 : IntKind.i64.wrap (44 - E1) = N1 := by rw [hN1]; exact i64_id _ (by omega) (by omega)
      obtain ⟨N2, hN2⟩ : ∃ N2, N2 = N1 + 30 := ⟨_, rfl⟩
      have wN2 : IntKind.i64.wrap (N1 + 30) = N2 := by rw [hN2]; exact i64_id _ (by omega) (by omega)
      obtain ⟨n3, hn3⟩ : ∃ n3, n3 = N2 + 7 := ⟨_, rfl⟩
      have wn3 : IntKind.i64.wrap (N2 + 7) = n3 := by rw [hn3]; exact i64_id _ (by omega) (by omega)
      obtain ⟨s1, hs1⟩ : ∃ s1, s1 = D + N2 := ⟨_, rfl⟩
      have ws1 : IntKind.i64.wrap (D + N2) = s1 := by rw [hs1]; exact i64_id _ (by omega) (by omega)
      have bs1 : 0 ≤ s1 ∧ s1 ≤ 20000 := by omega
      obtain ⟨r7, hr7⟩ : ∃ r7, r7 = s1 % 7 := ⟨_, rfl⟩
      have wr7 : s1 % 7 = r7 := hr7.symm
      obtain ⟨N, hN⟩ : ∃ N, N = n3 - r7 := ⟨_, rfl⟩
      have wN : IntKind.i64.wrap (n3 - r7) = N := by rw [hN]; exact i64_id _ (by omega) (by omega)
      have HE : Hid (easterM y = N) := Lib.hid (by
        have q1 : eE y = E1 := by unfold eE; rw [qG, qE, if_pos (by omega)]; omega
        have q2 : eN y = N2 := by unfold eN; rw [q1, if_pos (by omega)]; omega
        unfold easterM; rw [qD, q2, ← hs1]; omega)
      have HNX : Hid (N = 44 - (E0 + 1) + 30 + 7 - (D + (44 - (E0 + 1) + 30)) % 7) := Lib.hid (by omega)
      clear hg0 hG hc0 hC ha1 ha2 hX hb1 hb2 hb3 hZ hd1 hd2 hd3 hD he1 he2 he3 he4 hE0 qG qC qX qZ qD qE hN1 hn3 hs1 hr7 hN hE1 hN2
      clear hN0
      go_enter Tryd.func51, Tryd.ntmps51
      go_wp2_with (go_at_call 50; refine (HREM.out _ _ _ (by omega) (by omega) (by omega) (by omega)).mono ?_; rintro e w1 ⟨rfl, rfl⟩)
      go_ret
      exact ⟨ret_intD (by have h := HE.out; have h2 := HNX.out; omega), rfl⟩
    · exfalso; omega
  · by_cases k25 : E0 = 25
    · by_cases kG : 11 < G
      · obtain ⟨N1, hN0⟩ : ∃ N1, N1 = 44 - (E0 + 1) := ⟨_, rfl⟩
        by_cases hsm : N1 < 21
        · obtain ⟨E1, hE1⟩ : ∃ E1, E1 = E0 + 1 := ⟨_, rfl⟩
          have wE1 : IntKind.i64.wrap (E0 + 1) = E1 := by rw [hE1]; exact i64_id _ (by omega) (by omega)
          have hN1 : N1 = 44 - E1 := by omega
          have wN1 : IntKind.i64.wrap (44 - E1) = N1 := by rw [hN1]; exact i64_id _ (by omega) (by omega)
          obtain ⟨N2, hN2⟩ : ∃ N2, N2 = N1 + 30 := ⟨_, rfl⟩
          have wN2 : IntKind.i64.wrap (N1 + 30) = N2 := by rw [hN2]; exact i64_id _ (by omega) (by omega)
          obtain ⟨n3, hn3⟩ : ∃ n3, n3 = N2 + 7 := ⟨_, rfl⟩
          have wn3 : IntKind.i64.wrap (N2 + 7) = n3 := by rw [hn3]; exact i64_id _ (by omega) (by omega)
          obtain ⟨s1, hs1⟩ : ∃ s1, s1 = D + N2 := ⟨_, rfl⟩
          have ws1 : IntKind.i64.wrap (D + N2) = s1 := by rw [hs1]; exact i64_id _ (by omega) (by omega)
          have bs1 : 0 ≤ s1 ∧ s1 ≤ 20000 := by omega
          obtain ⟨r7, hr7⟩ : ∃ r7, r7 = s1 % 7 := ⟨_, rfl⟩
          have wr7 : s1 % 7 = r7 := hr7.symm
          obtain ⟨N, hN⟩ : ∃ N, N = n3 - r7 := ⟨_, rfl⟩
          have wN : IntKind.i64.wrap (n3 - r7) = N := by rw [hN]; exact i64_id _ (by omega) (by omega)
          have HE : Hid (easterM y = N) := Lib.hid (by
            have q1 : eE y = E1 := by unfold eE; rw [qG, qE, if_pos (by omega)]; omega
            have q2 : eN y = N2 := by unfold eN; rw [q1, if_pos (by omega)]; omega
            unfold easterM; rw [qD, q2, ← hs1]; omega)
          have HNX : Hid (N = 44 - (E0 + 1) + 30 + 7 - (D + (44 - (E0 + 1) + 30)) % 7) := Lib.hid (by omega)
          clear hg0 hG hc0 hC ha1 ha2 hX hb1 hb2 hb3 hZ hd1 hd2 hd3 hD he1 he2 he3 he4 hE0 qG qC qX qZ qD qE hN1 hn3 hs1 hr7 hN hE1 hN2
          clear hN0
          go_enter Tryd.func51, Tryd.ntmps51
          go_wp2_with (go_at_call 50; refine (HREM.out _ _ _ (by omega) (by omega) (by omega) (by omega)).mono ?_; rintro e w1 ⟨rfl, rfl⟩)
          go_ret
          exact ⟨ret_intD (by have h := HE.out; have h2 := HNX.out; omega), rfl⟩
        · exfalso; omega
      · obtain ⟨N1, hN0⟩ : ∃ N1, N1 = 44 - E0 := ⟨_, rfl⟩
        by_cases hsm : N1 < 21
        · have hN1 : N1 = 44 - E0 := by omega
          have wN1 : IntKind.i64.wrap (44 - E0) = N1 := by rw [hN1]; exact i64_id _ (by omega) (by omega)
          obtain ⟨N2, hN2⟩ : ∃ N2, N2 = N1 + 30 := ⟨_, rfl⟩
          have wN2 : IntKind.i64.wrap (N1 + 30) = N2 := by rw [hN2]; exact i64_id _ (by omega) (by omega)
          obtain ⟨n3, hn3⟩ : ∃ n3, n3 = N2 + 7 := ⟨_, rfl⟩
          have wn3 : IntKind.i64.wrap (N2 + 7) = n3 := by rw [hn3]; exact i64_id _ (by omega) (by omega)
          obtain ⟨s1, hs1⟩ : ∃ s1, s1 = D + N2 := ⟨_, rfl⟩
          have ws1 : IntKind.i64.wrap (D + N2) = s1 := by rw [hs1]; exact i64_id _ (by omega) (by omega)
          have bs1 : 0 ≤ s1 ∧ s1 ≤ 20000 := by omega
          obtain ⟨r7, hr7⟩ : ∃ r7, r7 = s1 % 7 := ⟨_, rfl⟩
          have wr7 : s1 % 7 = r7 := hr7.symm
          obtain ⟨N, hN⟩ : ∃ N, N = n3 - r7 := ⟨_, rfl⟩
          have wN : IntKind.i64.wrap (n3 - r7) = N := by rw [hN]; exact i64_id _ (by omega) (by omega)
          have HE : Hid (easterM y = N) := Lib.hid (by
            have q1 : eE y = E0 := by unfold eE; rw [qG, qE, if_neg (by omega)]
            have q2 : eN y = N2 := by unfold eN; rw [q1, if_pos (by omega)]; omega
            unfold easterM; rw [qD, q2, ← hs1]; omega)
          have HNX : Hid (N = 44 - E0 + 30 + 7 - (D + (44 - E0 + 30)) % 7) := Lib.hid (by omega)
          clear hg0 hG hc0 hC ha1 ha2 hX hb1 hb2 hb3 hZ hd1 hd2 hd3 hD he1 he2 he3 he4 hE0 qG qC qX qZ qD qE hN1 hn3 hs1 hr7 hN hN2
          clear hN0
          go_enter Tryd.func51, Tryd.ntmps51
          go_wp2_with (go_at_call 50; refine (HREM.out _ _ _ (by omega) (by omega) (by omega) (by omega)).mono ?_; rintro e w1 ⟨rfl, rfl⟩)
          go_ret
          exact ⟨ret_intD (by have h := HE.out; have h2 := HNX.out; omega), rfl⟩
        · exfalso; omega
    · obtain ⟨N1, hN0⟩ : ∃ N1, N1 = 44 - E0 := ⟨_, rfl⟩
      by_cases hsm : N1 < 21
      · have hN1 : N1 = 44 - E0 := by omega
        have wN1 : IntKind.i64.wrap (44 - E0) = N1 := by rw [hN1]; exact i64_id _ (by omega) (by omega)
        obtain ⟨N2, hN2⟩ : ∃ N2, N2 = N1 + 30 := ⟨_, rfl⟩
        have wN2 : IntKind.i64.wrap (N1 + 30) = N2 := by rw [hN2]; exact i64_id _ (by omega) (by omega)
        obtain ⟨n3, hn3⟩ : ∃ n3, n3 = N2 + 7 := ⟨_, rfl⟩
        have wn3 : IntKind.i64.wrap (N2 + 7) = n3 := by rw [hn3]; exact i64_id _ (by omega) (by omega)
        obtain ⟨s1, hs1⟩ : ∃ s1, s1 = D + N2 := ⟨_, rfl⟩
        have ws1 : IntKind.i64.wrap (D + N2) = s1 := by rw [hs1]; exact i64_id _ (by omega) (by omega)
        have bs1 : 0 ≤ s1 ∧ s1 ≤ 20000 := by omega
        obtain ⟨r7, hr7⟩ : ∃ r7, r7 = s1 % 7 := ⟨_, rfl⟩
        have wr7 : s1 % 7 = r7 := hr7.symm
        obtain ⟨N, hN⟩ : ∃ N, N = n3 - r7 := ⟨_, rfl⟩
        have wN : IntKind.i64.wrap (n3 - r7) = N := by rw [hN]; exact i64_id _ (by omega) (by omega)
        have HE : Hid (easterM y = N) := Lib.hid (by
          have q1 : eE y = E0 := by unfold eE; rw [qG, qE, if_neg (by omega)]
          have q2 : eN y = N2 := by unfold eN; rw [q1, if_pos (by omega)]; omega
          unfold easterM; rw [qD, q2, ← hs1]; omega)
        have HNX : Hid (N = 44 - E0 + 30 + 7 - (D + (44 - E0 + 30)) % 7) := Lib.hid (by omega)
        clear hg0 hG hc0 hC ha1 ha2 hX hb1 hb2 hb3 hZ hd1 hd2 hd3 hD he1 he2 he3 he4 hE0 qG qC qX qZ qD qE hN1 hn3 hs1 hr7 hN hN2
        clear hN0
        go_enter Tryd.func51, Tryd.ntmps51
        go_wp2_with (go_at_call 50; refine (HREM.out _ _ _ (by omega) (by omega) (by omega) (by omega)).mono ?_; rintro e w1 ⟨rfl, rfl⟩)
        go_ret
        exact ⟨ret_intD (by have h := HE.out; have h2 := HNX.out; omega), rfl⟩
      · have hN1 : N1 = 44 - E0 := by omega
        have wN1 : IntKind.i64.wrap (44 - E0) = N1 := by rw [hN1]; exact i64_id _ (by omega) (by omega)
        obtain ⟨n3, hn3⟩ : ∃ n3, n3 = N1 + 7 := ⟨_, rfl⟩
        have wn3 : IntKind.i64.wrap (N1 + 7) = n3 := by rw [hn3]; exact i64_id _ (by omega) (by omega)
        obtain ⟨s1, hs1⟩ : ∃ s1, s1 = D + N1 := ⟨_, rfl⟩
        have ws1 : IntKind.i64.wrap (D + N1) = s1 := by rw [hs1]; exact i64_id _ (by omega) (by omega)
        have bs1 : 0 ≤ s1 ∧ s1 ≤ 20000 := by omega
        obtain ⟨r7, hr7⟩ : ∃ r7, r7 = s1 % 7 := ⟨_, rfl⟩
        have wr7 : s1 % 7 = r7 := hr7.symm
        obtain ⟨N, hN⟩ : ∃ N, N = n3 - r7 := ⟨_, rfl⟩
        have wN : IntKind.i64.wrap (n3 - r7) = N := by rw [hN]; exact i64_id _ (by omega) (by omega)
        have HE : Hid (easterM y = N) := Lib.hid (by
          have q1 : eE y = E0 := by unfold eE; rw [qG, qE, if_neg (by omega)]
          have q2 : eN y = N1 := by unfold eN; rw [q1, if_neg (by omega)]; omega
          unfold easterM; rw [qD, q2, ← hs1]; omega)
        have HNX : Hid (N = 44 - E0 + 7 - (D + (44 - E0)) % 7) := Lib.hid (by omega)
        clear hg0 hG hc0 hC ha1 ha2 hX hb1 hb2 hb3 hZ hd1 hd2 hd3 hD he1 he2 he3 he4 hE0 qG qC qX qZ qD qE hN1 hn3 hs1 hr7 hN
        clear hN0
        go_enter Tryd.func51, Tryd.ntmps51
        go_wp2_with (go_at_call 50; refine (HREM.out _ _ _ (by omega) (by omega) (by omega) (by omega)).mono ?_; rintro e w1 ⟨rfl, rfl⟩)
        go_ret
        exact ⟨ret_intD (by have h := HE.out; have h2 := HNX.out; omega), rfl⟩
def easOk (y : Int) : Prop := 1583 ≤ y ∧ y ≤ 9999
instance (y : Int) : Decidable (easOk y) := inferInstanceAs (Decidable (_ ∧ _))
def easR (y : Int) : Int := if easOk y then dayN y 3 1 + easterM y - 1 else 0
def easE (y : Int) : Int := if easOk y then 0 else 5
theorem easM_bd (y : Int) : -8 ≤ easterM y ∧ easterM y ≤ 100 := by
  unfold easterM
  have h0 : 0 ≤ eE0 y ∧ eE0 y < 30 := by unfold eE0; omega
  have h1 : 0 ≤ eE y ∧ eE y ≤ 30 := by unfold eE; split <;> omega
  have h2 : 14 ≤ eN y ∧ eN y ≤ 50 := by unfold eN; split <;> omega
  omega
theorem march1 {y : Int} (h : easOk y) : validD y 3 1 := by
  refine ⟨by have := h.1; omega, h.2, by omega, ?_⟩
  have := len_pos y 3 (by omega) (by omega)
  omega
theorem ret_tup {a b c : Int} (h : a = b) : Ending.returned (.tuple #[.int .i64 a, .int .i64 c]) = .returned (.tuple #[.int .i64 b, .int .i64 c]) := by rw [h]
set_option maxRecDepth 100000 in
set_option maxHeartbeats 1000000 in
theorem easter_any (y : Int) (w : World) (hT : Tabs w) : Calls Tryd.prog 32 #[.int .i64 y] w fun e w' => e = .returned (.tuple #[.int .i64 (easR y), .int .i64 (easE y)]) ∧ Below w.heap.size w w' := by
  by_cases hy : easOk y
  · have hv := march1 hy
    have hr := day_rng hv
    have hm := easM_bd y
    have HR : Hid (easR y = dayN y 3 1 + easterM y - 1 ∧ easE y = 0) := Lib.hid (by unfold easR easE; rw [if_pos hy, if_pos hy]; exact ⟨rfl, rfl⟩)
    have hd := day_any y 3 1 w hT
    have e1 : dayR y 3 1 = dayN y 3 1 := by unfold dayR; rw [if_pos hv]
    rw [chk_ok hv, e1] at hd
    have HD := Lib.hid hd
    have HM : Hid (∀ u, Calls Tryd.prog 51 #[.int .i64 y] u fun e w' => e = .returned (.int .i64 (easterM y)) ∧ u = w') := Lib.hid (fun u => easterMarch_any y u hy.1 hy.2)
    obtain ⟨h1, h2⟩ := hy
    obtain ⟨dn, hdn⟩ : ∃ dn, dn = dayN y 3 1 := ⟨_, rfl⟩
    obtain ⟨em, hem⟩ : ∃ em, em = easterM y := ⟨_, rfl⟩
    rw [← hdn] at hr HD HR
    rw [← hem] at hm HM HR
    have w1 : IntKind.i64.wrap (dn + em) = dn + em := i64_id _ (by omega) (by omega)
    have w2 : IntKind.i64.wrap (dn + em - 1) = dn + em - 1 := i64_id _ (by omega) (by omega)
    clear hv hd e1 hdn hem hT
    go_enter Tryd.func32, Tryd.ntmps32
    go_wp2_with (first
      | (go_at_call 16; refine HD.out.mono ?_; rintro e w1 ⟨rfl, hb⟩; have HB := Lib.hid hb; clear hb)
      | (go_at_call 51; refine (HM.out _).mono ?_; rintro e w2 ⟨rfl, rfl⟩))
    go_ret2
    rw [HR.out.1, HR.out.2]
    exact ⟨rfl, HB.out⟩
  · have HR : Hid (easR y = 0 ∧ easE y = 5) := Lib.hid (by unfold easR easE; rw [if_neg hy, if_neg hy]; exact ⟨rfl, rfl⟩)
    by_cases h1 : y < 1583
    · clear hy hT
      go_enter Tryd.func32, Tryd.ntmps32
      go_wp2_with fail
      go_ret2
      rw [HR.out.1, HR.out.2]
      exact ⟨rfl, Below.refl _ _⟩
    · have h2 : 9999 < y := by unfold easOk at hy; omega
      clear hy hT
      go_enter Tryd.func32, Tryd.ntmps32
      go_wp2_with fail
      go_ret2
      rw [HR.out.1, HR.out.2]
      exact ⟨rfl, Below.refl _ _⟩
end Go.Proofs.YtcoijmggfkjcjaaDoor

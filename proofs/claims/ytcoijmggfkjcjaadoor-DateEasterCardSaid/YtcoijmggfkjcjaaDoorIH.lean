/-
  Easter Sunday, the reference's: the sum below zero (written by gen_IE.py).
-/
import Derived.Test.YtcoijmggfkjcjaaDoorIE
namespace Go.Proofs.YtcoijmggfkjcjaaDoor
open Go.RowKit
set_option linter.unusedSimpArgs false
set_option linter.unusedVariables false
theorem zx_lo (y : Int) (h : easOk y) : -36 ≤ eZ y - eX y := by
  obtain ⟨h1, h2⟩ := h
  unfold eZ eX eC
  omega
theorem neg5 {e G Z X : Int} (h : e = 11 * G + 20 + Z - X) (hG : 1 ≤ G) (hz : -36 ≤ Z - X) : -5 ≤ e := by omega
theorem neg_tm {e : Int} (h5 : -5 ≤ e) (h : e < 0) : e.tmod 30 = e := by
  obtain ⟨p, hp⟩ : ∃ p, p = -e := ⟨_, rfl⟩
  have e1 : e = -p := by omega
  rw [e1, Int.neg_tmod, Int.tmod_eq_emod_of_nonneg (by omega)]
  omega
theorem neg_em {e : Int} (h5 : -5 ≤ e) (h : e < 0) : e % 30 = e + 30 := by omega
theorem neg24 {e E : Int} (h : E = e + 30) (h5 : -5 ≤ e) (k : E = 24) : False := by omega
theorem negG {e E G Z X : Int} (h : E = e + 30) (h4 : e = 11 * G + 20 + Z - X) (hz : -36 ≤ Z - X) (k : E = 25) (kG : 11 < G) : False := by omega
theorem negN {e E N : Int} (h : E = e + 30) (h5 : -5 ≤ e) (hN : N = 44 - E) (hs : ¬ N < 21) : False := by omega
set_option maxRecDepth 100000 in
set_option maxHeartbeats 8000000 in
theorem refEaster_neg (y : Int) (w : World) (hy : easOk y) (hsg : 11 * eG y + 20 + eZ y - eX y < 0) : Calls Tryd.prog 33 #[.int .i64 y] w fun e w' => e = .returned (.tuple #[.int .i64 (easR y), .int .i64 0]) ∧ Below w.heap.size w w' := by
  have hv := march1 hy
  have hr := day_rng hv
  have HEA : Hid (easR y = dayN y 3 1 + easterM y - 1) := Lib.hid (by unfold easR; rw [if_pos hy])
  have HNUM : Hid (∀ u, Calls Tryd.prog 45 #[.agg #[.int .i64 y, .int .i64 3, .int .i64 1]] u fun e w' => e = .returned (.int .i64 (dayN y 3 1)) ∧ Below u.heap.size u w') := Lib.hid (fun u => number_any y 3 1 u hv)
  obtain ⟨dn, hdn⟩ : ∃ dn, dn = dayN y 3 1 := ⟨_, rfl⟩
  rw [← hdn] at hr HNUM HEA
  obtain ⟨h1, h2⟩ := hy
  clear hv hdn
  obtain ⟨g0, hg0⟩ : ∃ g0, g0 = y % 19 := ⟨_, rfl⟩
  have bg0 : 0 ≤ g0 ∧ g0 ≤ 18 := by omega
  have wg0 : y % 19 = g0 := hg0.symm
  obtain ⟨G, hG⟩ : ∃ G, G = g0 + 1 := ⟨_, rfl⟩
  have bG : 1 ≤ G ∧ G ≤ 19 := by omega
  have wG : IntKind.i64.wrap (g0 + 1) = G := by rw [hG]; exact i64_id _ (by omega) (by omega)
  obtain ⟨c0, hc0⟩ : ∃ c0, c0 = y / 100 := ⟨_, rfl⟩
  have bc0 : 15 ≤ c0 ∧ c0 ≤ 99 := by omega
  have wc0 : y / 100 = c0 := hc0.symm
  obtain ⟨C, hC⟩ : ∃ C, C = c0 + 1 := ⟨_, rfl⟩
  have bC : 16 ≤ C ∧ C ≤ 100 := by omega
  have wC : IntKind.i64.wrap (c0 + 1) = C := by rw [hC]; exact i64_id _ (by omega) (by omega)
  obtain ⟨a1, ha1⟩ : ∃ a1, a1 = 3 * C := ⟨_, rfl⟩
  have ba1 : 48 ≤ a1 ∧ a1 ≤ 300 := by omega
  have wa1 : IntKind.i64.wrap (3 * C) = a1 := by rw [ha1]; exact i64_id _ (by omega) (by omega)
  obtain ⟨a2, ha2⟩ : ∃ a2, a2 = a1 / 4 := ⟨_, rfl⟩
  have ba2 : 12 ≤ a2 ∧ a2 ≤ 75 := by omega
  have wa2 : a1 / 4 = a2 := ha2.symm
  obtain ⟨X, hX⟩ : ∃ X, X = a2 - 12 := ⟨_, rfl⟩
  have bX : 0 ≤ X ∧ X ≤ 63 := by omega
  have wX : IntKind.i64.wrap (a2 - 12) = X := by rw [hX]; exact i64_id _ (by omega) (by omega)
  obtain ⟨b1, hb1⟩ : ∃ b1, b1 = 8 * C := ⟨_, rfl⟩
  have bb1 : 128 ≤ b1 ∧ b1 ≤ 800 := by omega
  have wb1 : IntKind.i64.wrap (8 * C) = b1 := by rw [hb1]; exact i64_id _ (by omega) (by omega)
  obtain ⟨b2, hb2⟩ : ∃ b2, b2 = b1 + 5 := ⟨_, rfl⟩
  have bb2 : 133 ≤ b2 ∧ b2 ≤ 805 := by omega
  have wb2 : IntKind.i64.wrap (b1 + 5) = b2 := by rw [hb2]; exact i64_id _ (by omega) (by omega)
  obtain ⟨b3, hb3⟩ : ∃ b3, b3 = b2 / 25 := ⟨_, rfl⟩
  have bb3 : 5 ≤ b3 ∧ b3 ≤ 32 := by omega
  have wb3 : b2 / 25 = b3 := hb3.symm
  obtain ⟨Z, hZ⟩ : ∃ Z, Z = b3 - 5 := ⟨_, rfl⟩
  have bZ : 0 ≤ Z ∧ Z ≤ 27 := by omega
  have wZ : IntKind.i64.wrap (b3 - 5) = Z := by rw [hZ]; exact i64_id _ (by omega) (by omega)
  obtain ⟨d1, hd1⟩ : ∃ d1, d1 = 5 * y := ⟨_, rfl⟩
  have bd1 : 7915 ≤ d1 ∧ d1 ≤ 49995 := by omega
  have wd1 : IntKind.i64.wrap (5 * y) = d1 := by rw [hd1]; exact i64_id _ (by omega) (by omega)
  obtain ⟨d2, hd2⟩ : ∃ d2, d2 = d1 / 4 := ⟨_, rfl⟩
  have bd2 : 1978 ≤ d2 ∧ d2 ≤ 12498 := by omega
  have wd2 : d1 / 4 = d2 := hd2.symm
  obtain ⟨d3, hd3⟩ : ∃ d3, d3 = d2 - X := ⟨_, rfl⟩
  have bd3 : 1915 ≤ d3 ∧ d3 ≤ 12498 := by omega
  have wd3 : IntKind.i64.wrap (d2 - X) = d3 := by rw [hd3]; exact i64_id _ (by omega) (by omega)
  obtain ⟨D, hD⟩ : ∃ D, D = d3 - 10 := ⟨_, rfl⟩
  have bD : 1905 ≤ D ∧ D ≤ 12488 := by omega
  have wD : IntKind.i64.wrap (d3 - 10) = D := by rw [hD]; exact i64_id _ (by omega) (by omega)
  obtain ⟨e1, he1⟩ : ∃ e1, e1 = 11 * G := ⟨_, rfl⟩
  have be1 : 11 ≤ e1 ∧ e1 ≤ 209 := by omega
  have we1 : IntKind.i64.wrap (11 * G) = e1 := by rw [he1]; exact i64_id _ (by omega) (by omega)
  obtain ⟨e2, he2⟩ : ∃ e2, e2 = e1 + 20 := ⟨_, rfl⟩
  have be2 : 31 ≤ e2 ∧ e2 ≤ 229 := by omega
  have we2 : IntKind.i64.wrap (e1 + 20) = e2 := by rw [he2]; exact i64_id _ (by omega) (by omega)
  obtain ⟨e3, he3⟩ : ∃ e3, e3 = e2 + Z := ⟨_, rfl⟩
  have be3 : 31 ≤ e3 ∧ e3 ≤ 256 := by omega
  have we3 : IntKind.i64.wrap (e2 + Z) = e3 := by rw [he3]; exact i64_id _ (by omega) (by omega)
  obtain ⟨e4, he4⟩ : ∃ e4, e4 = e3 - X := ⟨_, rfl⟩
  have be4 : -32 ≤ e4 ∧ e4 ≤ 256 := by omega
  have we4 : IntKind.i64.wrap (e3 - X) = e4 := by rw [he4]; exact i64_id _ (by omega) (by omega)
  obtain ⟨E0, hE0⟩ : ∃ E0, E0 = e4 % 30 := ⟨_, rfl⟩
  have bE0 : 0 ≤ E0 ∧ E0 ≤ 29 := by omega
  have wE0 : e4 % 30 = E0 := hE0.symm
  have qG : eG y = G := by unfold eG; omega
  have qC : eC y = C := by unfold eC; omega
  have qX : eX y = X := by unfold eX; rw [qC]; omega
  have qZ : eZ y = Z := by unfold eZ; rw [qC]; omega
  have qD : eD y = D := by unfold eD; rw [qX]; omega
  have qE : eE0 y = E0 := by unfold eE0; rw [qG, qZ, qX]; rw [hE0]; congr 1; omega
  have he4e : e4 = 11 * G + 20 + Z - X := by rw [he4, he3, he2, he1]
  have hzx := zx_lo y ⟨h1, h2⟩
  rw [qG, qZ, qX, ← he4e] at hsg
  rw [qZ, qX] at hzx
  have hq5 : -5 ≤ e4 := neg5 he4e bG.1 hzx
  obtain ⟨rr, hrr⟩ : ∃ rr, rr = e4 := ⟨_, rfl⟩
  have hq1 : e4.tmod 30 = rr := by rw [hrr]; exact neg_tm hq5 hsg
  have hq6 : rr < 0 := by rw [hrr]; exact hsg
  have hq2 : E0 = e4 + 30 := by rw [hE0]; exact neg_em hq5 hsg
  have hq3 : IntKind.i64.wrap (rr + 30) = E0 := by rw [hrr, ← hq2]; exact i64_id _ (Int.le_trans (by decide) bE0.1) (Int.le_trans bE0.2 (by decide))
  have hq4 : IntKind.i64.wrap rr = rr := by rw [hrr]; exact i64_id _ (Int.le_trans (by decide) hq5) (Int.le_trans be4.2 (by decide))
  have HQ2 := Lib.hid hq2
  have HZX := Lib.hid hzx
  have HE4 := Lib.hid he4e
  have HQ5 := Lib.hid hq5
  clear hq2 hzx he4e hrr hsg hq5
  by_cases k24 : E0 = 24
  · exact (neg24 HQ2.out HQ5.out k24).elim
  · by_cases k25 : E0 = 25
    · by_cases kG : 11 < G
      · exact (negG HQ2.out HE4.out HZX.out k25 kG).elim
      · obtain ⟨N1, hN0⟩ : ∃ N1, N1 = 44 - E0 := ⟨_, rfl⟩
        by_cases hsm : N1 < 21
        · have hN1 : N1 = 44 - E0 := by omega
          have wN1 : IntKind.i64.wrap (44 - E0) = N1 := by rw [hN1]; exact i64_id _ (by omega) (by omega)
          obtain ⟨N2, hN2⟩ : ∃ N2, N2 = N1 + 30 := ⟨_, rfl⟩
          have wN2 : IntKind.i64.wrap (N1 + 30) = N2 := by rw [hN2]; exact i64_id _ (by omega) (by omega)
          obtain ⟨n3, hn3⟩ : ∃ n3, n3 = N2 + 7 := ⟨_, rfl⟩
          have wn3 : IntKind.i64.wrap (N2 + 7) = n3 := by rw [hn3]; exact i64_id _ (by omega) (by omega)
          obtain ⟨s1, hs1⟩ : ∃ s1, s1 = D + N2 := ⟨_, rfl⟩
          have ws1 : IntKind.i64.wrap (D + N2) = s1 := by rw [hs1]; exact i64_id _ (by omega) (by omega)
          have bs1 : 0 ≤ s1 ∧ s1 ≤ 20000 := by omega
          obtain ⟨r7, hr7⟩ : ∃ r7, r7 = s1 % 7 := ⟨_, rfl⟩
          have wr7 : s1 % 7 = r7 := hr7.symm
          obtain ⟨N, hN⟩ : ∃ N, N = n3 - r7 := ⟨_, rfl⟩
          have wN : IntKind.i64.wrap (n3 - r7) = N := by rw [hN]; exact i64_id _ (by omega) (by omega)
          have HE : Hid (easterM y = N) := Lib.hid (by
            have q1 : eE y = E0 := by unfold eE; rw [qG, qE, if_neg (by omega)]
            have q2 : eN y = N2 := by unfold eN; rw [q1, if_pos (by omega)]; omega
            unfold easterM; rw [qD, q2, ← hs1]; omega)
          have bN : -100 ≤ N ∧ N ≤ 1000 := by omega
          have wDN : IntKind.i64.wrap (dn + N) = dn + N := i64_id _ (by omega) (by omega)
          have wDN1 : IntKind.i64.wrap (dn + N - 1) = dn + N - 1 := i64_id _ (by omega) (by omega)
          have HNX : Hid (N = 44 - E0 + 30 + 7 - (D + (44 - E0 + 30)) % 7) := Lib.hid (by omega)
          clear hg0 hG hc0 hC ha1 ha2 hX hb1 hb2 hb3 hZ hd1 hd2 hd3 hD he1 he2 he3 he4 hE0 qG qC qX qZ qD qE hN1 hn3 hs1 hr7 hN hN2
          clear hN0
          go_enter Tryd.func33, Tryd.ntmps33
          go_wp2_with (go_at_call 45; refine (HNUM.out _).mono ?_; rintro e w1 ⟨rfl, hb⟩; have HB := Lib.hid hb; clear hb)
          go_ret2
          have h := HE.out; have h2 := HNX.out; have h3 := HEA.out
          refine ⟨?_, HB.out⟩
          rw [h3, h]
          exact ret_tup (by omega)
        · exact (negN HQ2.out HQ5.out hN0 hsm).elim
    · obtain ⟨N1, hN0⟩ : ∃ N1, N1 = 44 - E0 := ⟨_, rfl⟩
      by_cases hsm : N1 < 21
      · have hN1 : N1 = 44 - E0 := by omega
        have wN1 : IntKind.i64.wrap (44 - E0) = N1 := by rw [hN1]; exact i64_id _ (by omega) (by omega)
        obtain ⟨N2, hN2⟩ : ∃ N2, N2 = N1 + 30 := ⟨_, rfl⟩
        have wN2 : IntKind.i64.wrap (N1 + 30) = N2 := by rw [hN2]; exact i64_id _ (by omega) (by omega)
        obtain ⟨n3, hn3⟩ : ∃ n3, n3 = N2 + 7 := ⟨_, rfl⟩
        have wn3 : IntKind.i64.wrap (N2 + 7) = n3 := by rw [hn3]; exact i64_id _ (by omega) (by omega)
        obtain ⟨s1, hs1⟩ : ∃ s1, s1 = D + N2 := ⟨_, rfl⟩
        have ws1 : IntKind.i64.wrap (D + N2) = s1 := by rw [hs1]; exact i64_id _ (by omega) (by omega)
        have bs1 : 0 ≤ s1 ∧ s1 ≤ 20000 := by omega
        obtain ⟨r7, hr7⟩ : ∃ r7, r7 = s1 % 7 := ⟨_, rfl⟩
        have wr7 : s1 % 7 = r7 := hr7.symm
        obtain ⟨N, hN⟩ : ∃ N, N = n3 - r7 := ⟨_, rfl⟩
        have wN : IntKind.i64.wrap (n3 - r7) = N := by rw [hN]; exact i64_id _ (by omega) (by omega)
        have HE : Hid (easterM y = N) := Lib.hid (by
          have q1 : eE y = E0 := by unfold eE; rw [qG, qE, if_neg (by omega)]
          have q2 : eN y = N2 := by unfold eN; rw [q1, if_pos (by omega)]; omega
          unfold easterM; rw [qD, q2, ← hs1]; omega)
        have bN : -100 ≤ N ∧ N ≤ 1000 := by omega
        have wDN : IntKind.i64.wrap (dn + N) = dn + N := i64_id _ (by omega) (by omega)
        have wDN1 : IntKind.i64.wrap (dn + N - 1) = dn + N - 1 := i64_id _ (by omega) (by omega)
        have HNX : Hid (N = 44 - E0 + 30 + 7 - (D + (44 - E0 + 30)) % 7) := Lib.hid (by omega)
        clear hg0 hG hc0 hC ha1 ha2 hX hb1 hb2 hb3 hZ hd1 hd2 hd3 hD he1 he2 he3 he4 hE0 qG qC qX qZ qD qE hN1 hn3 hs1 hr7 hN hN2
        clear hN0
        go_enter Tryd.func33, Tryd.ntmps33
        go_wp2_with (go_at_call 45; refine (HNUM.out _).mono ?_; rintro e w1 ⟨rfl, hb⟩; have HB := Lib.hid hb; clear hb)
        go_ret2
        have h := HE.out; have h2 := HNX.out; have h3 := HEA.out
        refine ⟨?_, HB.out⟩
        rw [h3, h]
        exact ret_tup (by omega)
      · exact (negN HQ2.out HQ5.out hN0 hsm).elim
end Go.Proofs.YtcoijmggfkjcjaaDoor

/-
  The law WireCut: its walk.
-/
import Derived.Test.YtgmidhngchjoaaaM4
namespace Go.Proofs.Ytgmidhngchjoaaa
open Go.RowKit
set_option linter.unusedSimpArgs false
set_option linter.unusedVariables false
set_option maxRecDepth 100000 in
set_option maxHeartbeats 2000000 in
theorem cut_any (a : Option Addr) (n c : Nat) (ms : List VM) (x : Int) (w : World) (hV : Vs (Old w) w a n c ms) (hx1 : -9223372036854775808 ≤ x) (hx2 : x ≤ 9223372036854775807) :
    Calls Try.prog 6 #[.slice a n c, .int .i64 x] w fun y w' => y = .returned (.bool true) ∧ Below w.heap.size w w' := by
  have HV := Lib.hid hV
  clear hV
  go_enter Try.func6, Try.ntmps6
  go_upto_region 3 with (first
    | (go_at_call 16; refine (HW.out _ (Below.refl _ _)).mono ?_; rintro e w2 ⟨a2, c2, rfl, hs2, hb2⟩; have S2 := Lib.hid hs2; have B2 := Lib.hid hb2; clear hs2 hb2)
    | (go_at_call 11; refine (few_vals _ a n c ms _ HV.out (fun b h => h)).mono ?_; rintro e w1 ⟨v1, rfl, hf1⟩; obtain ⟨va, vc, ns, rfl, he1, -⟩ := hf1.few12; obtain ⟨L, hL, hL2, hW⟩ := written_L _ _ _ _ _ he1; have E1 := Lib.hid he1; have HL := Lib.hid hL; have HL2 := Lib.hid hL2; have HW := Lib.hid hW; clear hf1 he1 hL hL2 hW))
  have hb12 : Below w.heap.size w w2 := E1.out.bel.trans (B2.out.mono E1.out.bel.size)
  have HB12 := Lib.hid hb12
  clear hb12
  by_cases hL0 : L.length = 0
  · go_wp2_with (first
      | (go_at_call 17; refine (lives_any _).mono ?_; rintro e w7 ⟨rfl, hb7⟩; have B7 := Lib.hid hb7; clear hb7))
    go_ret
    exact ⟨rfl, HB12.out.trans (B7.out.mono HB12.out.size)⟩
  · have hL1 : 0 < L.length := by omega
    have hL2 : L.length ≤ 1000000000 := HL2.out
    have bd := around_bd x L.length (by omega)
    obtain ⟨K, hK⟩ : ∃ K : Nat, (K : Int) = around x L.length := ⟨(around x L.length).toNat, by omega⟩
    have hA := fun w' => around_any x L.length w' hx1 hx2 (by omega) (by omega)
    simp only [← hK] at hA bd
    have hKL : K < L.length := by omega
    have hS := S2.out.upto K (by omega)
    have nc : L.length ≤ c2 := S2.out.2.2.1
    have nc' : c2 ≤ 9223372036854775807 := S2.out.2.2.2.1
    have HA := Lib.hid hA
    have HS := Lib.hid hS
    clear hA hS hK bd
    go_upto_region 6 with (first
      | (go_at_call 20; refine (newReader_any _ _ _ _ _ _ HS.out (by omega)).mono ?_; rintro e w3 ⟨g, rfl, k3, hr3, hg3, hf3, hb3⟩; have R3 := Lib.hid hr3; have G3 := Lib.hid hg3; have F3 := Lib.hid hf3; have B3 := Lib.hid hb3; clear hr3 hg3 hf3 hb3)
      | (go_at_call 18; refine (HA.out _).mono ?_; rintro e w5 ⟨rfl, rfl⟩))
    go_wp2_with fail
    have hV3 : Vs (fun b => w.heap.size ≤ b ∧ b < w1.heap.size) w3 va ns.length vc ns := (E1.out.vs.below B2.out).below B3.out
    have hwg : w.heap.size ≤ g := Nat.le_trans E1.out.bel.size (Nat.le_trans B2.out.size G3.out)
    have hg1 : w1.heap.size ≤ g := Nat.le_trans B2.out.size G3.out
    have hk1 : ∀ j, k3 = some j → j < w3.heap.size := fun j hj => (F3.out j hj).2
    have hb13 : Below w.heap.size w w3 := HB12.out.trans (B3.out.mono HB12.out.size)
    have hcut : CutAt ((ns.drop 0).flatMap encV) (L.take K) 0 := by
      rw [List.drop_zero, ← HL.out]
      exact .inl ⟨rfl, L.drop K, by intro e; have := congrArg List.length e; simp at this; omega, (List.take_append_drop K L).symm⟩
    have hlt0 : (L.take K).length ≤ L.length := by rw [List.length_take]; omega
    obtain ⟨l0, hl0⟩ : ∃ l0, l0 = L.take K := ⟨_, rfl⟩
    have hr3 := R3.out
    rw [← hl0] at hcut hlt0 hr3
    have HV3 := Lib.hid hV3
    have HB3 := Lib.hid hb13
    have HR3 := Lib.hid hr3
    have HK1 := Lib.hid hk1
    have HC0 := Lib.hid hcut
    have HFit := Lib.hid E1.out.fit
    have nle : ns.length ≤ 12 := E1.out.len
    have nc1 : ns.length ≤ vc := hV3.2.1.2.1
    have nc2 : vc ≤ 9223372036854775807 := hV3.2.1.2.2.1
    have Hlt0 := Lib.hid hlt0
    clear hV3 hb13 hr3 hk1 hcut hl0 hlt0 E1 R3 G3 F3 B3 B2 S2 HS HV HW HB12
    go_loopw [8] (fun t wr => ∃ i : Nat, i ≤ ns.length ∧ t = .int .i64 (i : Int) ∧ ∃ (l : List UInt8) (e : Nat), Rd wr g k3 l e ∧ CutAt ((ns.drop i).flatMap encV) l e ∧ l.length ≤ L.length ∧ Kept (fun b => b = g) w3 wr) (fun t _ => ns.length - (intOf t).toNat)
    case atStart => exact ⟨0, Nat.zero_le _, rfl, l0, 0, HR3.out, HC0.out, Hlt0.out, Kept.refl _ _⟩
    case round =>
      obtain ⟨i, hi, rfl, l, e, hrd, hca, hll, hkp⟩ := hrel
      have HRd := Lib.hid hrd
      have HKp := Lib.hid hkp
      have HCa := Lib.hid hca
      have Hll := Lib.hid hll
      clear hrd hkp hca hll HR3 HC0 Hlt0
      by_cases hlt : i < ns.length
      · have hVr : Vs (fun b => w.heap.size ≤ b ∧ b < w1.heap.size) wr va ns.length vc ns := HV3.out.kept HKp.out (fun b _ hd e => by omega)
        obtain ⟨b, off, hDb, hbw, rfl, hr⟩ := hVr.at (by omega)
        have hr2 := hr i hlt
        have hOk := hVr.2.2 ns[i] (List.getElem_mem hlt)
        have hFi := (HFit.out ns[i] (List.getElem_mem hlt)).1
        have hdr := drop_encV ns i hlt
        have hca := HCa.out
        rw [hdr] at hca
        generalize ns[i] = m at *
        have hst := hca.step hFi
        have hCr := read_any g k3 l e m 20 wr HRd.out (fun j hj => Nat.lt_of_lt_of_le (HK1.out j hj) HKp.out.size) hOk.k (by have := Hll.out; omega) (by decide) (by decide)
        have hvl := rVal_len m.k ⟨l, e⟩ 20
        have hmk := hOk.k
        have herr := rVal_err m.k l 6 (by omega) 20
        have he06 : e = 0 ∨ e = 6 := hca.elim (fun h => .inl h.1) .inr
        have HCr := Lib.hid hCr
        have Hr2 := Lib.hid hr2
        have Hst := Lib.hid hst
        have Hvl := Lib.hid hvl
        have Herr := Lib.hid herr
        clear hr hr2 hOk hCr hVr hDb hbw hst hvl herr hca hdr hFi HCa
        rcases he06 with rfl | rfl
        · have HE := Lib.hid (err_any g k3 l 0 wr HRd.out)
          go_wp2_with (first
            | (go_at_call 21; refine HCr.out.mono ?_; rintro e w4 ⟨m', rfl, hk4, hp4, ho4, h4⟩; have H4 := Lib.hid h4; obtain ⟨mk', mu', mn', mb', msx', ma', ml', mc', mz'⟩ := m'; simp only [VM.val]; clear ho4 h4 hp4 hk4)
            | (go_at_call 24; refine HE.out.mono ?_; rintro e w6 ⟨rfl, rfl⟩)
            | (refine wpList_load_mid rfl 34 (.tmp 39) rfl b (off + i * 6) rfl _ _ Hr2.out Try.underlying34 rfl (by rw [VM.cells_len]; kernel_rfl) ?_; rw [VM.cells_arr]))
          go_roundw
          case rel => exact ⟨i + 1, by omega, by go_num, _, _, H4.out.1.kept ((Kept.refl (fun _ => False) w4).alloc _) (fun h => h) (fun _ _ h => h), Hst.out, Nat.le_trans Hvl.out Hll.out, (HKp.out.trans H4.out.2 (fun _ _ h => h)).alloc _⟩
          case measure => simp [intOf]; omega
        · have HE := Lib.hid (err_any g k3 l 6 wr HRd.out)
          have hcr2 := HCr.out
          rw [Herr.out] at hcr2
          have HCr2 := Lib.hid hcr2
          have hst2 := Hst.out
          rw [Herr.out] at hst2
          have Hst2 := Lib.hid hst2
          clear hcr2 hst2 Hst HCr
          go_wp2_with (first
            | (go_at_call 23; refine (C4.out _).mono ?_; rintro e w5 ⟨rfl, hb5⟩; have B5 := Lib.hid hb5; clear hb5)
            | (go_at_call 21; refine HCr2.out.mono ?_; rintro e w4 ⟨m', rfl, hk4, hp4, ho4, h4⟩; have H4 := Lib.hid h4; have hc4 := fun o => same_any _ _ m' (kindVM m'.k) (w4.alloc o) (ho4.kept ((Kept.refl (fun _ => False) w4).alloc o) (fun _ _ _ h => h)) (kind_ok (fun _ => True) _ m'.k ho4.k); have hps : psame m'.k m'.pv (kindVM m'.k).pv = true := (by rw [hp4]; exact psame_refl _ _); simp only [hps] at hc4; clear hps; obtain ⟨mk', mu', mn', mb', msx', ma', ml', mc', mz'⟩ := m'; simp only [VM.val]; simp only at hk4 hc4; subst hk4; have C4 := Lib.hid hc4; clear hc4 ho4 h4 hp4)
            | (go_at_call 24; refine HE.out.mono ?_; rintro e w6 ⟨rfl, rfl⟩)
            | (refine wpList_load_mid rfl 34 (.tmp 39) rfl b (off + i * 6) rfl _ _ Hr2.out Try.underlying34 rfl (by rw [VM.cells_len]; kernel_rfl) ?_; rw [VM.cells_arr]))
          go_roundw
          case rel =>
            have kB : Kept (fun b => b = g) wr w5 := (H4.out.2.alloc _).trans (Kept.of_below _ B5.out) (fun _ _ h => h)
            exact ⟨i + 1, by omega, by go_num, l, 6, (H4.out.1.kept ((Kept.refl (fun _ => False) w4).alloc _) (fun h => h) (fun _ _ h => h)).kept (Kept.of_below (fun _ => False) B5.out) (fun h => h) (fun _ _ h => h), Hst2.out, Hll.out, HKp.out.trans kB (fun _ _ h => h)⟩
          case measure => simp [intOf]; omega
      · obtain rfl : i = ns.length := by omega
        have hca := HCa.out
        rw [List.drop_length] at hca
        obtain rfl : e = 6 := hca.last
        have hE := end_any g k3 l 6 wr HRd.out
        have e0 : endE 6 l.length = 6 := by unfold endE; rw [if_neg (by omega)]
        rw [e0] at hE
        have HE := Lib.hid hE
        have HEr := Lib.hid (err_any g k3 l 6 wr HRd.out)
        have hkb : Below w.heap.size w wr := HB3.out.trans (HKp.out.below HB3.out.size (fun j hj e => by omega))
        have HKB := Lib.hid hkb
        clear hE e0 hkb hca
        go_wp2_with (first
          | (go_at_call 25; refine HE.out.mono ?_; rintro e w6 ⟨rfl, rfl⟩)
          | (go_at_call 24; refine HEr.out.mono ?_; rintro e w6 ⟨rfl, rfl⟩)
          | (go_at_call 17; refine (lives_any _).mono ?_; rintro e w7 ⟨rfl, hb7⟩; have B7 := Lib.hid hb7; clear hb7))
        go_ret
        exact ⟨rfl, HKB.out.trans (B7.out.mono HKB.out.size)⟩
end Go.Proofs.Ytgmidhngchjoaaa

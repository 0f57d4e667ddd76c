/-
  The law WireRound: its walk.
-/
import Derived.Test.YtgmidhngchjoaaaC1
namespace Go.Proofs.Ytgmidhngchjoaaa
open Go.RowKit
set_option linter.unusedSimpArgs false
set_option linter.unusedVariables false
attribute [local go_sem ↓] exec_load34 exec_at_zero exec_at_succ Go.wp_at_zero Go.wp_at_succ
set_option maxRecDepth 100000 in
set_option maxHeartbeats 2000000 in
theorem round_any (a : Option Addr) (n c : Nat) (ms : List VM) (w : World) (hV : Vs (Old w) w a n c ms) :
    Calls Try.prog 5 #[.slice a n c] w fun x w' => x = .returned (.bool true) ∧ Below w.heap.size w w' := by
  have HV := Lib.hid hV
  clear hV
  go_enter Try.func5, Try.ntmps5
  go_wp2_with (first
    | (go_at_call 20; refine (newReader_any _ _ _ _ _ _ S2.out (by have := HL2.out; omega)).mono ?_; rintro e w3 ⟨g, rfl, k3, hr3, hg3, hf3, hb3⟩; have R3 := Lib.hid hr3; have G3 := Lib.hid hg3; have F3 := Lib.hid hf3; have B3 := Lib.hid hb3; clear hr3 hg3 hf3 hb3)
    | (go_at_call 16; refine (HW.out _ (Below.refl _ _)).mono ?_; rintro e w2 ⟨a2, c2, rfl, hs2, hb2⟩; have S2 := Lib.hid hs2; have B2 := Lib.hid hb2; clear hs2 hb2)
    | (go_at_call 11; refine (few_vals _ a n c ms _ HV.out (fun b h => h)).mono ?_; rintro e w1 ⟨v1, rfl, hf1⟩; obtain ⟨va, vc, ns, rfl, he1, -⟩ := hf1.few12; obtain ⟨L, hL, hL2, hW⟩ := written_L _ _ _ _ _ he1; have E1 := Lib.hid he1; have HL := Lib.hid hL; have HL2 := Lib.hid hL2; have HW := Lib.hid hW; clear hf1 he1 hL hL2 hW))
  have hV3 : Vs (fun b => w.heap.size ≤ b ∧ b < w1.heap.size) w3 va ns.length vc ns := (E1.out.vs.below B2.out).below B3.out
  have hwg : w.heap.size ≤ g := Nat.le_trans E1.out.bel.size (Nat.le_trans B2.out.size G3.out)
  have hg1 : w1.heap.size ≤ g := Nat.le_trans B2.out.size G3.out
  have hk1 : ∀ j, k3 = some j → j < w3.heap.size := fun j hj => (F3.out j hj).2
  have hb13 : Below w.heap.size w w3 := (E1.out.bel.trans (B2.out.mono E1.out.bel.size)).trans (B3.out.mono (Nat.le_trans E1.out.bel.size B2.out.size))
  have hr3 : Rd w3 g k3 ((ns.drop 0).flatMap encV) 0 := by rw [List.drop_zero, ← HL.out]; exact R3.out
  have HV3 := Lib.hid hV3
  have HB3 := Lib.hid hb13
  have HR3 := Lib.hid hr3
  have HK1 := Lib.hid hk1
  have HFit := Lib.hid E1.out.fit
  have HLn := Lib.hid HL2.out
  have nle : ns.length ≤ 12 := E1.out.len
  have nc1 : ns.length ≤ vc := hV3.2.1.2.1
  have nc2 : vc ≤ 9223372036854775807 := hV3.2.1.2.2.1
  clear hV3 hb13 hr3 hk1 E1 R3 G3 F3 B3 B2 S2 HV HW
  go_loopw [5] (fun t wr => ∃ i : Nat, i ≤ ns.length ∧ t = .int .i64 (i : Int) ∧ Rd wr g k3 ((ns.drop i).flatMap encV) 0 ∧ Kept (fun b => b = g) w3 wr) (fun t _ => ns.length - (intOf t).toNat)
  case atStart => exact ⟨0, Nat.zero_le _, rfl, HR3.out, Kept.refl _ _⟩
  case round =>
    obtain ⟨i, hi, rfl, hrd, hkp⟩ := hrel
    have HRd := Lib.hid hrd
    have HKp := Lib.hid hkp
    clear hrd hkp HR3
    by_cases hlt : i < ns.length
    · have hVr : Vs (fun b => w.heap.size ≤ b ∧ b < w1.heap.size) wr va ns.length vc ns := HV3.out.kept HKp.out (fun b _ hd e => by omega)
      obtain ⟨b, off, hDb, hbw, rfl, hr⟩ := hVr.at (by omega)
      have hr2 := hr i hlt
      have hOk := hVr.2.2 ns[i] (List.getElem_mem hlt)
      have hFi := (HFit.out ns[i] (List.getElem_mem hlt)).1
      have hdr := drop_encV ns i hlt
      have hlen : ((ns.drop i).flatMap encV).length ≤ 100000000000 := by
        have e : ((ns.drop i).flatMap encV).length ≤ L.length := by
          rw [HL.out, ← List.take_append_drop i ns, List.flatMap_append, List.length_append]
          simp
        have := HLn.out
        omega
      rw [hdr] at hlen
      have hrd2 : Rd wr g k3 (encV ns[i] ++ (ns.drop (i + 1)).flatMap encV) 0 := by rw [← hdr]; exact HRd.out
      generalize ns[i] = m at *
      have hrv := rVal_at m ((ns.drop (i + 1)).flatMap encV) hFi
      have hps := psame_strip m.k m.pv
      have hCr := fun W (h : Rd W g k3 (encV m ++ (ns.drop (i + 1)).flatMap encV) 0) (hk : ∀ j, k3 = some j → j < W.heap.size) => read_any g k3 (encV m ++ (ns.drop (i + 1)).flatMap encV) 0 m 20 W h hk hOk.k hlen (by decide) (by decide)
      rw [hrv] at hCr
      have HCr := Lib.hid hCr
      have Hps := Lib.hid hps
      have HOk := Lib.hid hOk
      have Hrd2 := Lib.hid hrd2
      have Hr2 := Lib.hid hr2
      have ld0 := run_load34 hr2
      have ld1 := run_load34 (w := wr.drew) hr2
      clear hr hr2 hOk hFi hdr hlen hrd2 hrv hps hCr hVr HRd
      have hbg : ¬ b = g := by omega
      have HBg := Lib.hid hbg
      have HBw := Lib.hid hbw
      clear hbg hbw hDb
      go_upto_region 8 with (fail)
      go_region_with (first
        | (go_at_call 24; refine (err_any g k3 _ 0 _ (H4.out.1.kept (Kept.of_below (fun _ => False) B5.out) (fun h => h) (fun _ _ h => h))).mono ?_; rintro e w6 ⟨rfl, rfl⟩)
        | (go_at_call 23; refine (C4.out).mono ?_; rintro e w5 ⟨rfl, hb5⟩; have B5 := Lib.hid hb5; clear hb5)
        | (go_at_call 21; refine (HCr.out _ Hrd2.out.drew (fun j hj => Nat.lt_of_lt_of_le (HK1.out j hj) HKp.out.size)).mono ?_; rintro e w4 ⟨m', rfl, hk4, hp4, ho4, h4⟩; have H4 := Lib.hid h4; have ld4 := run_load34 (range_kept (w := wr.drew) Hr2.out HBw.out h4.2 HBg.out); have hc4 := same_any _ _ m m' w4 (HOk.out.kept ((Kept.refl (fun b => b = g) wr).drew.trans h4.2 (fun _ _ h => h)) (fun b _ hd e => by omega)) ho4; rw [hp4, Hps.out] at hc4; have C4 := Lib.hid hc4; clear hc4 ho4 h4 hp4 hk4))
      all_goals
        go_wp2_with fail
        go_roundw
        case rel => exact ⟨i + 1, by omega, by go_num, H4.out.1.kept (Kept.of_below (fun _ => False) B5.out) (fun h => h) (fun _ _ h => h), (HKp.out.trans ((Kept.refl (fun b => b = g) wr).drew.trans H4.out.2 (fun _ _ h => h)) (fun _ _ h => h)).trans (Kept.of_below _ B5.out) (fun _ _ h => h)⟩
        case measure => simp [intOf]; omega
    · obtain rfl : i = ns.length := by omega
      have hE := end_any g k3 _ 0 wr HRd.out
      rw [List.drop_length] at hE
      have e0 : endE 0 (([] : List VM).flatMap encV).length = 0 := rfl
      rw [e0] at hE
      have HE := Lib.hid hE
      clear hE e0
      go_wp2_with (first
        | (go_at_call 25; refine HE.out.mono ?_; rintro e w6 ⟨rfl, rfl⟩)
        | (go_at_call 17; refine (lives_any _).mono ?_; rintro e w7 ⟨rfl, hb7⟩; have B7 := Lib.hid hb7; clear hb7))
      go_ret
      refine ⟨rfl, (HB3.out.trans (HKp.out.below HB3.out.size (fun j hj e => by have := HV3.out; omega))).trans (B7.out.mono (Nat.le_trans HB3.out.size HKp.out.size))⟩
end Go.Proofs.Ytgmidhngchjoaaa

/-
  The law WireReads: its walk.
-/
import Derived.Test.YtdnbkiaolimfjaaN8
namespace Go.Proofs.Ytdnbkiaolimfjaa
open Go.RowKit
set_option linter.unusedSimpArgs false
set_option linter.unusedVariables false
def Drs22a : List (Option Tmp) := [some 88, some 89, some 90, some 91, some 92, some 93, some 94, some 95, some 96, some 97, some 98, some 99, some 100, some 101, some 102, some 103, some 104, some 105]
def Lrs22a : List (List Nat) := [[], [], [0, 1], [2], [3], [4], [5, 4], [4], [7, 4], [6, 8, 4], [4, 9], [10], [11], [12, 11], [11], [14, 11], [13, 15, 11], [11, 16]]
def Drs20a : List (Option Tmp) := [some 78, some 79, some 80, some 81, some 82, some 83, some 84, some 77, some 85, some 86, some 20, some 21, none, none]
def Lrs20a : List (List Nat) := [[], [], [], [1, 2], [3], [], [0, 4, 5], [6], [7], [7], [], [], [10, 8], [11, 9]]
def Drs22b : List (Option Tmp) := [some 88, some 89, some 90, some 91, some 92, some 93, some 94, some 95, some 96, some 97, some 98, some 99, some 100, some 101, some 102, some 103, some 104, some 105]
def Lrs22b : List (List Nat) := [[], [], [0, 1], [2], [3], [4], [5, 4], [4], [7, 4], [6, 8, 4], [4, 9], [10], [11], [12, 11], [11], [14, 11], [13, 15, 11], [11, 16]]
def Drs20b : List (Option Tmp) := [some 78, some 79, some 80, some 81, some 82, some 83, some 84, some 77, some 85, some 86, some 20, some 21, none, none]
def Lrs20b : List (List Nat) := [[], [], [], [1, 2], [3], [], [0, 4, 5], [6], [7], [7], [], [], [10, 8], [11, 9]]
set_option maxRecDepth 100000 in
set_option maxHeartbeats 4000000 in
theorem reads_any (sa : Option Addr) (sn sc : Nat) (sl : List UInt8) (va : Option Addr) (vn vc : Nat) (ms : List VM) (x : Int) (X4 : Int) (ma : Option Addr) (mn mc : Nat) (mz : List Int) (w : World)
    (hB : Bs (Old w) w sa sn sc sl) (hV : Vs (Old w) w va vn vc ms) (hx1 : -9223372036854775808 ≤ x) (hx2 : x ≤ 9223372036854775807) (h41 : 0 ≤ X4) (h42 : X4 ≤ 255) (hM : Is (Old w) w ma mn mc mz) (hM64 : Ok64 mz) :
    Calls Try.prog 4 #[.slice sa sn sc, .slice va vn vc, .int .i64 x, .int .u8 X4, .slice ma mn mc] w fun y w' => y = .returned (.bool true) ∧ Below w.heap.size w w' := by
  have HV := Lib.hid hV
  have HB := Lib.hid hB
  have HM := Lib.hid hM
  have HM64 := Lib.hid hM64
  have mcb : mn ≤ mc := hM.2.2.1
  have mcb2 : mc ≤ 9223372036854775807 := hM.2.2.2.1
  clear hV hB hM hM64
  go_enter Try.func4, Try.ntmps4
  go_upto_region 3 with (first
    | (go_at_call 16; refine (HW.out).mono ?_; rintro e w2 ⟨v2, rfl, hm2⟩; have M2 := Lib.hid hm2; clear hm2)
    | (go_at_call 11; refine (few_vals _ va vn vc ms _ HV.out (fun b h => h)).mono ?_; rintro e w1 ⟨v1, rfl, hf1⟩; obtain ⟨ua, uc, ns, rfl, he1, -⟩ := hf1.few12; have HW := Lib.hid (written_any _ ua _ uc ns w1 he1.vs (fun m hm => (he1.fit m hm).2) (by have := he1.len; omega)); have E1 := Lib.hid he1; clear hf1 he1))
  have hLl := encVs_len _ _ ns (fun m hm => ⟨E1.out.vs.2.2 m hm, (E1.out.fit m hm).2⟩)
  have nle : ns.length ≤ 12 := E1.out.len
  obtain ⟨k2, ho2, hf2, hb2⟩ := M2.out
  obtain ⟨L, hL⟩ : ∃ L, L = ns.flatMap encV := ⟨_, rfl⟩
  rw [← hL] at ho2 hLl
  have hL9 : L.length ≤ 300000000 := by omega
  obtain ⟨ta, tc, rfl, hs2⟩ := Own.bs ho2
  have Ho2 := Lib.hid ho2
  have Hf2 := Lib.hid hf2
  have HB2 := Lib.hid hb2
  have Hs2 := Lib.hid hs2
  have tcb : L.length ≤ tc := hs2.2.2.1
  have tcb2 : tc ≤ 9223372036854775807 := hs2.2.2.2.1
  clear ho2 hf2 hb2 hs2 hLl hL M2 HW
  -- the bytes with one replaced
  have HT : Hid (∀ w3, (∃ L3 : List UInt8, L3.length = L.length ∧ Own w3 5 1 k2 (.slice ta L.length tc) L.length (vals L3)) ∧ Kept (fun j => k2 = some j) w2 w3 → Below w.heap.size w w3 ∧ (∃ L3, L3.length = L.length ∧ Bs (fun b => w1.heap.size ≤ b ∧ b < w3.heap.size) w3 ta L3.length tc L3)) := Lib.hid (by
    rintro w3 ⟨⟨L3, hl3, ho3⟩, hk3⟩
    refine ⟨(E1.out.bel.trans (HB2.out.mono E1.out.bel.size)).trans (hk3.below (Nat.le_trans E1.out.bel.size HB2.out.size) (fun j hj e => by have := Hf2.out j e; have := E1.out.bel.size; omega)), L3, hl3, ?_⟩
    rw [← hl3] at ho3
    obtain ⟨a', c', e', hs'⟩ := Own.bs ho3
    cases e'
    exact hs'.dom (fun b hb => ⟨Hf2.out b hb, ho3.lt b hb⟩))
  have HV2 : Hid (Vs (fun b => w.heap.size ≤ b ∧ b < w1.heap.size) w2 ua ns.length uc ns) := Lib.hid (E1.out.vs.below HB2.out)
  have Hfit := Lib.hid E1.out.fit
  have ucb : ns.length ≤ uc := HV2.out.2.1.2.1
  have ucb2 : uc ≤ 9223372036854775807 := HV2.out.2.1.2.2.1
  by_cases hL0 : 0 < L.length
  · have bd := around_bd x L.length (by omega)
    obtain ⟨K, hK⟩ : ∃ K : Nat, (K : Int) = around x L.length := ⟨(around x L.length).toNat, by omega⟩
    have hA := fun w' => around_any x L.length w' hx1 hx2 (by omega) (by omega)
    simp only [← hK] at hA bd
    have hKL : K < L.length := by omega
    have HA := Lib.hid hA
    obtain ⟨g2, rfl⟩ : ∃ g2, k2 = some g2 := by
      rcases Ho2.out.2 with ⟨_, _, h0⟩ | ⟨g, _, _, rfl, _⟩
      · omega
      · exact ⟨g, rfl⟩
    have hg2 : ∃ cur, ta = some ⟨g2, 0, none⟩ ∧ w2.heap[g2]? = some (.cells cur 5 (0, 0)) ∧ L.length ≤ cur.size := by
      rcases Ho2.out.2 with ⟨h0, _, _⟩ | ⟨g, cap, cur, hg, hv, hh, hn, _, hsz, _⟩
      · cases h0
      · cases hg; cases hv; exact ⟨cur, rfl, hh, by omega⟩
    obtain ⟨cur, rfl, hh, hcur⟩ := hg2
    have c0 : w2.cell? ⟨g2, K, none⟩ = some (cur[K]'(by omega)) := by rw [cell_of_row w2 g2 K _ _ _ hh]; exact Array.getElem?_eq_getElem (by omega)
    have f0 : w2.frozen? ⟨g2, K, none⟩ = false := frozen_of_row w2 g2 K _ _ hh
    have HKL := Lib.hid hKL
    generalize cur[K] = old at *
    have hT3 := HT.out (w2.setCell ⟨g2, K, none⟩ (.int .u8 X4)) ⟨⟨L.set K (UInt8.ofNat X4.toNat), by rw [List.length_set], by
      rw [vals_set, toNat_ofNat _ (by omega), Int.toNat_of_nonneg h41]
      exact Ho2.out.set1 K hKL _⟩, (Kept.refl (fun j => some g2 = some j) w2).setCell (fun _ => rfl) _⟩
    have HT3 := Lib.hid hT3
    have HV3 : Hid (Vs (fun b => w.heap.size ≤ b ∧ b < w1.heap.size) (w2.setCell ⟨g2, K, none⟩ (.int .u8 X4)) ua ns.length uc ns) := Lib.hid (HV2.out.kept ((Kept.refl (fun j => j = g2) w2).setCell (fun _ => rfl) _) (fun b _ hb e => by have := Hf2.out g2 rfl; omega))
    have hs3 : w1.heap.size ≤ (w2.setCell ⟨g2, K, none⟩ (.int .u8 X4)).heap.size := Nat.le_trans HB2.out.size (Nat.le_of_eq (by simp))
    have Hs3 := Lib.hid hs3
    clear hT3 hA bd hK HT HV2 hs3 hh hcur
    go_upto_region 5 with (first
      | (go_at_call 18; refine (HA.out _).mono ?_; rintro e w5 ⟨rfl, rfl⟩))
    generalize w2.setCell ⟨g2, K, none⟩ (.int .u8 X4) = w3 at *
    generalize (some (⟨g2, 0, none⟩ : Addr)) = ta at *
    clear c0 f0 Ho2 Hf2 HB2 Hs2 HA
    obtain ⟨hbw3, L3, hl3, hBs3⟩ := HT3.out
    have HBw3 := Lib.hid hbw3
    have HBs3 := Lib.hid hBs3
    have hFew := few_any _ sa sn sc 60 sl w3 (HB.out.kept (Kept.of_below (fun _ => False) hbw3) (fun _ _ _ h => h)) (by decide)
    have hlt : (sl.take 60).length ≤ 60 := by rw [List.length_take]; omega
    obtain ⟨L0, hL0'⟩ : ∃ L0, L0 = sl.take 60 := ⟨_, rfl⟩
    rw [← hL0'] at hFew hlt
    have HFew := Lib.hid hFew
    have HE1 := Lib.hid E1.out.bel
    clear hbw3 hBs3 hFew HT3 hL0' E1
    go_upto_region 6 with (first
      | (go_at_call 19; refine HFew.out.mono ?_; rintro e w4 ⟨v4, rfl, hm4⟩; obtain ⟨k4, ho4, hf4, hb4⟩ := hm4; obtain ⟨fa, fc, rfl, hs4⟩ := Own.bs ho4; have S4 := Lib.hid (hs4.dom (D' := fun b => w3.heap.size ≤ b ∧ b < w4.heap.size) (fun b hb => ⟨hf4 b hb, ho4.lt b hb⟩)); have B4 := Lib.hid hb4; clear hs4 hb4 ho4 hf4))
    obtain ⟨w5, hw5⟩ : ∃ w5, w5 = w4.alloc (.cells #[.slice fa L0.length fc, .slice ta L.length tc] 23) := ⟨_, rfl⟩
    rw [← hw5]
    obtain ⟨bi, hbi⟩ : ∃ bi, bi = w4.heap.size := ⟨_, rfl⟩
    have hin : w5.heap[bi]? = some (.cells #[.slice fa L0.length fc, .slice ta L.length tc] 23 (0, 0)) := by rw [hw5]; exact heap_new hbi
    have hb45 : Below w4.heap.size w4 w5 := by rw [hw5]; exact (Below.refl _ _).alloc (Nat.le_refl _) _
    have hb35 : Below w3.heap.size w3 w5 := B4.out.trans (hb45.mono B4.out.size)
    have hz5 : w5.heap.size = w4.heap.size + 1 := by rw [hw5, size_alloc1]
    have hS5 : Bs (fun b => w.heap.size ≤ b ∧ b < w5.heap.size) w5 fa L0.length fc L0 := (S4.out.kept (Kept.of_below (fun _ => False) hb45) (fun _ _ _ h => h)).dom (fun b hb => ⟨by have := HBw3.out.size; have := hb.1; omega, by have := hb.2; omega⟩)
    have hT5 : Bs (fun b => w.heap.size ≤ b ∧ b < w5.heap.size) w5 ta L3.length tc L3 := (HBs3.out.kept (Kept.of_below (fun _ => False) hb35) (fun _ _ _ h => h)).dom (fun b hb => ⟨by have := HE1.out.size; have := hb.1; omega, by have := hb35.size; have := hb.2; omega⟩)
    have hV5 : Vs (fun b => w.heap.size ≤ b ∧ b < w5.heap.size) w5 ua ns.length uc ns := (HV3.out.below hb35).dom (fun b hb => ⟨hb.1, by have := hb35.size; have := Hs3.out; have := hb.2; omega⟩)
    have hB5 : Below w.heap.size w w5 := HBw3.out.trans (hb35.mono HBw3.out.size)
    have hM5 : Is (Old w) w5 ma mn mc mz := HM.out.kept (Kept.of_below (fun _ => False) hB5) (fun _ _ _ h => h)
    have Hin := Lib.hid hin
    have HS5 := Lib.hid hS5
    have HT5 := Lib.hid hT5
    have HV5 := Lib.hid hV5
    have HB5 := Lib.hid hB5
    have HM5 := Lib.hid hM5
    have Hl3 := Lib.hid hl3
    have Hbi := Lib.hid (heap_lt hin)
    rw [← hbi]
    clear hin hb45 hb35 hz5 hS5 hT5 hV5 hB5 hM5 hw5 hbi HBw3 HBs3 HFew HM HV3 Hs3 S4 B4 hl3 HB HV HE1
    go_wp2_with fail
    go_loopw [14] (fun t wr => ∃ k : Nat, k ≤ 2 ∧ t = .int .i64 (k : Int) ∧ Below w5.heap.size w5 wr) (fun t _ => 2 - (intOf t).toNat)
    case atStart => exact ⟨0, by omega, rfl, Below.refl _ _⟩
    case round =>
      obtain ⟨k, hk, rfl, hbr⟩ := hrel
      have HBr := Lib.hid hbr
      by_cases hk2 : k < 2
      · have hinp : ∃ A C l1, wr.cell? ⟨bi, k, none⟩ = some (.slice A (l1 : List UInt8).length C) ∧ Bs (fun b => w.heap.size ≤ b ∧ b < w5.heap.size) wr A l1.length C l1 ∧ l1.length ≤ 1000000000 := by
          have hh := (hbr.block _ Hbi.out).trans Hin.out
          have hcl := cell_of_row wr bi k _ _ _ hh
          rcases (by omega : k = 0 ∨ k = 1) with rfl | rfl
          · exact ⟨fa, fc, L0, hcl, HS5.out.kept (Kept.of_below (fun _ => False) hbr) (fun _ _ _ h => h), by omega⟩
          · refine ⟨ta, tc, L3, ?_, HT5.out.kept (Kept.of_below (fun _ => False) hbr) (fun _ _ _ h => h), by have := Hl3.out; omega⟩
            rw [Hl3.out]; exact hcl
        obtain ⟨A, C, l1, hcA, hBA, hl1⟩ := hinp
        have HBA := Lib.hid hBA
        have nc1 : l1.length ≤ C := hBA.2.2.1
        have nc2 : C ≤ 9223372036854775807 := hBA.2.2.2.1
        have hbw : bi < wr.heap.size := Nat.lt_of_lt_of_le Hbi.out hbr.size
        clear hBA hbr
        go_upto_region 13 with (first
          | (go_at_call 20; refine (newReader_any _ _ _ _ _ _ HBA.out (by omega)).mono ?_; rintro e w6 ⟨g, rfl, k3, hr6, hg6, hf6, hb6⟩; have R6 := Lib.hid hr6; have G6 := Lib.hid hg6; have F6 := Lib.hid hf6; have B6 := Lib.hid hb6; have c6 : w6.cell? ⟨bi, k, none⟩ = some (.slice A l1.length C) := ((hb6.cell (p := ⟨bi, k, none⟩) hbw).trans hcA); have z6 : bi < w6.heap.size := Nat.lt_of_lt_of_le hbw hb6.size; clear hr6 hg6 hf6 hb6))
        go_wp2_with fail
        obtain ⟨w7, hw7⟩ : ∃ w7, w7 = w6.alloc (.cells #[.slice A l1.length C, .int .i64 0] 48) := ⟨_, rfl⟩
        rw [← hw7]
        obtain ⟨gx, hgx⟩ : ∃ gx, gx = w6.heap.size := ⟨_, rfl⟩
        rw [← hgx]
        have hb67 : Below w6.heap.size w6 w7 := by rw [hw7]; exact (Below.refl _ _).alloc (Nat.le_refl _) _
        have hrx : RdB w7 gx A l1.length C 0 := by rw [hw7]; exact heap_new hgx
        have hb57 : Below w5.heap.size w5 w7 := HBr.out.trans ((B6.out.trans (hb67.mono B6.out.size)).mono HBr.out.size)
        have hr7 : Rd w7 g k3 l1 0 := R6.out.kept (Kept.of_below (fun _ => False) hb67) (fun h => h) (fun _ _ h => h)
        have hgg : w5.heap.size ≤ g ∧ g < gx := ⟨Nat.le_trans HBr.out.size G6.out, by rw [hgx]; exact R6.out.lt⟩
        have hkk : ∀ j, k3 = some j → w5.heap.size ≤ j ∧ j < gx := fun j hj => ⟨Nat.le_trans HBr.out.size (F6.out j hj).1, by rw [hgx]; exact (F6.out j hj).2⟩
        have hBA7 : Bs (fun b => w.heap.size ≤ b ∧ b < w5.heap.size) w7 A l1.length C l1 := HBA.out.kept (Kept.of_below (fun _ => False) (B6.out.trans (hb67.mono B6.out.size))) (fun _ _ _ h => h)
        have hz7 : gx < w7.heap.size := heap_lt hrx
        have H7 : Hid (RnAt (fun b => w.heap.size ≤ b ∧ b < w5.heap.size) g k3 gx w7 w7 l1 l1 0) := Lib.hid ⟨hr7, ⟨A, C, hrx, hBA7⟩, fun _ => rfl, ⟨hl1, hl1⟩, Kept.refl _ _⟩
        have HB57 := Lib.hid hb57
        have Hgg := Lib.hid hgg
        have Hkk := Lib.hid hkk
        have Hz7 := Lib.hid hz7
        clear hw7 hgx hb67 hrx hb57 hr7 hgg hkk hBA7 hz7 R6 G6 F6 B6 HBA c6 z6 hcA hbw
        obtain ⟨wo, hwo⟩ : ∃ wo : World, wo = wr := ⟨_, rfl⟩
        subst hwo
        go_loopw [17] (fun t wr => ∃ (i : Nat) (l l' : List UInt8) (e : Nat), i ≤ ns.length ∧ t = .int .i64 (i : Int) ∧ RnAt (fun b => w.heap.size ≤ b ∧ b < w5.heap.size) g k3 gx w7 wr l l' e) (fun t _ => ns.length - (intOf t).toNat)
        case atStart => exact ⟨0, l1, l1, 0, Nat.zero_le _, rfl, H7.out⟩
        case round =>
          obtain ⟨i, l, l', e, hi, rfl, hA⟩ := hrel
          have HA := Lib.hid hA
          clear hA H7
          by_cases hlt : i < ns.length
          · have hb5r : Below w5.heap.size w5 wr := HB57.out.trans (HA.out.kept.below HB57.out.size (fun j hj e => by have := Hgg.out; omega))
            have HB5r := Lib.hid hb5r
            have hVr : Vs (fun b => w.heap.size ≤ b ∧ b < w5.heap.size) wr ua ns.length uc ns := HV5.out.kept (Kept.of_below (fun _ => False) hb5r) (fun _ _ _ h => h)
            obtain ⟨b, off, hDb, hbw, rfl, hr⟩ := hVr.at (by omega)
            have hr2 := hr i hlt
            have hOk := hVr.2.2 ns[i] (List.getElem_mem hlt)
            generalize ns[i] = m at *
            have hsz := hb5r.size
            have Hr2 := Lib.hid hr2
            have Hbw := Lib.hid hbw
            have Hmk := Lib.hid hOk.k
            have hDb5 := hDb.2
            clear hr hr2 hVr hDb hOk hb5r
            by_cases hmi : i < mn
            · obtain ⟨mb, moff, hmD, hmbw, rfl, hmc⟩ := (HM5.out.kept (Kept.of_below (fun _ => False) HB5r.out) (fun _ _ _ h => h)).cells (by omega)
              have hiz : i < mz.length := by have := HM5.out.1; omega
              have hcm := hmc i hiz
              obtain ⟨hM1, hM2⟩ := HM64.out mz[i] (List.getElem_mem hiz)
              generalize mz[i] = M at *
              clear hmc hmD hbw
              go_upto_region 19 with fail
              clear hcm hmbw
              obtain ⟨ra, rc, hrb, hbb⟩ := HA.out.rb
              have hCr := read_any g k3 l e m M wr HA.out.rd (fun j hj => by have := (Hkk.out j hj).2; have := Hz7.out; have := HA.out.kept.size; omega) Hmk.out (by have := HA.out.len; omega) hM1 hM2
              have hsim := ref_sim m.k l l' e HA.out.sim M
              have hln := rVal_len m.k ⟨l, e⟩ M
              have hln' := refVal_len m.k ⟨l', e⟩ M
              obtain ⟨RW, hRW⟩ : ∃ RW, RW = refVal m.k ⟨l', e⟩ M := ⟨_, rfl⟩
              rw [← hRW] at hsim hln'
              generalize rVal m.k ⟨l, e⟩ M = RV at *
              obtain ⟨pv, l2, e2⟩ := RV
              simp only at hsim
              obtain ⟨l2', hRW2⟩ : ∃ l2', RW = (pv, (⟨l2', e2⟩ : RS)) := ⟨RW.2.l, by rw [← hsim.1, ← hsim.2.1]⟩
              have hs3 := hsim.2.2
              rw [hRW2] at hs3 hln' hRW
              simp only at hCr hs3 hln hln'
              clear hsim hRW2
              have HR2 : Hid (refVal m.k ⟨l', e⟩ M = (pv, ⟨l2', e2⟩)) := Lib.hid hRW.symm
              have HCr := Lib.hid hCr
              have Hs3 := Lib.hid hs3
              have Hln := Lib.hid hln
              have Hln' := Lib.hid hln'
              have Hlb := HA.out.len
              have hl'b : l'.length ≤ 100000000000 := by omega
              have Hrb := Lib.hid hrb
              have Hbb := Lib.hid hbb
              clear hCr hs3 hln hln' hRW hrb hbb Hlb
              go_upto_region 20 with (first
                | (go_at_call 21; refine HCr.out.mono ?_; rintro y w8 ⟨m1, rfl, hk1, hp1, ho1, h8⟩; have H8 := Lib.hid h8; have Hk1 := Lib.hid hk1; have Hp1 := Lib.hid hp1; have Ho1 := Lib.hid ho1; clear h8 hk1 hp1 ho1; simp only [VM.val])
                | (refine wpList_load_mid rfl 34 (.tmp 73) rfl b (off + i * 6) rfl _ _ Hr2.out Try.underlying34 rfl (by rw [VM.cells_len]; kernel_rfl) ?_; rw [VM.cells_arr]))
              obtain ⟨q, hq⟩ : ∃ q, q = w8.alloc (.cells #[.int .u8 (m1.k : Int), .int .u64 (m1.u : Int), .int .i64 m1.n, .bool m1.b, .string m1.s, .slice m1.a m1.ln m1.c] 34) := ⟨_, rfl⟩
              rw [← hq]
              obtain ⟨g19, hg19⟩ : ∃ g19, g19 = w8.heap.size := ⟨_, rfl⟩
              rw [← hg19]
              have hK8q : Kept (fun b => b = g) wr q := by rw [hq]; exact H8.out.2.alloc _
              have hq19 : q.heap[g19]? = some (.cells #[.int .u8 (m1.k : Int), .int .u64 (m1.u : Int), .int .i64 m1.n, .bool m1.b, .string m1.s, .slice m1.a m1.ln m1.c] 34 (0, 0)) := by rw [hq]; exact heap_new hg19
              have hgx : gx < wr.heap.size := Nat.lt_of_lt_of_le Hz7.out HA.out.kept.size
              have Q0 : Hid (RdB q gx ra l'.length rc e) := Lib.hid (hK8q.heap Hrb.out (by have := Hgg.out; omega))
              have QB : Hid (Bs (fun b => w.heap.size ≤ b ∧ b < w5.heap.size) q ra l'.length rc l') := Lib.hid (Hbb.out.kept hK8q (fun b _ hb h => by have := Hgg.out; have := hb.2; omega))
              have Qm : Hid (q.rangeAt b (off + i * 6) m.cells) := Lib.hid (range_kept Hr2.out Hbw.out hK8q (by have := Hgg.out; have := hDb5; omega))
              have Qb : Hid (b < q.heap.size) := Lib.hid (Nat.lt_of_lt_of_le Hbw.out hK8q.size)
              have QS : Hid (w5.heap.size ≤ q.heap.size ∧ gx < q.heap.size) := Lib.hid ⟨Nat.le_trans hsz hK8q.size, Nat.lt_of_lt_of_le hgx hK8q.size⟩
              have Q19 := Lib.hid hq19
              have QK := Lib.hid hK8q
              have Hg19 := Lib.hid hg19
              have Hq := Lib.hid hq
              have hi2 : (i : Int) < (ns.length : Int) := by omega
              clear hK8q hq19 hgx hg19 hq
              refine Roll.region_g 13 107 Drs20a Lrs20a [(11, .slice (some ⟨b, off, none⟩) ns.length uc), (16, .pointer (some ⟨gx, 0, none⟩)), (17, .int .i64 (i : Int)), (18, .int .i64 M)] (fun p => Below q.heap.size q p) (fun p p' => ExS q.heap.size (fun b => w.heap.size ≤ b ∧ b < w5.heap.size) l2' e2 p p') [fun vv p => (vv 0) = .agg #[.slice ra l'.length rc, .int .i64 (e : Int)], fun vv p => (vv 1) = .slice (some ⟨b, off, none⟩) ns.length uc, fun vv p => (vv 2) = .int .i64 (i : Int), fun vv p => (vv 3) = .pointer (some ⟨b, off + i * 6, none⟩), fun vv p => (vv 4) = m.val, fun vv p => (vv 5) = .int .i64 M, fun vv p => ∃ ac cc, ∃ m2 : VM, (vv 6) = .tuple #[rdv ac l2'.length cc e2, m2.val] ∧ Bs (fun b => w.heap.size ≤ b ∧ b < w5.heap.size) p ac l2'.length cc l2' ∧ m2.k = m.k ∧ m2.pv = pv ∧ VOk (fun b => q.heap.size ≤ b ∧ IntRow p b) p m2, fun vv p => ∃ ac cc, ∃ m2 : VM, (vv 7) = .tuple #[rdv ac l2'.length cc e2, m2.val] ∧ Bs (fun b => w.heap.size ≤ b ∧ b < w5.heap.size) p ac l2'.length cc l2' ∧ m2.k = m.k ∧ m2.pv = pv ∧ VOk (fun b => q.heap.size ≤ b ∧ IntRow p b) p m2, fun vv p => ∃ ac cc, (vv 8) = rdv ac l2'.length cc e2 ∧ Bs (fun b => w.heap.size ≤ b ∧ b < w5.heap.size) p ac l2'.length cc l2', fun vv p => ∃ m2 : VM, (vv 9) = m2.val ∧ m2.k = m.k ∧ m2.pv = pv ∧ VOk (fun b => q.heap.size ≤ b ∧ IntRow p b) p m2, fun vv p => ∃ g, (vv 10) = .pointer (some ⟨g, 0, none⟩) ∧ q.heap.size ≤ g ∧ T2 p g, fun vv p => ∃ g, (vv 11) = .pointer (some ⟨g, 0, none⟩) ∧ q.heap.size ≤ g ∧ p.heap[g]? = some (.cells #[.int .u8 0, .int .u64 0, .int .i64 0, .bool false, .string ⟨#[]⟩, .slice none 0 0] 34 (0, 0)), fun vv p => ∃ g, (vv 10) = .pointer (some ⟨g, 0, none⟩) ∧ q.heap.size ≤ g ∧ New2 (fun b => w.heap.size ≤ b ∧ b < w5.heap.size) l2' e2 p g] (by kernel_rfl) (by kernel_rfl) rfl ⟨rfl, rfl, rfl, rfl, trivial⟩ ((Below.refl _ _).drew) ?_ ?_ ?_
              · exact ⟨fun _ _ _ _ h => h, fun _ _ _ _ h => h, fun _ _ _ _ h => h, fun _ _ _ _ h => h, fun _ _ _ _ h => h, fun _ _ _ _ h => h, fun v p p' hs h => (match h with | ⟨ac, cc, m2, e, hB, hk, hp, ho⟩ => ⟨ac, cc, m2, e, hs.bs (fun b hb => by have := QS.out; have := hb.2; omega) hB, hk, hp, hs.vok ho⟩), fun v p p' hs h => (match h with | ⟨ac, cc, m2, e, hB, hk, hp, ho⟩ => ⟨ac, cc, m2, e, hs.bs (fun b hb => by have := QS.out; have := hb.2; omega) hB, hk, hp, hs.vok ho⟩), fun v p p' hs h => (match h with | ⟨ac, cc, e, hB⟩ => ⟨ac, cc, e, hs.bs (fun b hb => by have := QS.out; have := hb.2; omega) hB⟩), fun v p p' hs h => (match h with | ⟨m2, e, hk, hp, ho⟩ => ⟨m2, e, hk, hp, hs.vok ho⟩), fun v p p' hs h => (match h with | ⟨g, e, hg, h2⟩ => ⟨g, e, hg, hs.two g h2⟩), fun v p p' hs h => (match h with | ⟨g, e, hg, h2⟩ => ⟨g, e, hg, hs.row h2⟩), fun v p p' hs h => (match h with | ⟨g, e, hg, h2⟩ => ⟨g, e, hg, hs.new g hg h2⟩), trivial⟩
              · intro b0 hN hlv
                refine ⟨?_, ?_, ?_, ?_, ?_, ?_, ?_, ?_, ?_, ?_, ?_, ?_, ?_, trivial⟩
                · intro vals p hI hp
                  have e16 : (Roll.putD Drs20a vals [] b0).eval (.tmp 16) = .pointer (some ⟨gx, 0, none⟩) := (Roll.eval_old rfl).trans (hlv.at 1 (16, .pointer (some ⟨gx, 0, none⟩)) rfl)
                  clear hp hlv hN
                  unfold Roll.Goes
                  simp only [Lrs20a, List.getD_cons_zero, List.getD_cons_succ]
                  generalize Roll.putD Drs20a vals [] b0 = a1 at *
                  exact Roll.goes_load_row rfl 48 (.tmp 16) rfl gx e16 48 #[.slice ra l'.length rc, .int .i64 (e : Int)] (0, 0) _ ((hI.block _ (heap_lt Q0.out)).trans Q0.out) Try.underlying48 rfl (rdsz2 _ _) ⟨hI, ExS.below (Below.refl _ _), rfl⟩
                · intro vals p hI hp
                  have e11 : (Roll.putD Drs20a vals [] b0).eval (.tmp 11) = .slice (some ⟨b, off, none⟩) ns.length uc := (Roll.eval_old rfl).trans (hlv.at 0 (11, .slice (some ⟨b, off, none⟩) ns.length uc) rfl)
                  clear hp hlv hN
                  unfold Roll.Goes
                  simp only [Lrs20a, List.getD_cons_zero, List.getD_cons_succ]
                  generalize Roll.putD Drs20a vals [] b0 = a1 at *
                  refine Roll.goes_val (w' := p) (.slice (some ⟨b, off, none⟩) ns.length uc) rfl ?_ ⟨hI, ExS.below (Below.refl _ _), rfl⟩
                  (have ec : ∀ x, a1.eval (.const x) = x := fun _ => rfl); (have ef : ∀ x, a1.eval (.func x) = .func (.func x) #[] #[] := fun _ => rfl); generalize a1.eval = ρ at *
                  skip
                  go_simp <;> (intros; first | (exfalso; omega) | rfl)
                · intro vals p hI hp
                  have e17 : (Roll.putD Drs20a vals [] b0).eval (.tmp 17) = .int .i64 (i : Int) := (Roll.eval_old rfl).trans (hlv.at 2 (17, .int .i64 (i : Int)) rfl)
                  clear hp hlv hN
                  unfold Roll.Goes
                  simp only [Lrs20a, List.getD_cons_zero, List.getD_cons_succ]
                  generalize Roll.putD Drs20a vals [] b0 = a1 at *
                  refine Roll.goes_val (w' := p) (.int .i64 (i : Int)) rfl ?_ ⟨hI, ExS.below (Below.refl _ _), rfl⟩
                  (have ec : ∀ x, a1.eval (.const x) = x := fun _ => rfl); (have ef : ∀ x, a1.eval (.func x) = .func (.func x) #[] #[] := fun _ => rfl); generalize a1.eval = ρ at *
                  skip
                  go_simp <;> (intros; first | (exfalso; omega) | rfl)
                · intro vals p hI hp
                  have h1 : (vals 1) = .slice (some ⟨b, off, none⟩) ns.length uc := hp 1 (by simp [Lrs20a])
                  have h2 : (vals 2) = .int .i64 (i : Int) := hp 2 (by simp [Lrs20a])
                  have e79 : (Roll.putD Drs20a vals [1, 2] b0).eval (.tmp 79) = .slice (some ⟨b, off, none⟩) ns.length uc := (Roll.eval_new 1 rfl (by decide) (by decide) (by omega)).trans h1
                  have e80 : (Roll.putD Drs20a vals [1, 2] b0).eval (.tmp 80) = .int .i64 (i : Int) := (Roll.eval_new 2 rfl (by decide) (by decide) (by omega)).trans h2
                  clear hp hlv hN
                  unfold Roll.Goes
                  simp only [Lrs20a, List.getD_cons_zero, List.getD_cons_succ]
                  generalize Roll.putD Drs20a vals [1, 2] b0 = a1 at *
                  have z1 : (i : Int) < (ns.length : Int) := by omega
                  refine Roll.goes_val (w' := p) (.pointer (some ⟨b, off + i * 6, none⟩)) rfl ?_ ⟨hI, ExS.below (Below.refl _ _), rfl⟩
                  (have ec : ∀ x, a1.eval (.const x) = x := fun _ => rfl); (have ef : ∀ x, a1.eval (.func x) = .func (.func x) #[] #[] := fun _ => rfl); generalize a1.eval = ρ at *
                  clear h1 h2
                  go_simp <;> (intros; first | (exfalso; omega) | rfl)
                · intro vals p hI hp
                  have h3 : (vals 3) = .pointer (some ⟨b, off + i * 6, none⟩) := hp 3 (by simp [Lrs20a])
                  have e81 : (Roll.putD Drs20a vals [3] b0).eval (.tmp 81) = .pointer (some ⟨b, off + i * 6, none⟩) := (Roll.eval_new 3 rfl (by decide) (by decide) (by omega)).trans h3
                  clear hp hlv hN
                  unfold Roll.Goes
                  simp only [Lrs20a, List.getD_cons_zero, List.getD_cons_succ]
                  generalize Roll.putD Drs20a vals [3] b0 = a1 at *
                  exact Roll.goes_load_mid rfl 34 (.tmp 81) rfl b (off + i * 6) e81 m.cells _ (range_kept Qm.out Qb.out (Kept.of_below (fun _ => False) hI) (fun h => h)) Try.underlying34 rfl (by rw [VM.cells_len]; kernel_rfl) ⟨hI, ExS.below (Below.refl _ _), by rw [VM.cells_arr]; rfl⟩
                · intro vals p hI hp
                  have e18 : (Roll.putD Drs20a vals [] b0).eval (.tmp 18) = .int .i64 M := (Roll.eval_old rfl).trans (hlv.at 3 (18, .int .i64 M) rfl)
                  clear hp hlv hN
                  unfold Roll.Goes
                  simp only [Lrs20a, List.getD_cons_zero, List.getD_cons_succ]
                  generalize Roll.putD Drs20a vals [] b0 = a1 at *
                  refine Roll.goes_val (w' := p) (.int .i64 M) rfl ?_ ⟨hI, ExS.below (Below.refl _ _), rfl⟩
                  (have ec : ∀ x, a1.eval (.const x) = x := fun _ => rfl); (have ef : ∀ x, a1.eval (.func x) = .func (.func x) #[] #[] := fun _ => rfl); generalize a1.eval = ρ at *
                  skip
                  go_simp <;> (intros; first | (exfalso; omega) | rfl)
                · intro vals p hI hp
                  have h0 : (vals 0) = .agg #[.slice ra l'.length rc, .int .i64 (e : Int)] := hp 0 (by simp [Lrs20a])
                  have h4 : (vals 4) = m.val := hp 4 (by simp [Lrs20a])
                  have h5 : (vals 5) = .int .i64 M := hp 5 (by simp [Lrs20a])
                  have e78 : (Roll.putD Drs20a vals [0, 4, 5] b0).eval (.tmp 78) = .agg #[.slice ra l'.length rc, .int .i64 (e : Int)] := (Roll.eval_new 0 rfl (by decide) (by decide) (by omega)).trans h0
                  have e82 : (Roll.putD Drs20a vals [0, 4, 5] b0).eval (.tmp 82) = m.val := (Roll.eval_new 4 rfl (by decide) (by decide) (by omega)).trans h4
                  have e83 : (Roll.putD Drs20a vals [0, 4, 5] b0).eval (.tmp 83) = .int .i64 M := (Roll.eval_new 5 rfl (by decide) (by decide) (by omega)).trans h5
                  clear hp hlv hN
                  unfold Roll.Goes
                  simp only [Lrs20a, List.getD_cons_zero, List.getD_cons_succ]
                  generalize Roll.putD Drs20a vals [0, 4, 5] b0 = a1 at *
                  refine Roll.goes_call 22 #[.agg #[.slice ra l'.length rc, .int .i64 (e : Int)], m.val, .int .i64 M] p rfl (by have ec : ∀ x, a1.eval (.const x) = x := fun _ => rfl; have ef : ∀ x, a1.eval (.func x) = .func (.func x) #[] #[] := fun _ => rfl; generalize a1.eval = ρ at *; go_simp) ?_
                  refine (expected_any (fun b => w.heap.size ≤ b ∧ b < w5.heap.size) ra rc l' e m M p (QB.out.kept (Kept.of_below (fun _ => False) hI) (fun _ _ _ h => h)) (by omega) Hmk.out hM1 hM2).mono ?_
                  rintro y p2 ⟨ac, cc, m2, rfl, hB2, hk2, hp2, ho2, hb⟩
                  rw [HR2.out] at hB2 hp2
                  exact ⟨_, rfl, hI.trans (hb.mono hI.size), ExS.below hb, ac, cc, m2, by rw [HR2.out]; rfl, hB2, hk2, hp2, ho2.dom (fun b hb2 => ⟨Nat.le_trans hI.size hb2.1, hb2.2⟩)⟩
                · intro vals p hI hp
                  have h6 : ∃ ac cc, ∃ m2 : VM, (vals 6) = .tuple #[rdv ac l2'.length cc e2, m2.val] ∧ Bs (fun b => w.heap.size ≤ b ∧ b < w5.heap.size) p ac l2'.length cc l2' ∧ m2.k = m.k ∧ m2.pv = pv ∧ VOk (fun b => q.heap.size ≤ b ∧ IntRow p b) p m2 := hp 6 (by simp [Lrs20a])
                  have e84 : (Roll.putD Drs20a vals [6] b0).eval (.tmp 84) = vals 6 := (Roll.eval_new 6 rfl (by decide) (by decide) (by omega))
                  clear hp hlv hN
                  unfold Roll.Goes
                  simp only [Lrs20a, List.getD_cons_zero, List.getD_cons_succ]
                  generalize Roll.putD Drs20a vals [6] b0 = a1 at *
                  exact Roll.goes_val (w' := p) (vals 6) rfl (by unfold execOp; simp only [e84, Sem.run_pure]) ⟨hI, ExS.below (Below.refl _ _), h6⟩
                · intro vals p hI hp
                  have h7 : ∃ ac cc, ∃ m2 : VM, (vals 7) = .tuple #[rdv ac l2'.length cc e2, m2.val] ∧ Bs (fun b => w.heap.size ≤ b ∧ b < w5.heap.size) p ac l2'.length cc l2' ∧ m2.k = m.k ∧ m2.pv = pv ∧ VOk (fun b => q.heap.size ≤ b ∧ IntRow p b) p m2 := hp 7 (by simp [Lrs20a])
                  have e77 : (Roll.putD Drs20a vals [7] b0).eval (.tmp 77) = vals 7 := (Roll.eval_new 7 rfl (by decide) (by decide) (by omega))
                  clear hp hlv hN
                  unfold Roll.Goes
                  simp only [Lrs20a, List.getD_cons_zero, List.getD_cons_succ]
                  generalize Roll.putD Drs20a vals [7] b0 = a1 at *
                  obtain ⟨ac, cc, m2, e7, hB7, hk7, hp7, ho7⟩ := h7
                  rw [e7] at e77
                  refine Roll.goes_val (w' := p) (rdv ac l2'.length cc e2) rfl ?_ ⟨hI, ExS.below (Below.refl _ _), ac, cc, rfl, hB7⟩
                  clear hB7 hk7 hp7 ho7 e7 hI
                  generalize rdv ac l2'.length cc e2 = Z at *
                  generalize m2.val = Z2 at *
                  generalize a1.eval = ρ at *
                  go_simp
                · intro vals p hI hp
                  have h7 : ∃ ac cc, ∃ m2 : VM, (vals 7) = .tuple #[rdv ac l2'.length cc e2, m2.val] ∧ Bs (fun b => w.heap.size ≤ b ∧ b < w5.heap.size) p ac l2'.length cc l2' ∧ m2.k = m.k ∧ m2.pv = pv ∧ VOk (fun b => q.heap.size ≤ b ∧ IntRow p b) p m2 := hp 7 (by simp [Lrs20a])
                  have e77 : (Roll.putD Drs20a vals [7] b0).eval (.tmp 77) = vals 7 := (Roll.eval_new 7 rfl (by decide) (by decide) (by omega))
                  clear hp hlv hN
                  unfold Roll.Goes
                  simp only [Lrs20a, List.getD_cons_zero, List.getD_cons_succ]
                  generalize Roll.putD Drs20a vals [7] b0 = a1 at *
                  obtain ⟨ac, cc, m2, e7, hB7, hk7, hp7, ho7⟩ := h7
                  rw [e7] at e77
                  refine Roll.goes_val (w' := p) m2.val rfl ?_ ⟨hI, ExS.below (Below.refl _ _), m2, rfl, hk7, hp7, ho7⟩
                  clear hB7 hk7 hp7 ho7 e7 hI
                  generalize rdv ac l2'.length cc e2 = Z at *
                  generalize m2.val = Z2 at *
                  generalize a1.eval = ρ at *
                  go_simp
                · intro vals p hI hp
                  clear hp hlv hN
                  unfold Roll.Goes
                  simp only [Lrs20a, List.getD_cons_zero, List.getD_cons_succ]
                  generalize Roll.putD Drs20a vals [] b0 = a1 at *
                  have hb := (Below.refl p.heap.size p).alloc (Nat.le_refl _) (.cells #[.slice none 0 0, .int .i64 0] 48)
                  refine Roll.goes_val (w' := p.alloc (.cells #[.slice none 0 0, .int .i64 0] 48)) (.pointer (some ⟨p.heap.size, 0, none⟩)) rfl ?_ ⟨hI.trans (hb.mono hI.size), ExS.below hb, p.heap.size, rfl, hI.size, _, _, heap_new rfl⟩
                  clear hb hI
                  generalize a1.eval = ρ at *
                  go_simp
                · intro vals p hI hp
                  clear hp hlv hN
                  unfold Roll.Goes
                  simp only [Lrs20a, List.getD_cons_zero, List.getD_cons_succ]
                  generalize Roll.putD Drs20a vals [] b0 = a1 at *
                  have hb := (Below.refl p.heap.size p).alloc (Nat.le_refl _) (.cells #[.int .u8 0, .int .u64 0, .int .i64 0, .bool false, .string ⟨#[]⟩, .slice none 0 0] 34)
                  refine Roll.goes_val (w' := p.alloc (.cells #[.int .u8 0, .int .u64 0, .int .i64 0, .bool false, .string ⟨#[]⟩, .slice none 0 0] 34)) (.pointer (some ⟨p.heap.size, 0, none⟩)) rfl ?_ ⟨hI.trans (hb.mono hI.size), ExS.below hb, p.heap.size, rfl, hI.size, heap_new rfl⟩
                  clear hb hI
                  generalize a1.eval = ρ at *
                  go_simp
                · intro vals p hI hp
                  have h10 : ∃ g, (vals 10) = .pointer (some ⟨g, 0, none⟩) ∧ q.heap.size ≤ g ∧ T2 p g := hp 10 (by simp [Lrs20a])
                  have h8 : ∃ ac cc, (vals 8) = rdv ac l2'.length cc e2 ∧ Bs (fun b => w.heap.size ≤ b ∧ b < w5.heap.size) p ac l2'.length cc l2' := hp 8 (by simp [Lrs20a])
                  have e20 : (Roll.putD Drs20a vals [10, 8] b0).eval (.tmp 20) = vals 10 := (Roll.eval_new 10 rfl (by decide) (by decide) (by omega))
                  have e85 : (Roll.putD Drs20a vals [10, 8] b0).eval (.tmp 85) = vals 8 := (Roll.eval_new 8 rfl (by decide) (by decide) (by omega))
                  clear hp hlv hN
                  unfold Roll.Goes
                  simp only [Lrs20a, List.getD_cons_zero, List.getD_cons_succ]
                  generalize Roll.putD Drs20a vals [10, 8] b0 = a1 at *
                  obtain ⟨g0, e10, hg0, hT0⟩ := h10
                  obtain ⟨ac, cc, e8, hB8⟩ := h8
                  obtain ⟨hS, hN⟩ := ExS.store (B := q.heap.size) (e := e2) (fun b hb => by have := QS.out; omega) hg0 hT0 hB8
                  obtain ⟨x1, y1, hold⟩ := hT0
                  rw [e10] at e20
                  rw [e8] at e85
                  exact Roll.goes_store_row rfl 48 (.tmp 20) (.tmp 85) rfl g0 #[.slice ac l2'.length cc, .int .i64 (e2 : Int)] e20 e85 48 #[x1, y1] hold (rdsz2 _ _) rfl (rdone _ _ _ _ _) ⟨Below_row hI hg0 _, hS, g0, e10, hg0, hN⟩
              · intro vals p hI hR
                have h0 : (vals 0) = .agg #[.slice ra l'.length rc, .int .i64 (e : Int)] := hR 0 (by omega)
                have h1 : (vals 1) = .slice (some ⟨b, off, none⟩) ns.length uc := hR 1 (by omega)
                have h2 : (vals 2) = .int .i64 (i : Int) := hR 2 (by omega)
                have h3 : (vals 3) = .pointer (some ⟨b, off + i * 6, none⟩) := hR 3 (by omega)
                have h4 : (vals 4) = m.val := hR 4 (by omega)
                have h5 : (vals 5) = .int .i64 M := hR 5 (by omega)
                have h6 : ∃ ac cc, ∃ m2 : VM, (vals 6) = .tuple #[rdv ac l2'.length cc e2, m2.val] ∧ Bs (fun b => w.heap.size ≤ b ∧ b < w5.heap.size) p ac l2'.length cc l2' ∧ m2.k = m.k ∧ m2.pv = pv ∧ VOk (fun b => q.heap.size ≤ b ∧ IntRow p b) p m2 := hR 6 (by omega)
                have h7 : ∃ ac cc, ∃ m2 : VM, (vals 7) = .tuple #[rdv ac l2'.length cc e2, m2.val] ∧ Bs (fun b => w.heap.size ≤ b ∧ b < w5.heap.size) p ac l2'.length cc l2' ∧ m2.k = m.k ∧ m2.pv = pv ∧ VOk (fun b => q.heap.size ≤ b ∧ IntRow p b) p m2 := hR 7 (by omega)
                have h8 : ∃ ac cc, (vals 8) = rdv ac l2'.length cc e2 ∧ Bs (fun b => w.heap.size ≤ b ∧ b < w5.heap.size) p ac l2'.length cc l2' := hR 8 (by omega)
                have h9 : ∃ m2 : VM, (vals 9) = m2.val ∧ m2.k = m.k ∧ m2.pv = pv ∧ VOk (fun b => q.heap.size ≤ b ∧ IntRow p b) p m2 := hR 9 (by omega)
                have h10 : ∃ g, (vals 10) = .pointer (some ⟨g, 0, none⟩) ∧ q.heap.size ≤ g ∧ T2 p g := hR 10 (by omega)
                have h11 : ∃ g, (vals 11) = .pointer (some ⟨g, 0, none⟩) ∧ q.heap.size ≤ g ∧ p.heap[g]? = some (.cells #[.int .u8 0, .int .u64 0, .int .i64 0, .bool false, .string ⟨#[]⟩, .slice none 0 0] 34 (0, 0)) := hR 11 (by omega)
                have h12 : ∃ g, (vals 10) = .pointer (some ⟨g, 0, none⟩) ∧ q.heap.size ≤ g ∧ New2 (fun b => w.heap.size ≤ b ∧ b < w5.heap.size) l2' e2 p g := hR 12 (by omega)
                clear hR
                simp only [List.range_succ, List.range_zero, List.nil_append, List.cons_append, Roll.putD, Act.put, List.getD_cons_zero, List.getD_cons_succ, List.setIfInBounds_toArray, List.set_cons_zero, List.set_cons_succ, List.drop_succ_cons, List.drop_zero, Drs20a]
                simp only [h0, h1, h2, h3, h4, h5]
                clear h0 h1 h2 h3 h4 h5
                obtain ⟨g21, ev11, hg21, hr21⟩ := h11
                obtain ⟨g20, ev10, hg20, hn20⟩ := h12
                obtain ⟨m2, ev9, hk9, hp9, ho9⟩ := h9
                rw [ev11, ev10, ev9]
                simp only [VM.val]
                obtain ⟨ac, cc, hc20, hB20⟩ := hn20
                clear h6 h7 h8 h10 ev11 ev10 ev9
                have Hr21 := Lib.hid hr21
                have Hc20 := Lib.hid hc20
                have HB20 := Lib.hid hB20
                have Ho9 := Lib.hid ho9
                have Hp9 := Lib.hid hp9
                have Hk9 := Lib.hid hk9
                have HI := Lib.hid hI
                have ne21 : g20 ≠ g21 := by
                  intro h
                  rw [h, hr21] at hc20
                  simp at hc20
                have Hne := Lib.hid ne21
                clear hr21 hc20 hB20 ho9 hp9 hI ne21 hk9
                go_upto_region 22 with (first
                  | (refine wpList_load_row rfl 48 (.tmp 20) rfl g20 rfl 48 _ (0, 0) _ ((setRow_other _ _ _ _ Hne.out).trans Hc20.out) Try.underlying48 rfl (rdsz2 _ _) ?_)
                  | (refine wpList_store_row rfl 48 (.tmp 16) (.tmp 87) rfl gx _ rfl rfl 48 _ ((setRow_other _ _ _ _ (by have := QS.out; omega)).trans ((HI.out.block _ (heap_lt Q0.out)).trans Q0.out)) (rdsz2 _ _) rfl (rdone _ _ _ _ _) ?_)
                  | (refine wpList_store_row rfl 34 (.tmp 21) (.tmp 86) rfl g21 m2.cells.toArray rfl rfl 34 _ Hr21.out (size34 m2.cells (VM.cells_len _)) rfl (by simp [VM.cells, Value.oneCell']) ?_))
                obtain ⟨r, hr⟩ : ∃ r, r = (p.setRow g21 m2.cells.toArray).setRow gx #[.slice ac l2'.length cc, .int .i64 (e2 : Int)] := ⟨_, rfl⟩
                rw [← hr]
                have KA : Kept (fun j => j = g21 ∨ j = gx) p r := by rw [hr]; exact ((Kept.refl (fun j => j = g21 ∨ j = gx) p).setRow (fun _ => .inl rfl) _).setRow (fun _ => .inr rfl) _
                have hqs := QS.out
                have hgk := Hgg.out
                have hg19 := Hg19.out
                have hgx8 : gx < w8.heap.size := Nat.lt_of_lt_of_le (Nat.lt_of_lt_of_le Hz7.out HA.out.kept.size) H8.out.2.size
                have hq8 : q.heap.size = w8.heap.size + 1 := by rw [Hq.out, size_alloc1]
                have K8p : Below w8.heap.size w8 p := (show Below w8.heap.size w8 q by rw [Hq.out]; exact (Below.refl _ _).alloc (Nat.le_refl _) _).trans (HI.out.mono (by omega))
                have R19 : Hid (r.heap[g19]? = some (.cells m1.cells.toArray 34 (0, 0))) := Lib.hid (KA.heap ((HI.out.block _ (heap_lt Q19.out)).trans Q19.out) (by omega))
                have R21 : Hid (r.heap[g21]? = some (.cells m2.cells.toArray 34 (0, 0))) := Lib.hid (by rw [hr]; exact (setRow_other _ _ _ _ (by omega)).trans (setRow_heap _ _ _ _ _ _ Hr21.out))
                have RX : Hid (RdB r gx ac l2'.length cc e2) := Lib.hid (by rw [hr]; exact setRow_heap _ _ _ _ _ _ ((setRow_other _ _ _ _ (by omega)).trans ((HI.out.block _ (heap_lt Q0.out)).trans Q0.out)))
                have RB : Hid (Bs (fun b => w.heap.size ≤ b ∧ b < w5.heap.size) r ac l2'.length cc l2') := Lib.hid (HB20.out.kept KA (fun b _ hb h => by have := hb.2; omega))
                have RV1 : Hid (VOk (fun b => wr.heap.size ≤ b ∧ b < w8.heap.size) r m1) := Lib.hid (((Ho1.out.dom2 (D' := fun b => wr.heap.size ≤ b ∧ b < w8.heap.size) (fun b hb hd => ⟨hd, hb⟩)).kept (Kept.of_below (fun _ => False) K8p) (fun _ _ _ h => h)).kept KA (fun b _ hb h => by have := hb.1; have := hb.2; have := HA.out.kept.size; have := Hz7.out; omega))
                have RV2 : Hid (VOk (fun b => q.heap.size ≤ b ∧ IntRow p b) r m2) := Lib.hid (Ho9.out.kept KA (fun b _ hb h => by
                  rcases h with rfl | rfl
                  · obtain ⟨cur, hc⟩ := hb.2
                    have := Hr21.out
                    rw [hc] at this
                    simp at this
                  · have := hb.1; omega))
                have RG : Hid (Rd r g k3 l2 e2) := Lib.hid ((H8.out.1.kept (Kept.of_below (fun _ => False) K8p) (fun h => h) (fun _ _ h => h)).kept KA (by omega) (fun j hj h => by have := (Hkk.out j hj).2; omega))
                have KF : Hid (Kept (fun b => b = g ∨ b = gx) w7 r) := Lib.hid (((HA.out.kept.trans (QK.out) (fun j _ h => .inl h)).trans (Kept.of_below (fun b => b = g ∨ b = gx) HI.out) (fun _ _ h => h)).trans KA (fun j hj h => by
                  rcases h with rfl | rfl
                  · have h1 := HA.out.kept.size; have h2 := QK.out.size; omega
                  · exact .inr rfl))
                have HE1 := Lib.hid (endE_sim l2 l2' e2 Hs3.out)
                have Hps : Hid (psame m1.k m1.pv m2.pv = true) := Lib.hid (by rw [Hp1.out, Hp9.out]; exact psame_refl _ _)
                have Hge : Hid (gx < r.heap.size) := Lib.hid (heap_lt RX.out)
                have HlA := HA.out.len
                have hl2'b : l2'.length ≤ 9223372036854775807 := by have := Hln'.out; omega
                obtain ⟨E, hE⟩ : ∃ E, E = endE e2 l2.length := ⟨_, rfl⟩
                have HE := Lib.hid hE
                clear hr KA hqs hgk hg19 hgx8 hq8 K8p HlA hE Hr21 Hc20 HB20 Ho9 Hp9 HI Hne
                refine Roll.region_f 18 107 Drs22a Lrs22a [(15, .pointer (some ⟨g, 0, none⟩)), (16, .pointer (some ⟨gx, 0, none⟩)), (19, .pointer (some ⟨g19, 0, none⟩)), (21, .pointer (some ⟨g21, 0, none⟩))] (fun p => Below r.heap.size r p) (fun p p' => Below p.heap.size p p') [fun vv p => vv = .agg m1.cells.toArray, fun vv p => vv = .agg m2.cells.toArray, fun vv p => vv = .bool true, fun vv p => vv = .bool false, fun vv p => vv = .bool false, fun vv p => vv = .pointer (some ⟨g, 0, none⟩), fun vv p => vv = .int .i64 (e2 : Int), fun vv p => vv = .pointer (some ⟨gx, 1, none⟩), fun vv p => vv = .int .i64 (e2 : Int), fun vv p => vv = .bool false, fun vv p => vv = .bool false, fun vv p => vv = .bool false, fun vv p => vv = .pointer (some ⟨g, 0, none⟩), fun vv p => vv = .int .i64 (E : Int), fun vv p => vv = .agg #[.slice ac l2'.length cc, .int .i64 (e2 : Int)], fun vv p => vv = .int .i64 (E : Int), fun vv p => vv = .bool false, fun vv p => vv = .bool false] (by kernel_rfl) (by kernel_rfl) rfl ⟨rfl, rfl, rfl, rfl, trivial⟩ ((Below.refl _ _).drew) ?_ ?_ ?_
                · exact ⟨fun _ _ _ _ h => h, fun _ _ _ _ h => h, fun _ _ _ _ h => h, fun _ _ _ _ h => h, fun _ _ _ _ h => h, fun _ _ _ _ h => h, fun _ _ _ _ h => h, fun _ _ _ _ h => h, fun _ _ _ _ h => h, fun _ _ _ _ h => h, fun _ _ _ _ h => h, fun _ _ _ _ h => h, fun _ _ _ _ h => h, fun _ _ _ _ h => h, fun _ _ _ _ h => h, fun _ _ _ _ h => h, fun _ _ _ _ h => h, fun _ _ _ _ h => h, trivial⟩
                · intro b0 hN hlv
                  refine ⟨?_, ?_, ?_, ?_, ?_, ?_, ?_, ?_, ?_, ?_, ?_, ?_, ?_, ?_, ?_, ?_, ?_, ?_, trivial⟩
                  · intro vals p hI hp
                    have e19 : (Roll.putD Drs22a vals [] b0).eval (.tmp 19) = .pointer (some ⟨g19, 0, none⟩) := (Roll.eval_old rfl).trans (hlv.at 2 (19, .pointer (some ⟨g19, 0, none⟩)) rfl)
                    clear hp hlv hN
                    unfold Roll.Goes
                    simp only [Lrs22a, List.getD_cons_zero, List.getD_cons_succ]
                    generalize Roll.putD Drs22a vals [] b0 = a1 at *
                    exact Roll.goes_load_row rfl 34 (.tmp 19) rfl g19 e19 34 m1.cells.toArray (0, 0) _ ((hI.block _ (heap_lt R19.out)).trans R19.out) Try.underlying34 rfl (size34 m1.cells (VM.cells_len _)) ⟨hI, Below.refl _ _, rfl⟩
                  · intro vals p hI hp
                    have e21 : (Roll.putD Drs22a vals [] b0).eval (.tmp 21) = .pointer (some ⟨g21, 0, none⟩) := (Roll.eval_old rfl).trans (hlv.at 3 (21, .pointer (some ⟨g21, 0, none⟩)) rfl)
                    clear hp hlv hN
                    unfold Roll.Goes
                    simp only [Lrs22a, List.getD_cons_zero, List.getD_cons_succ]
                    generalize Roll.putD Drs22a vals [] b0 = a1 at *
                    exact Roll.goes_load_row rfl 34 (.tmp 21) rfl g21 e21 34 m2.cells.toArray (0, 0) _ ((hI.block _ (heap_lt R21.out)).trans R21.out) Try.underlying34 rfl (size34 m2.cells (VM.cells_len _)) ⟨hI, Below.refl _ _, rfl⟩
                  · intro vals p hI hp
                    have h0 : (vals 0) = .agg m1.cells.toArray := hp 0 (by simp [Lrs22a])
                    have h1 : (vals 1) = .agg m2.cells.toArray := hp 1 (by simp [Lrs22a])
                    have e88 : (Roll.putD Drs22a vals [0, 1] b0).eval (.tmp 88) = .agg m1.cells.toArray := (Roll.eval_new 0 rfl (by decide) (by decide) (by omega)).trans h0
                    have e89 : (Roll.putD Drs22a vals [0, 1] b0).eval (.tmp 89) = .agg m2.cells.toArray := (Roll.eval_new 1 rfl (by decide) (by decide) (by omega)).trans h1
                    clear hp hlv hN
                    unfold Roll.Goes
                    simp only [Lrs22a, List.getD_cons_zero, List.getD_cons_succ]
                    generalize Roll.putD Drs22a vals [0, 1] b0 = a1 at *
                    refine Roll.goes_call 23 #[.agg m1.cells.toArray, .agg m2.cells.toArray] p rfl (by have ec : ∀ x, a1.eval (.const x) = x := fun _ => rfl; have ef : ∀ x, a1.eval (.func x) = .func (.func x) #[] #[] := fun _ => rfl; generalize a1.eval = ρ at *; go_simp) ?_
                    refine (same_any _ _ m1 m2 p (RV1.out.kept (Kept.of_below (fun _ => False) hI) (fun _ _ _ h => h)) (RV2.out.kept (Kept.of_below (fun _ => False) hI) (fun _ _ _ h => h))).mono ?_
                    rw [Hps.out]
                    rintro y p2 ⟨rfl, hb⟩
                    exact ⟨_, rfl, hI.trans (hb.mono hI.size), hb, rfl⟩
                  · intro vals p hI hp
                    have h2 : (vals 2) = .bool true := hp 2 (by simp [Lrs22a])
                    have e90 : (Roll.putD Drs22a vals [2] b0).eval (.tmp 90) = .bool true := (Roll.eval_new 2 rfl (by decide) (by decide) (by omega)).trans h2
                    clear hp hlv hN
                    unfold Roll.Goes
                    simp only [Lrs22a, List.getD_cons_zero, List.getD_cons_succ]
                    generalize Roll.putD Drs22a vals [2] b0 = a1 at *
                    refine Roll.goes_val (w' := p) (.bool false) rfl ?_ ⟨hI, Below.refl _ _, rfl⟩
                    (have ec : ∀ x, a1.eval (.const x) = x := fun _ => rfl); (have ef : ∀ x, a1.eval (.func x) = .func (.func x) #[] #[] := fun _ => rfl); generalize a1.eval = ρ at *
                    clear h2
                    go_simp <;> (intros; first | (exfalso; omega) | rfl)
                  · intro vals p hI hp
                    have h3 : (vals 3) = .bool false := hp 3 (by simp [Lrs22a])
                    have e91 : (Roll.putD Drs22a vals [3] b0).eval (.tmp 91) = .bool false := (Roll.eval_new 3 rfl (by decide) (by decide) (by omega)).trans h3
                    clear hp hlv hN
                    unfold Roll.Goes
                    simp only [Lrs22a, List.getD_cons_zero, List.getD_cons_succ]
                    generalize Roll.putD Drs22a vals [3] b0 = a1 at *
                    refine Roll.goes_val (w' := p) (.bool false) rfl ?_ ⟨hI, Below.refl _ _, rfl⟩
                    (have ec : ∀ x, a1.eval (.const x) = x := fun _ => rfl); (have ef : ∀ x, a1.eval (.func x) = .func (.func x) #[] #[] := fun _ => rfl); generalize a1.eval = ρ at *
                    clear h3
                    go_simp <;> (intros; first | (exfalso; omega) | rfl)
                  · intro vals p hI hp
                    have h4 : (vals 4) = .bool false := hp 4 (by simp [Lrs22a])
                    have e15 : (Roll.putD Drs22a vals [4] b0).eval (.tmp 15) = .pointer (some ⟨g, 0, none⟩) := (Roll.eval_old rfl).trans (hlv.at 0 (15, .pointer (some ⟨g, 0, none⟩)) rfl)
                    clear hp hlv hN
                    refine ⟨fun hg => ?_, fun hg => absurd h4 hg⟩
                    clear hg
                    unfold Roll.Goes
                    simp only [Lrs22a, List.getD_cons_zero, List.getD_cons_succ]
                    generalize Roll.putD Drs22a vals [4] b0 = a1 at *
                    refine Roll.goes_val (w' := p) (.pointer (some ⟨g, 0, none⟩)) rfl ?_ ⟨hI, Below.refl _ _, rfl⟩
                    (have ec : ∀ x, a1.eval (.const x) = x := fun _ => rfl); (have ef : ∀ x, a1.eval (.func x) = .func (.func x) #[] #[] := fun _ => rfl); generalize a1.eval = ρ at *
                    clear h4
                    go_simp <;> (intros; first | (exfalso; omega) | rfl)
                  · intro vals p hI hp
                    have h5 : (vals 5) = .pointer (some ⟨g, 0, none⟩) := hp 5 (by simp [Lrs22a])
                    have h4 : (vals 4) = .bool false := hp 4 (by simp [Lrs22a])
                    have e93 : (Roll.putD Drs22a vals [5, 4] b0).eval (.tmp 93) = .pointer (some ⟨g, 0, none⟩) := (Roll.eval_new 5 rfl (by decide) (by decide) (by omega)).trans h5
                    clear hp hlv hN
                    refine ⟨fun hg => ?_, fun hg => absurd h4 hg⟩
                    clear hg
                    unfold Roll.Goes
                    simp only [Lrs22a, List.getD_cons_zero, List.getD_cons_succ]
                    generalize Roll.putD Drs22a vals [5, 4] b0 = a1 at *
                    refine Roll.goes_call 24 #[.pointer (some ⟨g, 0, none⟩)] p rfl (by have ec : ∀ x, a1.eval (.const x) = x := fun _ => rfl; have ef : ∀ x, a1.eval (.func x) = .func (.func x) #[] #[] := fun _ => rfl; generalize a1.eval = ρ at *; go_simp) ?_
                    refine (err_any g k3 l2 e2 p (RG.out.kept (Kept.of_below (fun _ => False) hI) (fun h => h) (fun _ _ h => h))).mono ?_
                    rintro y p2 ⟨rfl, rfl⟩
                    exact ⟨_, rfl, hI, Below.refl _ _, rfl⟩
                  · intro vals p hI hp
                    have h4 : (vals 4) = .bool false := hp 4 (by simp [Lrs22a])
                    have e16 : (Roll.putD Drs22a vals [4] b0).eval (.tmp 16) = .pointer (some ⟨gx, 0, none⟩) := (Roll.eval_old rfl).trans (hlv.at 1 (16, .pointer (some ⟨gx, 0, none⟩)) rfl)
                    clear hp hlv hN
                    refine ⟨fun hg => ?_, fun hg => absurd h4 hg⟩
                    clear hg
                    unfold Roll.Goes
                    simp only [Lrs22a, List.getD_cons_zero, List.getD_cons_succ]
                    generalize Roll.putD Drs22a vals [4] b0 = a1 at *
                    refine Roll.goes_val (w' := p) (.pointer (some ⟨gx, 1, none⟩)) rfl ?_ ⟨hI, Below.refl _ _, rfl⟩
                    (have ec : ∀ x, a1.eval (.const x) = x := fun _ => rfl); (have ef : ∀ x, a1.eval (.func x) = .func (.func x) #[] #[] := fun _ => rfl); generalize a1.eval = ρ at *
                    clear h4
                    go_simp <;> (intros; first | (exfalso; omega) | rfl)
                  · intro vals p hI hp
                    have h7 : (vals 7) = .pointer (some ⟨gx, 1, none⟩) := hp 7 (by simp [Lrs22a])
                    have h4 : (vals 4) = .bool false := hp 4 (by simp [Lrs22a])
                    have e95 : (Roll.putD Drs22a vals [7, 4] b0).eval (.tmp 95) = .pointer (some ⟨gx, 1, none⟩) := (Roll.eval_new 7 rfl (by decide) (by decide) (by omega)).trans h7
                    clear hp hlv hN
                    refine ⟨fun hg => ?_, fun hg => absurd h4 hg⟩
                    clear hg
                    unfold Roll.Goes
                    simp only [Lrs22a, List.getD_cons_zero, List.getD_cons_succ]
                    generalize Roll.putD Drs22a vals [7, 4] b0 = a1 at *
                    have c1 := (hI.cell (p := ⟨gx, 1, none⟩) Hge.out).trans RX.out.facts.2.1
                    refine Roll.goes_val (w' := p) (.int .i64 (e2 : Int)) rfl ?_ ⟨hI, Below.refl _ _, rfl⟩
                    (have ec : ∀ x, a1.eval (.const x) = x := fun _ => rfl); (have ef : ∀ x, a1.eval (.func x) = .func (.func x) #[] #[] := fun _ => rfl); generalize a1.eval = ρ at *
                    clear h7 h4
                    go_simp <;> (intros; first | (exfalso; omega) | rfl)
                  · intro vals p hI hp
                    have h6 : (vals 6) = .int .i64 (e2 : Int) := hp 6 (by simp [Lrs22a])
                    have h8 : (vals 8) = .int .i64 (e2 : Int) := hp 8 (by simp [Lrs22a])
                    have h4 : (vals 4) = .bool false := hp 4 (by simp [Lrs22a])
                    have e94 : (Roll.putD Drs22a vals [6, 8, 4] b0).eval (.tmp 94) = .int .i64 (e2 : Int) := (Roll.eval_new 6 rfl (by decide) (by decide) (by omega)).trans h6
                    have e96 : (Roll.putD Drs22a vals [6, 8, 4] b0).eval (.tmp 96) = .int .i64 (e2 : Int) := (Roll.eval_new 8 rfl (by decide) (by decide) (by omega)).trans h8
                    clear hp hlv hN
                    refine ⟨fun hg => ?_, fun hg => absurd h4 hg⟩
                    clear hg
                    unfold Roll.Goes
                    simp only [Lrs22a, List.getD_cons_zero, List.getD_cons_succ]
                    generalize Roll.putD Drs22a vals [6, 8, 4] b0 = a1 at *
                    refine Roll.goes_val (w' := p) (.bool false) rfl ?_ ⟨hI, Below.refl _ _, rfl⟩
                    (have ec : ∀ x, a1.eval (.const x) = x := fun _ => rfl); (have ef : ∀ x, a1.eval (.func x) = .func (.func x) #[] #[] := fun _ => rfl); generalize a1.eval = ρ at *
                    clear h6 h8 h4
                    go_simp <;> (intros; first | (exfalso; omega) | rfl)
                  · intro vals p hI hp
                    have h4 : (vals 4) = .bool false := hp 4 (by simp [Lrs22a])
                    have h9 : (vals 9) = .bool false := hp 9 (by simp [Lrs22a])
                    have e92 : (Roll.putD Drs22a vals [4, 9] b0).eval (.tmp 92) = .bool false := (Roll.eval_new 4 rfl (by decide) (by decide) (by omega)).trans h4
                    have e97 : (Roll.putD Drs22a vals [4, 9] b0).eval (.tmp 97) = .bool false := (Roll.eval_new 9 rfl (by decide) (by decide) (by omega)).trans h9
                    clear hp hlv hN
                    unfold Roll.Goes
                    simp only [Lrs22a, List.getD_cons_zero, List.getD_cons_succ]
                    generalize Roll.putD Drs22a vals [4, 9] b0 = a1 at *
                    refine Roll.goes_val (w' := p) (.bool false) rfl ?_ ⟨hI, Below.refl _ _, rfl⟩
                    (have ec : ∀ x, a1.eval (.const x) = x := fun _ => rfl); (have ef : ∀ x, a1.eval (.func x) = .func (.func x) #[] #[] := fun _ => rfl); generalize a1.eval = ρ at *
                    clear h4 h9
                    go_simp <;> (intros; first | (exfalso; omega) | rfl)
                  · intro vals p hI hp
                    have h10 : (vals 10) = .bool false := hp 10 (by simp [Lrs22a])
                    have e98 : (Roll.putD Drs22a vals [10] b0).eval (.tmp 98) = .bool false := (Roll.eval_new 10 rfl (by decide) (by decide) (by omega)).trans h10
                    clear hp hlv hN
                    unfold Roll.Goes
                    simp only [Lrs22a, List.getD_cons_zero, List.getD_cons_succ]
                    generalize Roll.putD Drs22a vals [10] b0 = a1 at *
                    refine Roll.goes_val (w' := p) (.bool false) rfl ?_ ⟨hI, Below.refl _ _, rfl⟩
                    (have ec : ∀ x, a1.eval (.const x) = x := fun _ => rfl); (have ef : ∀ x, a1.eval (.func x) = .func (.func x) #[] #[] := fun _ => rfl); generalize a1.eval = ρ at *
                    clear h10
                    go_simp <;> (intros; first | (exfalso; omega) | rfl)
                  · intro vals p hI hp
                    have h11 : (vals 11) = .bool false := hp 11 (by simp [Lrs22a])
                    have e15 : (Roll.putD Drs22a vals [11] b0).eval (.tmp 15) = .pointer (some ⟨g, 0, none⟩) := (Roll.eval_old rfl).trans (hlv.at 0 (15, .pointer (some ⟨g, 0, none⟩)) rfl)
                    clear hp hlv hN
                    refine ⟨fun hg => ?_, fun hg => absurd h11 hg⟩
                    clear hg
                    unfold Roll.Goes
                    simp only [Lrs22a, List.getD_cons_zero, List.getD_cons_succ]
                    generalize Roll.putD Drs22a vals [11] b0 = a1 at *
                    refine Roll.goes_val (w' := p) (.pointer (some ⟨g, 0, none⟩)) rfl ?_ ⟨hI, Below.refl _ _, rfl⟩
                    (have ec : ∀ x, a1.eval (.const x) = x := fun _ => rfl); (have ef : ∀ x, a1.eval (.func x) = .func (.func x) #[] #[] := fun _ => rfl); generalize a1.eval = ρ at *
                    clear h11
                    go_simp <;> (intros; first | (exfalso; omega) | rfl)
                  · intro vals p hI hp
                    have h12 : (vals 12) = .pointer (some ⟨g, 0, none⟩) := hp 12 (by simp [Lrs22a])
                    have h11 : (vals 11) = .bool false := hp 11 (by simp [Lrs22a])
                    have e100 : (Roll.putD Drs22a vals [12, 11] b0).eval (.tmp 100) = .pointer (some ⟨g, 0, none⟩) := (Roll.eval_new 12 rfl (by decide) (by decide) (by omega)).trans h12
                    clear hp hlv hN
                    refine ⟨fun hg => ?_, fun hg => absurd h11 hg⟩
                    clear hg
                    unfold Roll.Goes
                    simp only [Lrs22a, List.getD_cons_zero, List.getD_cons_succ]
                    generalize Roll.putD Drs22a vals [12, 11] b0 = a1 at *
                    refine Roll.goes_call 25 #[.pointer (some ⟨g, 0, none⟩)] p rfl (by have ec : ∀ x, a1.eval (.const x) = x := fun _ => rfl; have ef : ∀ x, a1.eval (.func x) = .func (.func x) #[] #[] := fun _ => rfl; generalize a1.eval = ρ at *; go_simp) ?_
                    refine (end_any g k3 l2 e2 p (RG.out.kept (Kept.of_below (fun _ => False) hI) (fun h => h) (fun _ _ h => h))).mono ?_
                    rw [← HE.out]
                    rintro y p2 ⟨rfl, rfl⟩
                    exact ⟨_, rfl, hI, Below.refl _ _, rfl⟩
                  · intro vals p hI hp
                    have h11 : (vals 11) = .bool false := hp 11 (by simp [Lrs22a])
                    have e16 : (Roll.putD Drs22a vals [11] b0).eval (.tmp 16) = .pointer (some ⟨gx, 0, none⟩) := (Roll.eval_old rfl).trans (hlv.at 1 (16, .pointer (some ⟨gx, 0, none⟩)) rfl)
                    clear hp hlv hN
                    refine ⟨fun hg => ?_, fun hg => absurd h11 hg⟩
                    clear hg
                    unfold Roll.Goes
                    simp only [Lrs22a, List.getD_cons_zero, List.getD_cons_succ]
                    generalize Roll.putD Drs22a vals [11] b0 = a1 at *
                    exact Roll.goes_load_row rfl 48 (.tmp 16) rfl gx e16 48 #[.slice ac l2'.length cc, .int .i64 (e2 : Int)] (0, 0) _ ((hI.block _ Hge.out).trans RX.out) Try.underlying48 rfl (rdsz2 _ _) ⟨hI, Below.refl _ _, rfl⟩
                  · intro vals p hI hp
                    have h14 : (vals 14) = .agg #[.slice ac l2'.length cc, .int .i64 (e2 : Int)] := hp 14 (by simp [Lrs22a])
                    have h11 : (vals 11) = .bool false := hp 11 (by simp [Lrs22a])
                    have e102 : (Roll.putD Drs22a vals [14, 11] b0).eval (.tmp 102) = .agg #[.slice ac l2'.length cc, .int .i64 (e2 : Int)] := (Roll.eval_new 14 rfl (by decide) (by decide) (by omega)).trans h14
                    clear hp hlv hN
                    refine ⟨fun hg => ?_, fun hg => absurd h11 hg⟩
                    clear hg
                    unfold Roll.Goes
                    simp only [Lrs22a, List.getD_cons_zero, List.getD_cons_succ]
                    generalize Roll.putD Drs22a vals [14, 11] b0 = a1 at *
                    refine Roll.goes_call 26 #[.agg #[.slice ac l2'.length cc, .int .i64 (e2 : Int)]] p rfl (by have ec : ∀ x, a1.eval (.const x) = x := fun _ => rfl; have ef : ∀ x, a1.eval (.func x) = .func (.func x) #[] #[] := fun _ => rfl; generalize a1.eval = ρ at *; go_simp) ?_
                    refine (refEnd_any ac l2'.length cc e2 p hl2'b).mono ?_
                    rw [← HE1.out, ← HE.out]
                    rintro y p2 ⟨rfl, hb⟩
                    exact ⟨_, rfl, hI.trans (hb.mono hI.size), hb, rfl⟩
                  · intro vals p hI hp
                    have h13 : (vals 13) = .int .i64 (E : Int) := hp 13 (by simp [Lrs22a])
                    have h15 : (vals 15) = .int .i64 (E : Int) := hp 15 (by simp [Lrs22a])
                    have h11 : (vals 11) = .bool false := hp 11 (by simp [Lrs22a])
                    have e101 : (Roll.putD Drs22a vals [13, 15, 11] b0).eval (.tmp 101) = .int .i64 (E : Int) := (Roll.eval_new 13 rfl (by decide) (by decide) (by omega)).trans h13
                    have e103 : (Roll.putD Drs22a vals [13, 15, 11] b0).eval (.tmp 103) = .int .i64 (E : Int) := (Roll.eval_new 15 rfl (by decide) (by decide) (by omega)).trans h15
                    clear hp hlv hN
                    refine ⟨fun hg => ?_, fun hg => absurd h11 hg⟩
                    clear hg
                    unfold Roll.Goes
                    simp only [Lrs22a, List.getD_cons_zero, List.getD_cons_succ]
                    generalize Roll.putD Drs22a vals [13, 15, 11] b0 = a1 at *
                    refine Roll.goes_val (w' := p) (.bool false) rfl ?_ ⟨hI, Below.refl _ _, rfl⟩
                    (have ec : ∀ x, a1.eval (.const x) = x := fun _ => rfl); (have ef : ∀ x, a1.eval (.func x) = .func (.func x) #[] #[] := fun _ => rfl); generalize a1.eval = ρ at *
                    clear h13 h15 h11
                    go_simp <;> (intros; first | (exfalso; omega) | rfl)
                  · intro vals p hI hp
                    have h11 : (vals 11) = .bool false := hp 11 (by simp [Lrs22a])
                    have h16 : (vals 16) = .bool false := hp 16 (by simp [Lrs22a])
                    have e99 : (Roll.putD Drs22a vals [11, 16] b0).eval (.tmp 99) = .bool false := (Roll.eval_new 11 rfl (by decide) (by decide) (by omega)).trans h11
                    have e104 : (Roll.putD Drs22a vals [11, 16] b0).eval (.tmp 104) = .bool false := (Roll.eval_new 16 rfl (by decide) (by decide) (by omega)).trans h16
                    clear hp hlv hN
                    unfold Roll.Goes
                    simp only [Lrs22a, List.getD_cons_zero, List.getD_cons_succ]
                    generalize Roll.putD Drs22a vals [11, 16] b0 = a1 at *
                    refine Roll.goes_val (w' := p) (.bool false) rfl ?_ ⟨hI, Below.refl _ _, rfl⟩
                    (have ec : ∀ x, a1.eval (.const x) = x := fun _ => rfl); (have ef : ∀ x, a1.eval (.func x) = .func (.func x) #[] #[] := fun _ => rfl); generalize a1.eval = ρ at *
                    clear h11 h16
                    go_simp <;> (intros; first | (exfalso; omega) | rfl)
                · intro vals p hI hR
                  have h0 : (vals 0) = .agg m1.cells.toArray := hR 0 (by omega)
                  have h1 : (vals 1) = .agg m2.cells.toArray := hR 1 (by omega)
                  have h2 : (vals 2) = .bool true := hR 2 (by omega)
                  have h3 : (vals 3) = .bool false := hR 3 (by omega)
                  have h4 : (vals 4) = .bool false := hR 4 (by omega)
                  have h5 : (vals 5) = .pointer (some ⟨g, 0, none⟩) := hR 5 (by omega)
                  have h6 : (vals 6) = .int .i64 (e2 : Int) := hR 6 (by omega)
                  have h7 : (vals 7) = .pointer (some ⟨gx, 1, none⟩) := hR 7 (by omega)
                  have h8 : (vals 8) = .int .i64 (e2 : Int) := hR 8 (by omega)
                  have h9 : (vals 9) = .bool false := hR 9 (by omega)
                  have h10 : (vals 10) = .bool false := hR 10 (by omega)
                  have h11 : (vals 11) = .bool false := hR 11 (by omega)
                  have h12 : (vals 12) = .pointer (some ⟨g, 0, none⟩) := hR 12 (by omega)
                  have h13 : (vals 13) = .int .i64 (E : Int) := hR 13 (by omega)
                  have h14 : (vals 14) = .agg #[.slice ac l2'.length cc, .int .i64 (e2 : Int)] := hR 14 (by omega)
                  have h15 : (vals 15) = .int .i64 (E : Int) := hR 15 (by omega)
                  have h16 : (vals 16) = .bool false := hR 16 (by omega)
                  have h17 : (vals 17) = .bool false := hR 17 (by omega)
                  clear hR
                  simp only [List.range_succ, List.range_zero, List.nil_append, List.cons_append, Roll.putD, Act.put, List.getD_cons_zero, List.getD_cons_succ, List.setIfInBounds_toArray, List.set_cons_zero, List.set_cons_succ, List.drop_succ_cons, List.drop_zero, Drs22a]
                  simp only [h0, h1, h2, h3, h4, h5, h6, h7, h8, h9, h10, h11, h12, h13, h14, h15, h16, h17]
                  clear h0 h1 h2 h3 h4 h5 h6 h7 h8 h9 h10 h11 h12 h13 h14 h15 h16 h17
                  have HI2 := Lib.hid hI
                  clear hI
                  go_wp2_with fail
                  go_roundw
                  case rel =>
                    have h1 := Hln.out
                    have h2 := Hln'.out
                    have h3 := HA.out.len
                    have kI := Kept.of_below (fun _ => False) HI2.out
                    exact ⟨i + 1, l2, l2', e2, by omega, by go_num, RG.out.kept kI (fun h => h) (fun _ _ h => h), ⟨ac, cc, kI.heap RX.out (fun h => h), RB.out.kept kI (fun _ _ _ h => h)⟩, Hs3.out, ⟨by omega, by omega⟩, KF.out.trans kI (fun _ _ h => h.elim)⟩
                  case measure => simp [intOf]; omega
            · obtain ⟨M, hM⟩ : ∃ M : Int, M = 20 := ⟨_, rfl⟩
              have hM1 : -9223372036854775808 ≤ M := by omega
              have hM2 : M ≤ 9223372036854775807 := by omega
              clear hbw
              go_upto_region 19 with fail
              rw [← hM]
              clear hM
              obtain ⟨ra, rc, hrb, hbb⟩ := HA.out.rb
              have hCr := read_any g k3 l e m M wr HA.out.rd (fun j hj => by have := (Hkk.out j hj).2; have := Hz7.out; have := HA.out.kept.size; omega) Hmk.out (by have := HA.out.len; omega) hM1 hM2
              have hsim := ref_sim m.k l l' e HA.out.sim M
              have hln := rVal_len m.k ⟨l, e⟩ M
              have hln' := refVal_len m.k ⟨l', e⟩ M
              obtain ⟨RW, hRW⟩ : ∃ RW, RW = refVal m.k ⟨l', e⟩ M := ⟨_, rfl⟩
              rw [← hRW] at hsim hln'
              generalize rVal m.k ⟨l, e⟩ M = RV at *
              obtain ⟨pv, l2, e2⟩ := RV
              simp only at hsim
              obtain ⟨l2', hRW2⟩ : ∃ l2', RW = (pv, (⟨l2', e2⟩ : RS)) := ⟨RW.2.l, by rw [← hsim.1, ← hsim.2.1]⟩
              have hs3 := hsim.2.2
              rw [hRW2] at hs3 hln' hRW
              simp only at hCr hs3 hln hln'
              clear hsim hRW2
              have HR2 : Hid (refVal m.k ⟨l', e⟩ M = (pv, ⟨l2', e2⟩)) := Lib.hid hRW.symm
              have HCr := Lib.hid hCr
              have Hs3 := Lib.hid hs3
              have Hln := Lib.hid hln
              have Hln' := Lib.hid hln'
              have Hlb := HA.out.len
              have hl'b : l'.length ≤ 100000000000 := by omega
              have Hrb := Lib.hid hrb
              have Hbb := Lib.hid hbb
              clear hCr hs3 hln hln' hRW hrb hbb Hlb
              go_upto_region 20 with (first
                | (go_at_call 21; refine HCr.out.mono ?_; rintro y w8 ⟨m1, rfl, hk1, hp1, ho1, h8⟩; have H8 := Lib.hid h8; have Hk1 := Lib.hid hk1; have Hp1 := Lib.hid hp1; have Ho1 := Lib.hid ho1; clear h8 hk1 hp1 ho1; simp only [VM.val])
                | (refine wpList_load_mid rfl 34 (.tmp 73) rfl b (off + i * 6) rfl _ _ Hr2.out Try.underlying34 rfl (by rw [VM.cells_len]; kernel_rfl) ?_; rw [VM.cells_arr]))
              obtain ⟨q, hq⟩ : ∃ q, q = w8.alloc (.cells #[.int .u8 (m1.k : Int), .int .u64 (m1.u : Int), .int .i64 m1.n, .bool m1.b, .string m1.s, .slice m1.a m1.ln m1.c] 34) := ⟨_, rfl⟩
              rw [← hq]
              obtain ⟨g19, hg19⟩ : ∃ g19, g19 = w8.heap.size := ⟨_, rfl⟩
              rw [← hg19]
              have hK8q : Kept (fun b => b = g) wr q := by rw [hq]; exact H8.out.2.alloc _
              have hq19 : q.heap[g19]? = some (.cells #[.int .u8 (m1.k : Int), .int .u64 (m1.u : Int), .int .i64 m1.n, .bool m1.b, .string m1.s, .slice m1.a m1.ln m1.c] 34 (0, 0)) := by rw [hq]; exact heap_new hg19
              have hgx : gx < wr.heap.size := Nat.lt_of_lt_of_le Hz7.out HA.out.kept.size
              have Q0 : Hid (RdB q gx ra l'.length rc e) := Lib.hid (hK8q.heap Hrb.out (by have := Hgg.out; omega))
              have QB : Hid (Bs (fun b => w.heap.size ≤ b ∧ b < w5.heap.size) q ra l'.length rc l') := Lib.hid (Hbb.out.kept hK8q (fun b _ hb h => by have := Hgg.out; have := hb.2; omega))
              have Qm : Hid (q.rangeAt b (off + i * 6) m.cells) := Lib.hid (range_kept Hr2.out Hbw.out hK8q (by have := Hgg.out; have := hDb5; omega))
              have Qb : Hid (b < q.heap.size) := Lib.hid (Nat.lt_of_lt_of_le Hbw.out hK8q.size)
              have QS : Hid (w5.heap.size ≤ q.heap.size ∧ gx < q.heap.size) := Lib.hid ⟨Nat.le_trans hsz hK8q.size, Nat.lt_of_lt_of_le hgx hK8q.size⟩
              have Q19 := Lib.hid hq19
              have QK := Lib.hid hK8q
              have Hg19 := Lib.hid hg19
              have Hq := Lib.hid hq
              have hi2 : (i : Int) < (ns.length : Int) := by omega
              clear hK8q hq19 hgx hg19 hq
              refine Roll.region_g 13 107 Drs20b Lrs20b [(11, .slice (some ⟨b, off, none⟩) ns.length uc), (16, .pointer (some ⟨gx, 0, none⟩)), (17, .int .i64 (i : Int)), (18, .int .i64 M)] (fun p => Below q.heap.size q p) (fun p p' => ExS q.heap.size (fun b => w.heap.size ≤ b ∧ b < w5.heap.size) l2' e2 p p') [fun vv p => (vv 0) = .agg #[.slice ra l'.length rc, .int .i64 (e : Int)], fun vv p => (vv 1) = .slice (some ⟨b, off, none⟩) ns.length uc, fun vv p => (vv 2) = .int .i64 (i : Int), fun vv p => (vv 3) = .pointer (some ⟨b, off + i * 6, none⟩), fun vv p => (vv 4) = m.val, fun vv p => (vv 5) = .int .i64 M, fun vv p => ∃ ac cc, ∃ m2 : VM, (vv 6) = .tuple #[rdv ac l2'.length cc e2, m2.val] ∧ Bs (fun b => w.heap.size ≤ b ∧ b < w5.heap.size) p ac l2'.length cc l2' ∧ m2.k = m.k ∧ m2.pv = pv ∧ VOk (fun b => q.heap.size ≤ b ∧ IntRow p b) p m2, fun vv p => ∃ ac cc, ∃ m2 : VM, (vv 7) = .tuple #[rdv ac l2'.length cc e2, m2.val] ∧ Bs (fun b => w.heap.size ≤ b ∧ b < w5.heap.size) p ac l2'.length cc l2' ∧ m2.k = m.k ∧ m2.pv = pv ∧ VOk (fun b => q.heap.size ≤ b ∧ IntRow p b) p m2, fun vv p => ∃ ac cc, (vv 8) = rdv ac l2'.length cc e2 ∧ Bs (fun b => w.heap.size ≤ b ∧ b < w5.heap.size) p ac l2'.length cc l2', fun vv p => ∃ m2 : VM, (vv 9) = m2.val ∧ m2.k = m.k ∧ m2.pv = pv ∧ VOk (fun b => q.heap.size ≤ b ∧ IntRow p b) p m2, fun vv p => ∃ g, (vv 10) = .pointer (some ⟨g, 0, none⟩) ∧ q.heap.size ≤ g ∧ T2 p g, fun vv p => ∃ g, (vv 11) = .pointer (some ⟨g, 0, none⟩) ∧ q.heap.size ≤ g ∧ p.heap[g]? = some (.cells #[.int .u8 0, .int .u64 0, .int .i64 0, .bool false, .string ⟨#[]⟩, .slice none 0 0] 34 (0, 0)), fun vv p => ∃ g, (vv 10) = .pointer (some ⟨g, 0, none⟩) ∧ q.heap.size ≤ g ∧ New2 (fun b => w.heap.size ≤ b ∧ b < w5.heap.size) l2' e2 p g] (by kernel_rfl) (by kernel_rfl) rfl ⟨rfl, rfl, rfl, rfl, trivial⟩ ((Below.refl _ _).drew) ?_ ?_ ?_
              · exact ⟨fun _ _ _ _ h => h, fun _ _ _ _ h => h, fun _ _ _ _ h => h, fun _ _ _ _ h => h, fun _ _ _ _ h => h, fun _ _ _ _ h => h, fun v p p' hs h => (match h with | ⟨ac, cc, m2, e, hB, hk, hp, ho⟩ => ⟨ac, cc, m2, e, hs.bs (fun b hb => by have := QS.out; have := hb.2; omega) hB, hk, hp, hs.vok ho⟩), fun v p p' hs h => (match h with | ⟨ac, cc, m2, e, hB, hk, hp, ho⟩ => ⟨ac, cc, m2, e, hs.bs (fun b hb => by have := QS.out; have := hb.2; omega) hB, hk, hp, hs.vok ho⟩), fun v p p' hs h => (match h with | ⟨ac, cc, e, hB⟩ => ⟨ac, cc, e, hs.bs (fun b hb => by have := QS.out; have := hb.2; omega) hB⟩), fun v p p' hs h => (match h with | ⟨m2, e, hk, hp, ho⟩ => ⟨m2, e, hk, hp, hs.vok ho⟩), fun v p p' hs h => (match h with | ⟨g, e, hg, h2⟩ => ⟨g, e, hg, hs.two g h2⟩), fun v p p' hs h => (match h with | ⟨g, e, hg, h2⟩ => ⟨g, e, hg, hs.row h2⟩), fun v p p' hs h => (match h with | ⟨g, e, hg, h2⟩ => ⟨g, e, hg, hs.new g hg h2⟩), trivial⟩
              · intro b0 hN hlv
                refine ⟨?_, ?_, ?_, ?_, ?_, ?_, ?_, ?_, ?_, ?_, ?_, ?_, ?_, trivial⟩
                · intro vals p hI hp
                  have e16 : (Roll.putD Drs20b vals [] b0).eval (.tmp 16) = .pointer (some ⟨gx, 0, none⟩) := (Roll.eval_old rfl).trans (hlv.at 1 (16, .pointer (some ⟨gx, 0, none⟩)) rfl)
                  clear hp hlv hN
                  unfold Roll.Goes
                  simp only [Lrs20b, List.getD_cons_zero, List.getD_cons_succ]
                  generalize Roll.putD Drs20b vals [] b0 = a1 at *
                  exact Roll.goes_load_row rfl 48 (.tmp 16) rfl gx e16 48 #[.slice ra l'.length rc, .int .i64 (e : Int)] (0, 0) _ ((hI.block _ (heap_lt Q0.out)).trans Q0.out) Try.underlying48 rfl (rdsz2 _ _) ⟨hI, ExS.below (Below.refl _ _), rfl⟩
                · intro vals p hI hp
                  have e11 : (Roll.putD Drs20b vals [] b0).eval (.tmp 11) = .slice (some ⟨b, off, none⟩) ns.length uc := (Roll.eval_old rfl).trans (hlv.at 0 (11, .slice (some ⟨b, off, none⟩) ns.length uc) rfl)
                  clear hp hlv hN
                  unfold Roll.Goes
                  simp only [Lrs20b, List.getD_cons_zero, List.getD_cons_succ]
                  generalize Roll.putD Drs20b vals [] b0 = a1 at *
                  refine Roll.goes_val (w' := p) (.slice (some ⟨b, off, none⟩) ns.length uc) rfl ?_ ⟨hI, ExS.below (Below.refl _ _), rfl⟩
                  (have ec : ∀ x, a1.eval (.const x) = x := fun _ => rfl); (have ef : ∀ x, a1.eval (.func x) = .func (.func x) #[] #[] := fun _ => rfl); generalize a1.eval = ρ at *
                  skip
                  go_simp <;> (intros; first | (exfalso; omega) | rfl)
                · intro vals p hI hp
                  have e17 : (Roll.putD Drs20b vals [] b0).eval (.tmp 17) = .int .i64 (i : Int) := (Roll.eval_old rfl).trans (hlv.at 2 (17, .int .i64 (i : Int)) rfl)
                  clear hp hlv hN
                  unfold Roll.Goes
                  simp only [Lrs20b, List.getD_cons_zero, List.getD_cons_succ]
                  generalize Roll.putD Drs20b vals [] b0 = a1 at *
                  refine Roll.goes_val (w' := p) (.int .i64 (i : Int)) rfl ?_ ⟨hI, ExS.below (Below.refl _ _), rfl⟩
                  (have ec : ∀ x, a1.eval (.const x) = x := fun _ => rfl); (have ef : ∀ x, a1.eval (.func x) = .func (.func x) #[] #[] := fun _ => rfl); generalize a1.eval = ρ at *
                  skip
                  go_simp <;> (intros; first | (exfalso; omega) | rfl)
                · intro vals p hI hp
                  have h1 : (vals 1) = .slice (some ⟨b, off, none⟩) ns.length uc := hp 1 (by simp [Lrs20b])
                  have h2 : (vals 2) = .int .i64 (i : Int) := hp 2 (by simp [Lrs20b])
                  have e79 : (Roll.putD Drs20b vals [1, 2] b0).eval (.tmp 79) = .slice (some ⟨b, off, none⟩) ns.length uc := (Roll.eval_new 1 rfl (by decide) (by decide) (by omega)).trans h1
                  have e80 : (Roll.putD Drs20b vals [1, 2] b0).eval (.tmp 80) = .int .i64 (i : Int) := (Roll.eval_new 2 rfl (by decide) (by decide) (by omega)).trans h2
                  clear hp hlv hN
                  unfold Roll.Goes
                  simp only [Lrs20b, List.getD_cons_zero, List.getD_cons_succ]
                  generalize Roll.putD Drs20b vals [1, 2] b0 = a1 at *
                  have z1 : (i : Int) < (ns.length : Int) := by omega
                  refine Roll.goes_val (w' := p) (.pointer (some ⟨b, off + i * 6, none⟩)) rfl ?_ ⟨hI, ExS.below (Below.refl _ _), rfl⟩
                  (have ec : ∀ x, a1.eval (.const x) = x := fun _ => rfl); (have ef : ∀ x, a1.eval (.func x) = .func (.func x) #[] #[] := fun _ => rfl); generalize a1.eval = ρ at *
                  clear h1 h2
                  go_simp <;> (intros; first | (exfalso; omega) | rfl)
                · intro vals p hI hp
                  have h3 : (vals 3) = .pointer (some ⟨b, off + i * 6, none⟩) := hp 3 (by simp [Lrs20b])
                  have e81 : (Roll.putD Drs20b vals [3] b0).eval (.tmp 81) = .pointer (some ⟨b, off + i * 6, none⟩) := (Roll.eval_new 3 rfl (by decide) (by decide) (by omega)).trans h3
                  clear hp hlv hN
                  unfold Roll.Goes
                  simp only [Lrs20b, List.getD_cons_zero, List.getD_cons_succ]
                  generalize Roll.putD Drs20b vals [3] b0 = a1 at *
                  exact Roll.goes_load_mid rfl 34 (.tmp 81) rfl b (off + i * 6) e81 m.cells _ (range_kept Qm.out Qb.out (Kept.of_below (fun _ => False) hI) (fun h => h)) Try.underlying34 rfl (by rw [VM.cells_len]; kernel_rfl) ⟨hI, ExS.below (Below.refl _ _), by rw [VM.cells_arr]; rfl⟩
                · intro vals p hI hp
                  have e18 : (Roll.putD Drs20b vals [] b0).eval (.tmp 18) = .int .i64 M := (Roll.eval_old rfl).trans (hlv.at 3 (18, .int .i64 M) rfl)
                  clear hp hlv hN
                  unfold Roll.Goes
                  simp only [Lrs20b, List.getD_cons_zero, List.getD_cons_succ]
                  generalize Roll.putD Drs20b vals [] b0 = a1 at *
                  refine Roll.goes_val (w' := p) (.int .i64 M) rfl ?_ ⟨hI, ExS.below (Below.refl _ _), rfl⟩
                  (have ec : ∀ x, a1.eval (.const x) = x := fun _ => rfl); (have ef : ∀ x, a1.eval (.func x) = .func (.func x) #[] #[] := fun _ => rfl); generalize a1.eval = ρ at *
                  skip
                  go_simp <;> (intros; first | (exfalso; omega) | rfl)
                · intro vals p hI hp
                  have h0 : (vals 0) = .agg #[.slice ra l'.length rc, .int .i64 (e : Int)] := hp 0 (by simp [Lrs20b])
                  have h4 : (vals 4) = m.val := hp 4 (by simp [Lrs20b])
                  have h5 : (vals 5) = .int .i64 M := hp 5 (by simp [Lrs20b])
                  have e78 : (Roll.putD Drs20b vals [0, 4, 5] b0).eval (.tmp 78) = .agg #[.slice ra l'.length rc, .int .i64 (e : Int)] := (Roll.eval_new 0 rfl (by decide) (by decide) (by omega)).trans h0
                  have e82 : (Roll.putD Drs20b vals [0, 4, 5] b0).eval (.tmp 82) = m.val := (Roll.eval_new 4 rfl (by decide) (by decide) (by omega)).trans h4
                  have e83 : (Roll.putD Drs20b vals [0, 4, 5] b0).eval (.tmp 83) = .int .i64 M := (Roll.eval_new 5 rfl (by decide) (by decide) (by omega)).trans h5
                  clear hp hlv hN
                  unfold Roll.Goes
                  simp only [Lrs20b, List.getD_cons_zero, List.getD_cons_succ]
                  generalize Roll.putD Drs20b vals [0, 4, 5] b0 = a1 at *
                  refine Roll.goes_call 22 #[.agg #[.slice ra l'.length rc, .int .i64 (e : Int)], m.val, .int .i64 M] p rfl (by have ec : ∀ x, a1.eval (.const x) = x := fun _ => rfl; have ef : ∀ x, a1.eval (.func x) = .func (.func x) #[] #[] := fun _ => rfl; generalize a1.eval = ρ at *; go_simp) ?_
                  refine (expected_any (fun b => w.heap.size ≤ b ∧ b < w5.heap.size) ra rc l' e m M p (QB.out.kept (Kept.of_below (fun _ => False) hI) (fun _ _ _ h => h)) (by omega) Hmk.out hM1 hM2).mono ?_
                  rintro y p2 ⟨ac, cc, m2, rfl, hB2, hk2, hp2, ho2, hb⟩
                  rw [HR2.out] at hB2 hp2
                  exact ⟨_, rfl, hI.trans (hb.mono hI.size), ExS.below hb, ac, cc, m2, by rw [HR2.out]; rfl, hB2, hk2, hp2, ho2.dom (fun b hb2 => ⟨Nat.le_trans hI.size hb2.1, hb2.2⟩)⟩
                · intro vals p hI hp
                  have h6 : ∃ ac cc, ∃ m2 : VM, (vals 6) = .tuple #[rdv ac l2'.length cc e2, m2.val] ∧ Bs (fun b => w.heap.size ≤ b ∧ b < w5.heap.size) p ac l2'.length cc l2' ∧ m2.k = m.k ∧ m2.pv = pv ∧ VOk (fun b => q.heap.size ≤ b ∧ IntRow p b) p m2 := hp 6 (by simp [Lrs20b])
                  have e84 : (Roll.putD Drs20b vals [6] b0).eval (.tmp 84) = vals 6 := (Roll.eval_new 6 rfl (by decide) (by decide) (by omega))
                  clear hp hlv hN
                  unfold Roll.Goes
                  simp only [Lrs20b, List.getD_cons_zero, List.getD_cons_succ]
                  generalize Roll.putD Drs20b vals [6] b0 = a1 at *
                  exact Roll.goes_val (w' := p) (vals 6) rfl (by unfold execOp; simp only [e84, Sem.run_pure]) ⟨hI, ExS.below (Below.refl _ _), h6⟩
                · intro vals p hI hp
                  have h7 : ∃ ac cc, ∃ m2 : VM, (vals 7) = .tuple #[rdv ac l2'.length cc e2, m2.val] ∧ Bs (fun b => w.heap.size ≤ b ∧ b < w5.heap.size) p ac l2'.length cc l2' ∧ m2.k = m.k ∧ m2.pv = pv ∧ VOk (fun b => q.heap.size ≤ b ∧ IntRow p b) p m2 := hp 7 (by simp [Lrs20b])
                  have e77 : (Roll.putD Drs20b vals [7] b0).eval (.tmp 77) = vals 7 := (Roll.eval_new 7 rfl (by decide) (by decide) (by omega))
                  clear hp hlv hN
                  unfold Roll.Goes
                  simp only [Lrs20b, List.getD_cons_zero, List.getD_cons_succ]
                  generalize Roll.putD Drs20b vals [7] b0 = a1 at *
                  obtain ⟨ac, cc, m2, e7, hB7, hk7, hp7, ho7⟩ := h7
                  rw [e7] at e77
                  refine Roll.goes_val (w' := p) (rdv ac l2'.length cc e2) rfl ?_ ⟨hI, ExS.below (Below.refl _ _), ac, cc, rfl, hB7⟩
                  clear hB7 hk7 hp7 ho7 e7 hI
                  generalize rdv ac l2'.length cc e2 = Z at *
                  generalize m2.val = Z2 at *
                  generalize a1.eval = ρ at *
                  go_simp
                · intro vals p hI hp
                  have h7 : ∃ ac cc, ∃ m2 : VM, (vals 7) = .tuple #[rdv ac l2'.length cc e2, m2.val] ∧ Bs (fun b => w.heap.size ≤ b ∧ b < w5.heap.size) p ac l2'.length cc l2' ∧ m2.k = m.k ∧ m2.pv = pv ∧ VOk (fun b => q.heap.size ≤ b ∧ IntRow p b) p m2 := hp 7 (by simp [Lrs20b])
                  have e77 : (Roll.putD Drs20b vals [7] b0).eval (.tmp 77) = vals 7 := (Roll.eval_new 7 rfl (by decide) (by decide) (by omega))
                  clear hp hlv hN
                  unfold Roll.Goes
                  simp only [Lrs20b, List.getD_cons_zero, List.getD_cons_succ]
                  generalize Roll.putD Drs20b vals [7] b0 = a1 at *
                  obtain ⟨ac, cc, m2, e7, hB7, hk7, hp7, ho7⟩ := h7
                  rw [e7] at e77
                  refine Roll.goes_val (w' := p) m2.val rfl ?_ ⟨hI, ExS.below (Below.refl _ _), m2, rfl, hk7, hp7, ho7⟩
                  clear hB7 hk7 hp7 ho7 e7 hI
                  generalize rdv ac l2'.length cc e2 = Z at *
                  generalize m2.val = Z2 at *
                  generalize a1.eval = ρ at *
                  go_simp
                · intro vals p hI hp
                  clear hp hlv hN
                  unfold Roll.Goes
                  simp only [Lrs20b, List.getD_cons_zero, List.getD_cons_succ]
                  generalize Roll.putD Drs20b vals [] b0 = a1 at *
                  have hb := (Below.refl p.heap.size p).alloc (Nat.le_refl _) (.cells #[.slice none 0 0, .int .i64 0] 48)
                  refine Roll.goes_val (w' := p.alloc (.cells #[.slice none 0 0, .int .i64 0] 48)) (.pointer (some ⟨p.heap.size, 0, none⟩)) rfl ?_ ⟨hI.trans (hb.mono hI.size), ExS.below hb, p.heap.size, rfl, hI.size, _, _, heap_new rfl⟩
                  clear hb hI
                  generalize a1.eval = ρ at *
                  go_simp
                · intro vals p hI hp
                  clear hp hlv hN
                  unfold Roll.Goes
                  simp only [Lrs20b, List.getD_cons_zero, List.getD_cons_succ]
                  generalize Roll.putD Drs20b vals [] b0 = a1 at *
                  have hb := (Below.refl p.heap.size p).alloc (Nat.le_refl _) (.cells #[.int .u8 0, .int .u64 0, .int .i64 0, .bool false, .string ⟨#[]⟩, .slice none 0 0] 34)
                  refine Roll.goes_val (w' := p.alloc (.cells #[.int .u8 0, .int .u64 0, .int .i64 0, .bool false, .string ⟨#[]⟩, .slice none 0 0] 34)) (.pointer (some ⟨p.heap.size, 0, none⟩)) rfl ?_ ⟨hI.trans (hb.mono hI.size), ExS.below hb, p.heap.size, rfl, hI.size, heap_new rfl⟩
                  clear hb hI
                  generalize a1.eval = ρ at *
                  go_simp
                · intro vals p hI hp
                  have h10 : ∃ g, (vals 10) = .pointer (some ⟨g, 0, none⟩) ∧ q.heap.size ≤ g ∧ T2 p g := hp 10 (by simp [Lrs20b])
                  have h8 : ∃ ac cc, (vals 8) = rdv ac l2'.length cc e2 ∧ Bs (fun b => w.heap.size ≤ b ∧ b < w5.heap.size) p ac l2'.length cc l2' := hp 8 (by simp [Lrs20b])
                  have e20 : (Roll.putD Drs20b vals [10, 8] b0).eval (.tmp 20) = vals 10 := (Roll.eval_new 10 rfl (by decide) (by decide) (by omega))
                  have e85 : (Roll.putD Drs20b vals [10, 8] b0).eval (.tmp 85) = vals 8 := (Roll.eval_new 8 rfl (by decide) (by decide) (by omega))
                  clear hp hlv hN
                  unfold Roll.Goes
                  simp only [Lrs20b, List.getD_cons_zero, List.getD_cons_succ]
                  generalize Roll.putD Drs20b vals [10, 8] b0 = a1 at *
                  obtain ⟨g0, e10, hg0, hT0⟩ := h10
                  obtain ⟨ac, cc, e8, hB8⟩ := h8
                  obtain ⟨hS, hN⟩ := ExS.store (B := q.heap.size) (e := e2) (fun b hb => by have := QS.out; omega) hg0 hT0 hB8
                  obtain ⟨x1, y1, hold⟩ := hT0
                  rw [e10] at e20
                  rw [e8] at e85
                  exact Roll.goes_store_row rfl 48 (.tmp 20) (.tmp 85) rfl g0 #[.slice ac l2'.length cc, .int .i64 (e2 : Int)] e20 e85 48 #[x1, y1] hold (rdsz2 _ _) rfl (rdone _ _ _ _ _) ⟨Below_row hI hg0 _, hS, g0, e10, hg0, hN⟩
              · intro vals p hI hR
                have h0 : (vals 0) = .agg #[.slice ra l'.length rc, .int .i64 (e : Int)] := hR 0 (by omega)
                have h1 : (vals 1) = .slice (some ⟨b, off, none⟩) ns.length uc := hR 1 (by omega)
                have h2 : (vals 2) = .int .i64 (i : Int) := hR 2 (by omega)
                have h3 : (vals 3) = .pointer (some ⟨b, off + i * 6, none⟩) := hR 3 (by omega)
                have h4 : (vals 4) = m.val := hR 4 (by omega)
                have h5 : (vals 5) = .int .i64 M := hR 5 (by omega)
                have h6 : ∃ ac cc, ∃ m2 : VM, (vals 6) = .tuple #[rdv ac l2'.length cc e2, m2.val] ∧ Bs (fun b => w.heap.size ≤ b ∧ b < w5.heap.size) p ac l2'.length cc l2' ∧ m2.k = m.k ∧ m2.pv = pv ∧ VOk (fun b => q.heap.size ≤ b ∧ IntRow p b) p m2 := hR 6 (by omega)
                have h7 : ∃ ac cc, ∃ m2 : VM, (vals 7) = .tuple #[rdv ac l2'.length cc e2, m2.val] ∧ Bs (fun b => w.heap.size ≤ b ∧ b < w5.heap.size) p ac l2'.length cc l2' ∧ m2.k = m.k ∧ m2.pv = pv ∧ VOk (fun b => q.heap.size ≤ b ∧ IntRow p b) p m2 := hR 7 (by omega)
                have h8 : ∃ ac cc, (vals 8) = rdv ac l2'.length cc e2 ∧ Bs (fun b => w.heap.size ≤ b ∧ b < w5.heap.size) p ac l2'.length cc l2' := hR 8 (by omega)
                have h9 : ∃ m2 : VM, (vals 9) = m2.val ∧ m2.k = m.k ∧ m2.pv = pv ∧ VOk (fun b => q.heap.size ≤ b ∧ IntRow p b) p m2 := hR 9 (by omega)
                have h10 : ∃ g, (vals 10) = .pointer (some ⟨g, 0, none⟩) ∧ q.heap.size ≤ g ∧ T2 p g := hR 10 (by omega)
                have h11 : ∃ g, (vals 11) = .pointer (some ⟨g, 0, none⟩) ∧ q.heap.size ≤ g ∧ p.heap[g]? = some (.cells #[.int .u8 0, .int .u64 0, .int .i64 0, .bool false, .string ⟨#[]⟩, .slice none 0 0] 34 (0, 0)) := hR 11 (by omega)
                have h12 : ∃ g, (vals 10) = .pointer (some ⟨g, 0, none⟩) ∧ q.heap.size ≤ g ∧ New2 (fun b => w.heap.size ≤ b ∧ b < w5.heap.size) l2' e2 p g := hR 12 (by omega)
                clear hR
                simp only [List.range_succ, List.range_zero, List.nil_append, List.cons_append, Roll.putD, Act.put, List.getD_cons_zero, List.getD_cons_succ, List.setIfInBounds_toArray, List.set_cons_zero, List.set_cons_succ, List.drop_succ_cons, List.drop_zero, Drs20b]
                simp only [h0, h1, h2, h3, h4, h5]
                clear h0 h1 h2 h3 h4 h5
                obtain ⟨g21, ev11, hg21, hr21⟩ := h11
                obtain ⟨g20, ev10, hg20, hn20⟩ := h12
                obtain ⟨m2, ev9, hk9, hp9, ho9⟩ := h9
                rw [ev11, ev10, ev9]
                simp only [VM.val]
                obtain ⟨ac, cc, hc20, hB20⟩ := hn20
                clear h6 h7 h8 h10 ev11 ev10 ev9
                have Hr21 := Lib.hid hr21
                have Hc20 := Lib.hid hc20
                have HB20 := Lib.hid hB20
                have Ho9 := Lib.hid ho9
                have Hp9 := Lib.hid hp9
                have Hk9 := Lib.hid hk9
                have HI := Lib.hid hI
                have ne21 : g20 ≠ g21 := by
                  intro h
                  rw [h, hr21] at hc20
                  simp at hc20
                have Hne := Lib.hid ne21
                clear hr21 hc20 hB20 ho9 hp9 hI ne21 hk9
                go_upto_region 22 with (first
                  | (refine wpList_load_row rfl 48 (.tmp 20) rfl g20 rfl 48 _ (0, 0) _ ((setRow_other _ _ _ _ Hne.out).trans Hc20.out) Try.underlying48 rfl (rdsz2 _ _) ?_)
                  | (refine wpList_store_row rfl 48 (.tmp 16) (.tmp 87) rfl gx _ rfl rfl 48 _ ((setRow_other _ _ _ _ (by have := QS.out; omega)).trans ((HI.out.block _ (heap_lt Q0.out)).trans Q0.out)) (rdsz2 _ _) rfl (rdone _ _ _ _ _) ?_)
                  | (refine wpList_store_row rfl 34 (.tmp 21) (.tmp 86) rfl g21 m2.cells.toArray rfl rfl 34 _ Hr21.out (size34 m2.cells (VM.cells_len _)) rfl (by simp [VM.cells, Value.oneCell']) ?_))
                obtain ⟨r, hr⟩ : ∃ r, r = (p.setRow g21 m2.cells.toArray).setRow gx #[.slice ac l2'.length cc, .int .i64 (e2 : Int)] := ⟨_, rfl⟩
                rw [← hr]
                have KA : Kept (fun j => j = g21 ∨ j = gx) p r := by rw [hr]; exact ((Kept.refl (fun j => j = g21 ∨ j = gx) p).setRow (fun _ => .inl rfl) _).setRow (fun _ => .inr rfl) _
                have hqs := QS.out
                have hgk := Hgg.out
                have hg19 := Hg19.out
                have hgx8 : gx < w8.heap.size := Nat.lt_of_lt_of_le (Nat.lt_of_lt_of_le Hz7.out HA.out.kept.size) H8.out.2.size
                have hq8 : q.heap.size = w8.heap.size + 1 := by rw [Hq.out, size_alloc1]
                have K8p : Below w8.heap.size w8 p := (show Below w8.heap.size w8 q by rw [Hq.out]; exact (Below.refl _ _).alloc (Nat.le_refl _) _).trans (HI.out.mono (by omega))
                have R19 : Hid (r.heap[g19]? = some (.cells m1.cells.toArray 34 (0, 0))) := Lib.hid (KA.heap ((HI.out.block _ (heap_lt Q19.out)).trans Q19.out) (by omega))
                have R21 : Hid (r.heap[g21]? = some (.cells m2.cells.toArray 34 (0, 0))) := Lib.hid (by rw [hr]; exact (setRow_other _ _ _ _ (by omega)).trans (setRow_heap _ _ _ _ _ _ Hr21.out))
                have RX : Hid (RdB r gx ac l2'.length cc e2) := Lib.hid (by rw [hr]; exact setRow_heap _ _ _ _ _ _ ((setRow_other _ _ _ _ (by omega)).trans ((HI.out.block _ (heap_lt Q0.out)).trans Q0.out)))
                have RB : Hid (Bs (fun b => w.heap.size ≤ b ∧ b < w5.heap.size) r ac l2'.length cc l2') := Lib.hid (HB20.out.kept KA (fun b _ hb h => by have := hb.2; omega))
                have RV1 : Hid (VOk (fun b => wr.heap.size ≤ b ∧ b < w8.heap.size) r m1) := Lib.hid (((Ho1.out.dom2 (D' := fun b => wr.heap.size ≤ b ∧ b < w8.heap.size) (fun b hb hd => ⟨hd, hb⟩)).kept (Kept.of_below (fun _ => False) K8p) (fun _ _ _ h => h)).kept KA (fun b _ hb h => by have := hb.1; have := hb.2; have := HA.out.kept.size; have := Hz7.out; omega))
                have RV2 : Hid (VOk (fun b => q.heap.size ≤ b ∧ IntRow p b) r m2) := Lib.hid (Ho9.out.kept KA (fun b _ hb h => by
                  rcases h with rfl | rfl
                  · obtain ⟨cur, hc⟩ := hb.2
                    have := Hr21.out
                    rw [hc] at this
                    simp at this
                  · have := hb.1; omega))
                have RG : Hid (Rd r g k3 l2 e2) := Lib.hid ((H8.out.1.kept (Kept.of_below (fun _ => False) K8p) (fun h => h) (fun _ _ h => h)).kept KA (by omega) (fun j hj h => by have := (Hkk.out j hj).2; omega))
                have KF : Hid (Kept (fun b => b = g ∨ b = gx) w7 r) := Lib.hid (((HA.out.kept.trans (QK.out) (fun j _ h => .inl h)).trans (Kept.of_below (fun b => b = g ∨ b = gx) HI.out) (fun _ _ h => h)).trans KA (fun j hj h => by
                  rcases h with rfl | rfl
                  · have h1 := HA.out.kept.size; have h2 := QK.out.size; omega
                  · exact .inr rfl))
                have HE1 := Lib.hid (endE_sim l2 l2' e2 Hs3.out)
                have Hps : Hid (psame m1.k m1.pv m2.pv = true) := Lib.hid (by rw [Hp1.out, Hp9.out]; exact psame_refl _ _)
                have Hge : Hid (gx < r.heap.size) := Lib.hid (heap_lt RX.out)
                have HlA := HA.out.len
                have hl2'b : l2'.length ≤ 9223372036854775807 := by have := Hln'.out; omega
                obtain ⟨E, hE⟩ : ∃ E, E = endE e2 l2.length := ⟨_, rfl⟩
                have HE := Lib.hid hE
                clear hr KA hqs hgk hg19 hgx8 hq8 K8p HlA hE Hr21 Hc20 HB20 Ho9 Hp9 HI Hne
                refine Roll.region_f 18 107 Drs22b Lrs22b [(15, .pointer (some ⟨g, 0, none⟩)), (16, .pointer (some ⟨gx, 0, none⟩)), (19, .pointer (some ⟨g19, 0, none⟩)), (21, .pointer (some ⟨g21, 0, none⟩))] (fun p => Below r.heap.size r p) (fun p p' => Below p.heap.size p p') [fun vv p => vv = .agg m1.cells.toArray, fun vv p => vv = .agg m2.cells.toArray, fun vv p => vv = .bool true, fun vv p => vv = .bool false, fun vv p => vv = .bool false, fun vv p => vv = .pointer (some ⟨g, 0, none⟩), fun vv p => vv = .int .i64 (e2 : Int), fun vv p => vv = .pointer (some ⟨gx, 1, none⟩), fun vv p => vv = .int .i64 (e2 : Int), fun vv p => vv = .bool false, fun vv p => vv = .bool false, fun vv p => vv = .bool false, fun vv p => vv = .pointer (some ⟨g, 0, none⟩), fun vv p => vv = .int .i64 (E : Int), fun vv p => vv = .agg #[.slice ac l2'.length cc, .int .i64 (e2 : Int)], fun vv p => vv = .int .i64 (E : Int), fun vv p => vv = .bool false, fun vv p => vv = .bool false] (by kernel_rfl) (by kernel_rfl) rfl ⟨rfl, rfl, rfl, rfl, trivial⟩ ((Below.refl _ _).drew) ?_ ?_ ?_
                · exact ⟨fun _ _ _ _ h => h, fun _ _ _ _ h => h, fun _ _ _ _ h => h, fun _ _ _ _ h => h, fun _ _ _ _ h => h, fun _ _ _ _ h => h, fun _ _ _ _ h => h, fun _ _ _ _ h => h, fun _ _ _ _ h => h, fun _ _ _ _ h => h, fun _ _ _ _ h => h, fun _ _ _ _ h => h, fun _ _ _ _ h => h, fun _ _ _ _ h => h, fun _ _ _ _ h => h, fun _ _ _ _ h => h, fun _ _ _ _ h => h, fun _ _ _ _ h => h, trivial⟩
                · intro b0 hN hlv
                  refine ⟨?_, ?_, ?_, ?_, ?_, ?_, ?_, ?_, ?_, ?_, ?_, ?_, ?_, ?_, ?_, ?_, ?_, ?_, trivial⟩
                  · intro vals p hI hp
                    have e19 : (Roll.putD Drs22b vals [] b0).eval (.tmp 19) = .pointer (some ⟨g19, 0, none⟩) := (Roll.eval_old rfl).trans (hlv.at 2 (19, .pointer (some ⟨g19, 0, none⟩)) rfl)
                    clear hp hlv hN
                    unfold Roll.Goes
                    simp only [Lrs22b, List.getD_cons_zero, List.getD_cons_succ]
                    generalize Roll.putD Drs22b vals [] b0 = a1 at *
                    exact Roll.goes_load_row rfl 34 (.tmp 19) rfl g19 e19 34 m1.cells.toArray (0, 0) _ ((hI.block _ (heap_lt R19.out)).trans R19.out) Try.underlying34 rfl (size34 m1.cells (VM.cells_len _)) ⟨hI, Below.refl _ _, rfl⟩
                  · intro vals p hI hp
                    have e21 : (Roll.putD Drs22b vals [] b0).eval (.tmp 21) = .pointer (some ⟨g21, 0, none⟩) := (Roll.eval_old rfl).trans (hlv.at 3 (21, .pointer (some ⟨g21, 0, none⟩)) rfl)
                    clear hp hlv hN
                    unfold Roll.Goes
                    simp only [Lrs22b, List.getD_cons_zero, List.getD_cons_succ]
                    generalize Roll.putD Drs22b vals [] b0 = a1 at *
                    exact Roll.goes_load_row rfl 34 (.tmp 21) rfl g21 e21 34 m2.cells.toArray (0, 0) _ ((hI.block _ (heap_lt R21.out)).trans R21.out) Try.underlying34 rfl (size34 m2.cells (VM.cells_len _)) ⟨hI, Below.refl _ _, rfl⟩
                  · intro vals p hI hp
                    have h0 : (vals 0) = .agg m1.cells.toArray := hp 0 (by simp [Lrs22b])
                    have h1 : (vals 1) = .agg m2.cells.toArray := hp 1 (by simp [Lrs22b])
                    have e88 : (Roll.putD Drs22b vals [0, 1] b0).eval (.tmp 88) = .agg m1.cells.toArray := (Roll.eval_new 0 rfl (by decide) (by decide) (by omega)).trans h0
                    have e89 : (Roll.putD Drs22b vals [0, 1] b0).eval (.tmp 89) = .agg m2.cells.toArray := (Roll.eval_new 1 rfl (by decide) (by decide) (by omega)).trans h1
                    clear hp hlv hN
                    unfold Roll.Goes
                    simp only [Lrs22b, List.getD_cons_zero, List.getD_cons_succ]
                    generalize Roll.putD Drs22b vals [0, 1] b0 = a1 at *
                    refine Roll.goes_call 23 #[.agg m1.cells.toArray, .agg m2.cells.toArray] p rfl (by have ec : ∀ x, a1.eval (.const x) = x := fun _ => rfl; have ef : ∀ x, a1.eval (.func x) = .func (.func x) #[] #[] := fun _ => rfl; generalize a1.eval = ρ at *; go_simp) ?_
                    refine (same_any _ _ m1 m2 p (RV1.out.kept (Kept.of_below (fun _ => False) hI) (fun _ _ _ h => h)) (RV2.out.kept (Kept.of_below (fun _ => False) hI) (fun _ _ _ h => h))).mono ?_
                    rw [Hps.out]
                    rintro y p2 ⟨rfl, hb⟩
                    exact ⟨_, rfl, hI.trans (hb.mono hI.size), hb, rfl⟩
                  · intro vals p hI hp
                    have h2 : (vals 2) = .bool true := hp 2 (by simp [Lrs22b])
                    have e90 : (Roll.putD Drs22b vals [2] b0).eval (.tmp 90) = .bool true := (Roll.eval_new 2 rfl (by decide) (by decide) (by omega)).trans h2
                    clear hp hlv hN
                    unfold Roll.Goes
                    simp only [Lrs22b, List.getD_cons_zero, List.getD_cons_succ]
                    generalize Roll.putD Drs22b vals [2] b0 = a1 at *
                    refine Roll.goes_val (w' := p) (.bool false) rfl ?_ ⟨hI, Below.refl _ _, rfl⟩
                    (have ec : ∀ x, a1.eval (.const x) = x := fun _ => rfl); (have ef : ∀ x, a1.eval (.func x) = .func (.func x) #[] #[] := fun _ => rfl); generalize a1.eval = ρ at *
                    clear h2
                    go_simp <;> (intros; first | (exfalso; omega) | rfl)
                  · intro vals p hI hp
                    have h3 : (vals 3) = .bool false := hp 3 (by simp [Lrs22b])
                    have e91 : (Roll.putD Drs22b vals [3] b0).eval (.tmp 91) = .bool false := (Roll.eval_new 3 rfl (by decide) (by decide) (by omega)).trans h3
                    clear hp hlv hN
                    unfold Roll.Goes
                    simp only [Lrs22b, List.getD_cons_zero, List.getD_cons_succ]
                    generalize Roll.putD Drs22b vals [3] b0 = a1 at *
                    refine Roll.goes_val (w' := p) (.bool false) rfl ?_ ⟨hI, Below.refl _ _, rfl⟩
                    (have ec : ∀ x, a1.eval (.const x) = x := fun _ => rfl); (have ef : ∀ x, a1.eval (.func x) = .func (.func x) #[] #[] := fun _ => rfl); generalize a1.eval = ρ at *
                    clear h3
                    go_simp <;> (intros; first | (exfalso; omega) | rfl)
                  · intro vals p hI hp
                    have h4 : (vals 4) = .bool false := hp 4 (by simp [Lrs22b])
                    have e15 : (Roll.putD Drs22b vals [4] b0).eval (.tmp 15) = .pointer (some ⟨g, 0, none⟩) := (Roll.eval_old rfl).trans (hlv.at 0 (15, .pointer (some ⟨g, 0, none⟩)) rfl)
                    clear hp hlv hN
                    refine ⟨fun hg => ?_, fun hg => absurd h4 hg⟩
                    clear hg
                    unfold Roll.Goes
                    simp only [Lrs22b, List.getD_cons_zero, List.getD_cons_succ]
                    generalize Roll.putD Drs22b vals [4] b0 = a1 at *
                    refine Roll.goes_val (w' := p) (.pointer (some ⟨g, 0, none⟩)) rfl ?_ ⟨hI, Below.refl _ _, rfl⟩
                    (have ec : ∀ x, a1.eval (.const x) = x := fun _ => rfl); (have ef : ∀ x, a1.eval (.func x) = .func (.func x) #[] #[] := fun _ => rfl); generalize a1.eval = ρ at *
                    clear h4
                    go_simp <;> (intros; first | (exfalso; omega) | rfl)
                  · intro vals p hI hp
                    have h5 : (vals 5) = .pointer (some ⟨g, 0, none⟩) := hp 5 (by simp [Lrs22b])
                    have h4 : (vals 4) = .bool false := hp 4 (by simp [Lrs22b])
                    have e93 : (Roll.putD Drs22b vals [5, 4] b0).eval (.tmp 93) = .pointer (some ⟨g, 0, none⟩) := (Roll.eval_new 5 rfl (by decide) (by decide) (by omega)).trans h5
                    clear hp hlv hN
                    refine ⟨fun hg => ?_, fun hg => absurd h4 hg⟩
                    clear hg
                    unfold Roll.Goes
                    simp only [Lrs22b, List.getD_cons_zero, List.getD_cons_succ]
                    generalize Roll.putD Drs22b vals [5, 4] b0 = a1 at *
                    refine Roll.goes_call 24 #[.pointer (some ⟨g, 0, none⟩)] p rfl (by have ec : ∀ x, a1.eval (.const x) = x := fun _ => rfl; have ef : ∀ x, a1.eval (.func x) = .func (.func x) #[] #[] := fun _ => rfl; generalize a1.eval = ρ at *; go_simp) ?_
                    refine (err_any g k3 l2 e2 p (RG.out.kept (Kept.of_below (fun _ => False) hI) (fun h => h) (fun _ _ h => h))).mono ?_
                    rintro y p2 ⟨rfl, rfl⟩
                    exact ⟨_, rfl, hI, Below.refl _ _, rfl⟩
                  · intro vals p hI hp
                    have h4 : (vals 4) = .bool false := hp 4 (by simp [Lrs22b])
                    have e16 : (Roll.putD Drs22b vals [4] b0).eval (.tmp 16) = .pointer (some ⟨gx, 0, none⟩) := (Roll.eval_old rfl).trans (hlv.at 1 (16, .pointer (some ⟨gx, 0, none⟩)) rfl)
                    clear hp hlv hN
                    refine ⟨fun hg => ?_, fun hg => absurd h4 hg⟩
                    clear hg
                    unfold Roll.Goes
                    simp only [Lrs22b, List.getD_cons_zero, List.getD_cons_succ]
                    generalize Roll.putD Drs22b vals [4] b0 = a1 at *
                    refine Roll.goes_val (w' := p) (.pointer (some ⟨gx, 1, none⟩)) rfl ?_ ⟨hI, Below.refl _ _, rfl⟩
                    (have ec : ∀ x, a1.eval (.const x) = x := fun _ => rfl); (have ef : ∀ x, a1.eval (.func x) = .func (.func x) #[] #[] := fun _ => rfl); generalize a1.eval = ρ at *
                    clear h4
                    go_simp <;> (intros; first | (exfalso; omega) | rfl)
                  · intro vals p hI hp
                    have h7 : (vals 7) = .pointer (some ⟨gx, 1, none⟩) := hp 7 (by simp [Lrs22b])
                    have h4 : (vals 4) = .bool false := hp 4 (by simp [Lrs22b])
                    have e95 : (Roll.putD Drs22b vals [7, 4] b0).eval (.tmp 95) = .pointer (some ⟨gx, 1, none⟩) := (Roll.eval_new 7 rfl (by decide) (by decide) (by omega)).trans h7
                    clear hp hlv hN
                    refine ⟨fun hg => ?_, fun hg => absurd h4 hg⟩
                    clear hg
                    unfold Roll.Goes
                    simp only [Lrs22b, List.getD_cons_zero, List.getD_cons_succ]
                    generalize Roll.putD Drs22b vals [7, 4] b0 = a1 at *
                    have c1 := (hI.cell (p := ⟨gx, 1, none⟩) Hge.out).trans RX.out.facts.2.1
                    refine Roll.goes_val (w' := p) (.int .i64 (e2 : Int)) rfl ?_ ⟨hI, Below.refl _ _, rfl⟩
                    (have ec : ∀ x, a1.eval (.const x) = x := fun _ => rfl); (have ef : ∀ x, a1.eval (.func x) = .func (.func x) #[] #[] := fun _ => rfl); generalize a1.eval = ρ at *
                    clear h7 h4
                    go_simp <;> (intros; first | (exfalso; omega) | rfl)
                  · intro vals p hI hp
                    have h6 : (vals 6) = .int .i64 (e2 : Int) := hp 6 (by simp [Lrs22b])
                    have h8 : (vals 8) = .int .i64 (e2 : Int) := hp 8 (by simp [Lrs22b])
                    have h4 : (vals 4) = .bool false := hp 4 (by simp [Lrs22b])
                    have e94 : (Roll.putD Drs22b vals [6, 8, 4] b0).eval (.tmp 94) = .int .i64 (e2 : Int) := (Roll.eval_new 6 rfl (by decide) (by decide) (by omega)).trans h6
                    have e96 : (Roll.putD Drs22b vals [6, 8, 4] b0).eval (.tmp 96) = .int .i64 (e2 : Int) := (Roll.eval_new 8 rfl (by decide) (by decide) (by omega)).trans h8
                    clear hp hlv hN
                    refine ⟨fun hg => ?_, fun hg => absurd h4 hg⟩
                    clear hg
                    unfold Roll.Goes
                    simp only [Lrs22b, List.getD_cons_zero, List.getD_cons_succ]
                    generalize Roll.putD Drs22b vals [6, 8, 4] b0 = a1 at *
                    refine Roll.goes_val (w' := p) (.bool false) rfl ?_ ⟨hI, Below.refl _ _, rfl⟩
                    (have ec : ∀ x, a1.eval (.const x) = x := fun _ => rfl); (have ef : ∀ x, a1.eval (.func x) = .func (.func x) #[] #[] := fun _ => rfl); generalize a1.eval = ρ at *
                    clear h6 h8 h4
                    go_simp <;> (intros; first | (exfalso; omega) | rfl)
                  · intro vals p hI hp
                    have h4 : (vals 4) = .bool false := hp 4 (by simp [Lrs22b])
                    have h9 : (vals 9) = .bool false := hp 9 (by simp [Lrs22b])
                    have e92 : (Roll.putD Drs22b vals [4, 9] b0).eval (.tmp 92) = .bool false := (Roll.eval_new 4 rfl (by decide) (by decide) (by omega)).trans h4
                    have e97 : (Roll.putD Drs22b vals [4, 9] b0).eval (.tmp 97) = .bool false := (Roll.eval_new 9 rfl (by decide) (by decide) (by omega)).trans h9
                    clear hp hlv hN
                    unfold Roll.Goes
                    simp only [Lrs22b, List.getD_cons_zero, List.getD_cons_succ]
                    generalize Roll.putD Drs22b vals [4, 9] b0 = a1 at *
                    refine Roll.goes_val (w' := p) (.bool false) rfl ?_ ⟨hI, Below.refl _ _, rfl⟩
                    (have ec : ∀ x, a1.eval (.const x) = x := fun _ => rfl); (have ef : ∀ x, a1.eval (.func x) = .func (.func x) #[] #[] := fun _ => rfl); generalize a1.eval = ρ at *
                    clear h4 h9
                    go_simp <;> (intros; first | (exfalso; omega) | rfl)
                  · intro vals p hI hp
                    have h10 : (vals 10) = .bool false := hp 10 (by simp [Lrs22b])
                    have e98 : (Roll.putD Drs22b vals [10] b0).eval (.tmp 98) = .bool false := (Roll.eval_new 10 rfl (by decide) (by decide) (by omega)).trans h10
                    clear hp hlv hN
                    unfold Roll.Goes
                    simp only [Lrs22b, List.getD_cons_zero, List.getD_cons_succ]
                    generalize Roll.putD Drs22b vals [10] b0 = a1 at *
                    refine Roll.goes_val (w' := p) (.bool false) rfl ?_ ⟨hI, Below.refl _ _, rfl⟩
                    (have ec : ∀ x, a1.eval (.const x) = x := fun _ => rfl); (have ef : ∀ x, a1.eval (.func x) = .func (.func x) #[] #[] := fun _ => rfl); generalize a1.eval = ρ at *
                    clear h10
                    go_simp <;> (intros; first | (exfalso; omega) | rfl)
                  · intro vals p hI hp
                    have h11 : (vals 11) = .bool false := hp 11 (by simp [Lrs22b])
                    have e15 : (Roll.putD Drs22b vals [11] b0).eval (.tmp 15) = .pointer (some ⟨g, 0, none⟩) := (Roll.eval_old rfl).trans (hlv.at 0 (15, .pointer (some ⟨g, 0, none⟩)) rfl)
                    clear hp hlv hN
                    refine ⟨fun hg => ?_, fun hg => absurd h11 hg⟩
                    clear hg
                    unfold Roll.Goes
                    simp only [Lrs22b, List.getD_cons_zero, List.getD_cons_succ]
                    generalize Roll.putD Drs22b vals [11] b0 = a1 at *
                    refine Roll.goes_val (w' := p) (.pointer (some ⟨g, 0, none⟩)) rfl ?_ ⟨hI, Below.refl _ _, rfl⟩
                    (have ec : ∀ x, a1.eval (.const x) = x := fun _ => rfl); (have ef : ∀ x, a1.eval (.func x) = .func (.func x) #[] #[] := fun _ => rfl); generalize a1.eval = ρ at *
                    clear h11
                    go_simp <;> (intros; first | (exfalso; omega) | rfl)
                  · intro vals p hI hp
                    have h12 : (vals 12) = .pointer (some ⟨g, 0, none⟩) := hp 12 (by simp [Lrs22b])
                    have h11 : (vals 11) = .bool false := hp 11 (by simp [Lrs22b])
                    have e100 : (Roll.putD Drs22b vals [12, 11] b0).eval (.tmp 100) = .pointer (some ⟨g, 0, none⟩) := (Roll.eval_new 12 rfl (by decide) (by decide) (by omega)).trans h12
                    clear hp hlv hN
                    refine ⟨fun hg => ?_, fun hg => absurd h11 hg⟩
                    clear hg
                    unfold Roll.Goes
                    simp only [Lrs22b, List.getD_cons_zero, List.getD_cons_succ]
                    generalize Roll.putD Drs22b vals [12, 11] b0 = a1 at *
                    refine Roll.goes_call 25 #[.pointer (some ⟨g, 0, none⟩)] p rfl (by have ec : ∀ x, a1.eval (.const x) = x := fun _ => rfl; have ef : ∀ x, a1.eval (.func x) = .func (.func x) #[] #[] := fun _ => rfl; generalize a1.eval = ρ at *; go_simp) ?_
                    refine (end_any g k3 l2 e2 p (RG.out.kept (Kept.of_below (fun _ => False) hI) (fun h => h) (fun _ _ h => h))).mono ?_
                    rw [← HE.out]
                    rintro y p2 ⟨rfl, rfl⟩
                    exact ⟨_, rfl, hI, Below.refl _ _, rfl⟩
                  · intro vals p hI hp
                    have h11 : (vals 11) = .bool false := hp 11 (by simp [Lrs22b])
                    have e16 : (Roll.putD Drs22b vals [11] b0).eval (.tmp 16) = .pointer (some ⟨gx, 0, none⟩) := (Roll.eval_old rfl).trans (hlv.at 1 (16, .pointer (some ⟨gx, 0, none⟩)) rfl)
                    clear hp hlv hN
                    refine ⟨fun hg => ?_, fun hg => absurd h11 hg⟩
                    clear hg
                    unfold Roll.Goes
                    simp only [Lrs22b, List.getD_cons_zero, List.getD_cons_succ]
                    generalize Roll.putD Drs22b vals [11] b0 = a1 at *
                    exact Roll.goes_load_row rfl 48 (.tmp 16) rfl gx e16 48 #[.slice ac l2'.length cc, .int .i64 (e2 : Int)] (0, 0) _ ((hI.block _ Hge.out).trans RX.out) Try.underlying48 rfl (rdsz2 _ _) ⟨hI, Below.refl _ _, rfl⟩
                  · intro vals p hI hp
                    have h14 : (vals 14) = .agg #[.slice ac l2'.length cc, .int .i64 (e2 : Int)] := hp 14 (by simp [Lrs22b])
                    have h11 : (vals 11) = .bool false := hp 11 (by simp [Lrs22b])
                    have e102 : (Roll.putD Drs22b vals [14, 11] b0).eval (.tmp 102) = .agg #[.slice ac l2'.length cc, .int .i64 (e2 : Int)] := (Roll.eval_new 14 rfl (by decide) (by decide) (by omega)).trans h14
                    clear hp hlv hN
                    refine ⟨fun hg => ?_, fun hg => absurd h11 hg⟩
                    clear hg
                    unfold Roll.Goes
                    simp only [Lrs22b, List.getD_cons_zero, List.getD_cons_succ]
                    generalize Roll.putD Drs22b vals [14, 11] b0 = a1 at *
                    refine Roll.goes_call 26 #[.agg #[.slice ac l2'.length cc, .int .i64 (e2 : Int)]] p rfl (by have ec : ∀ x, a1.eval (.const x) = x := fun _ => rfl; have ef : ∀ x, a1.eval (.func x) = .func (.func x) #[] #[] := fun _ => rfl; generalize a1.eval = ρ at *; go_simp) ?_
                    refine (refEnd_any ac l2'.length cc e2 p hl2'b).mono ?_
                    rw [← HE1.out, ← HE.out]
                    rintro y p2 ⟨rfl, hb⟩
                    exact ⟨_, rfl, hI.trans (hb.mono hI.size), hb, rfl⟩
                  · intro vals p hI hp
                    have h13 : (vals 13) = .int .i64 (E : Int) := hp 13 (by simp [Lrs22b])
                    have h15 : (vals 15) = .int .i64 (E : Int) := hp 15 (by simp [Lrs22b])
                    have h11 : (vals 11) = .bool false := hp 11 (by simp [Lrs22b])
                    have e101 : (Roll.putD Drs22b vals [13, 15, 11] b0).eval (.tmp 101) = .int .i64 (E : Int) := (Roll.eval_new 13 rfl (by decide) (by decide) (by omega)).trans h13
                    have e103 : (Roll.putD Drs22b vals [13, 15, 11] b0).eval (.tmp 103) = .int .i64 (E : Int) := (Roll.eval_new 15 rfl (by decide) (by decide) (by omega)).trans h15
                    clear hp hlv hN
                    refine ⟨fun hg => ?_, fun hg => absurd h11 hg⟩
                    clear hg
                    unfold Roll.Goes
                    simp only [Lrs22b, List.getD_cons_zero, List.getD_cons_succ]
                    generalize Roll.putD Drs22b vals [13, 15, 11] b0 = a1 at *
                    refine Roll.goes_val (w' := p) (.bool false) rfl ?_ ⟨hI, Below.refl _ _, rfl⟩
                    (have ec : ∀ x, a1.eval (.const x) = x := fun _ => rfl); (have ef : ∀ x, a1.eval (.func x) = .func (.func x) #[] #[] := fun _ => rfl); generalize a1.eval = ρ at *
                    clear h13 h15 h11
                    go_simp <;> (intros; first | (exfalso; omega) | rfl)
                  · intro vals p hI hp
                    have h11 : (vals 11) = .bool false := hp 11 (by simp [Lrs22b])
                    have h16 : (vals 16) = .bool false := hp 16 (by simp [Lrs22b])
                    have e99 : (Roll.putD Drs22b vals [11, 16] b0).eval (.tmp 99) = .bool false := (Roll.eval_new 11 rfl (by decide) (by decide) (by omega)).trans h11
                    have e104 : (Roll.putD Drs22b vals [11, 16] b0).eval (.tmp 104) = .bool false := (Roll.eval_new 16 rfl (by decide) (by decide) (by omega)).trans h16
                    clear hp hlv hN
                    unfold Roll.Goes
                    simp only [Lrs22b, List.getD_cons_zero, List.getD_cons_succ]
                    generalize Roll.putD Drs22b vals [11, 16] b0 = a1 at *
                    refine Roll.goes_val (w' := p) (.bool false) rfl ?_ ⟨hI, Below.refl _ _, rfl⟩
                    (have ec : ∀ x, a1.eval (.const x) = x := fun _ => rfl); (have ef : ∀ x, a1.eval (.func x) = .func (.func x) #[] #[] := fun _ => rfl); generalize a1.eval = ρ at *
                    clear h11 h16
                    go_simp <;> (intros; first | (exfalso; omega) | rfl)
                · intro vals p hI hR
                  have h0 : (vals 0) = .agg m1.cells.toArray := hR 0 (by omega)
                  have h1 : (vals 1) = .agg m2.cells.toArray := hR 1 (by omega)
                  have h2 : (vals 2) = .bool true := hR 2 (by omega)
                  have h3 : (vals 3) = .bool false := hR 3 (by omega)
                  have h4 : (vals 4) = .bool false := hR 4 (by omega)
                  have h5 : (vals 5) = .pointer (some ⟨g, 0, none⟩) := hR 5 (by omega)
                  have h6 : (vals 6) = .int .i64 (e2 : Int) := hR 6 (by omega)
                  have h7 : (vals 7) = .pointer (some ⟨gx, 1, none⟩) := hR 7 (by omega)
                  have h8 : (vals 8) = .int .i64 (e2 : Int) := hR 8 (by omega)
                  have h9 : (vals 9) = .bool false := hR 9 (by omega)
                  have h10 : (vals 10) = .bool false := hR 10 (by omega)
                  have h11 : (vals 11) = .bool false := hR 11 (by omega)
                  have h12 : (vals 12) = .pointer (some ⟨g, 0, none⟩) := hR 12 (by omega)
                  have h13 : (vals 13) = .int .i64 (E : Int) := hR 13 (by omega)
                  have h14 : (vals 14) = .agg #[.slice ac l2'.length cc, .int .i64 (e2 : Int)] := hR 14 (by omega)
                  have h15 : (vals 15) = .int .i64 (E : Int) := hR 15 (by omega)
                  have h16 : (vals 16) = .bool false := hR 16 (by omega)
                  have h17 : (vals 17) = .bool false := hR 17 (by omega)
                  clear hR
                  simp only [List.range_succ, List.range_zero, List.nil_append, List.cons_append, Roll.putD, Act.put, List.getD_cons_zero, List.getD_cons_succ, List.setIfInBounds_toArray, List.set_cons_zero, List.set_cons_succ, List.drop_succ_cons, List.drop_zero, Drs22b]
                  simp only [h0, h1, h2, h3, h4, h5, h6, h7, h8, h9, h10, h11, h12, h13, h14, h15, h16, h17]
                  clear h0 h1 h2 h3 h4 h5 h6 h7 h8 h9 h10 h11 h12 h13 h14 h15 h16 h17
                  have HI2 := Lib.hid hI
                  clear hI
                  go_wp2_with fail
                  go_roundw
                  case rel =>
                    have h1 := Hln.out
                    have h2 := Hln'.out
                    have h3 := HA.out.len
                    have kI := Kept.of_below (fun _ => False) HI2.out
                    exact ⟨i + 1, l2, l2', e2, by omega, by go_num, RG.out.kept kI (fun h => h) (fun _ _ h => h), ⟨ac, cc, kI.heap RX.out (fun h => h), RB.out.kept kI (fun _ _ _ h => h)⟩, Hs3.out, ⟨by omega, by omega⟩, KF.out.trans kI (fun _ _ h => h.elim)⟩
                  case measure => simp [intOf]; omega
          · obtain rfl : i = ns.length := by omega
            have hb5r : Below w5.heap.size w5 wr := HB57.out.trans (HA.out.kept.below HB57.out.size (fun j hj e => by have := Hgg.out; omega))
            have HB5r := Lib.hid hb5r
            clear hb5r
            go_wp2_with fail
            go_roundw
            case rel => exact ⟨k + 1, by omega, by go_num, HB5r.out⟩
            case measure => simp [intOf]; omega
      · obtain rfl : k = 2 := by omega
        have hb : Below w.heap.size w wr := HB5.out.trans (HBr.out.mono HB5.out.size)
        have HBf := Lib.hid hb
        clear hb hbr
        go_wp2_with (first
          | (go_at_call 17; refine (lives_any _).mono ?_; rintro e w7 ⟨rfl, hb7⟩; have B7 := Lib.hid hb7; clear hb7))
        go_ret
        exact ⟨rfl, HBf.out.trans (B7.out.mono HBf.out.size)⟩
  · have hT3 := HT.out w2 ⟨⟨L, rfl, Ho2.out⟩, Kept.refl _ _⟩
    have HT3 := Lib.hid hT3
    have HV3 := Lib.hid HV2.out
    have Hs3 := Lib.hid HB2.out.size
    have hln : L.length = 0 := by omega
    obtain ⟨w3, hw3⟩ : ∃ w3, w3 = w2 := ⟨_, rfl⟩
    go_upto_region 5 with fail
    rw [← hw3] at HT3 HV3 Hs3 ⊢
    clear hT3 HT HV2 Ho2 Hf2 HB2 Hs2 hw3 hln
    obtain ⟨hbw3, L3, hl3, hBs3⟩ := HT3.out
    have HBw3 := Lib.hid hbw3
    have HBs3 := Lib.hid hBs3
    have hFew := few_any _ sa sn sc 60 sl w3 (HB.out.kept (Kept.of_below (fun _ => False) hbw3) (fun _ _ _ h => h)) (by decide)
    have hlt : (sl.take 60).length ≤ 60 := by rw [List.length_take]; omega
    obtain ⟨L0, hL0'⟩ : ∃ L0, L0 = sl.take 60 := ⟨_, rfl⟩
    rw [← hL0'] at hFew hlt
    have HFew := Lib.hid hFew
    have HE1 := Lib.hid E1.out.bel
    clear hbw3 hBs3 hFew HT3 hL0' E1
    go_upto_region 6 with (first
      | (go_at_call 19; refine HFew.out.mono ?_; rintro e w4 ⟨v4, rfl, hm4⟩; obtain ⟨k4, ho4, hf4, hb4⟩ := hm4; obtain ⟨fa, fc, rfl, hs4⟩ := Own.bs ho4; have S4 := Lib.hid (hs4.dom (D' := fun b => w3.heap.size ≤ b ∧ b < w4.heap.size) (fun b hb => ⟨hf4 b hb, ho4.lt b hb⟩)); have B4 := Lib.hid hb4; clear hs4 hb4 ho4 hf4))
    obtain ⟨w5, hw5⟩ : ∃ w5, w5 = w4.alloc (.cells #[.slice fa L0.length fc, .slice ta L.length tc] 23) := ⟨_, rfl⟩
    rw [← hw5]
    obtain ⟨bi, hbi⟩ : ∃ bi, bi = w4.heap.size := ⟨_, rfl⟩
    have hin : w5.heap[bi]? = some (.cells #[.slice fa L0.length fc, .slice ta L.length tc] 23 (0, 0)) := by rw [hw5]; exact heap_new hbi
    have hb45 : Below w4.heap.size w4 w5 := by rw [hw5]; exact (Below.refl _ _).alloc (Nat.le_refl _) _
    have hb35 : Below w3.heap.size w3 w5 := B4.out.trans (hb45.mono B4.out.size)
    have hz5 : w5.heap.size = w4.heap.size + 1 := by rw [hw5, size_alloc1]
    have hS5 : Bs (fun b => w.heap.size ≤ b ∧ b < w5.heap.size) w5 fa L0.length fc L0 := (S4.out.kept (Kept.of_below (fun _ => False) hb45) (fun _ _ _ h => h)).dom (fun b hb => ⟨by have := HBw3.out.size; have := hb.1; omega, by have := hb.2; omega⟩)
    have hT5 : Bs (fun b => w.heap.size ≤ b ∧ b < w5.heap.size) w5 ta L3.length tc L3 := (HBs3.out.kept (Kept.of_below (fun _ => False) hb35) (fun _ _ _ h => h)).dom (fun b hb => ⟨by have := HE1.out.size; have := hb.1; omega, by have := hb35.size; have := hb.2; omega⟩)
    have hV5 : Vs (fun b => w.heap.size ≤ b ∧ b < w5.heap.size) w5 ua ns.length uc ns := (HV3.out.below hb35).dom (fun b hb => ⟨hb.1, by have := hb35.size; have := Hs3.out; have := hb.2; omega⟩)
    have hB5 : Below w.heap.size w w5 := HBw3.out.trans (hb35.mono HBw3.out.size)
    have hM5 : Is (Old w) w5 ma mn mc mz := HM.out.kept (Kept.of_below (fun _ => False) hB5) (fun _ _ _ h => h)
    have Hin := Lib.hid hin
    have HS5 := Lib.hid hS5
    have HT5 := Lib.hid hT5
    have HV5 := Lib.hid hV5
    have HB5 := Lib.hid hB5
    have HM5 := Lib.hid hM5
    have Hl3 := Lib.hid hl3
    have Hbi := Lib.hid (heap_lt hin)
    rw [← hbi]
    clear hin hb45 hb35 hz5 hS5 hT5 hV5 hB5 hM5 hw5 hbi HBw3 HBs3 HFew HM HV3 Hs3 S4 B4 hl3 HB HV HE1
    go_wp2_with fail
    go_loopw [14] (fun t wr => ∃ k : Nat, k ≤ 2 ∧ t = .int .i64 (k : Int) ∧ Below w5.heap.size w5 wr) (fun t _ => 2 - (intOf t).toNat)
    case atStart => exact ⟨0, by omega, rfl, Below.refl _ _⟩
    case round =>
      obtain ⟨k, hk, rfl, hbr⟩ := hrel
      have HBr := Lib.hid hbr
      by_cases hk2 : k < 2
      · have hinp : ∃ A C l1, wr.cell? ⟨bi, k, none⟩ = some (.slice A (l1 : List UInt8).length C) ∧ Bs (fun b => w.heap.size ≤ b ∧ b < w5.heap.size) wr A l1.length C l1 ∧ l1.length ≤ 1000000000 := by
          have hh := (hbr.block _ Hbi.out).trans Hin.out
          have hcl := cell_of_row wr bi k _ _ _ hh
          rcases (by omega : k = 0 ∨ k = 1) with rfl | rfl
          · exact ⟨fa, fc, L0, hcl, HS5.out.kept (Kept.of_below (fun _ => False) hbr) (fun _ _ _ h => h), by omega⟩
          · refine ⟨ta, tc, L3, ?_, HT5.out.kept (Kept.of_below (fun _ => False) hbr) (fun _ _ _ h => h), by have := Hl3.out; omega⟩
            rw [Hl3.out]; exact hcl
        obtain ⟨A, C, l1, hcA, hBA, hl1⟩ := hinp
        have HBA := Lib.hid hBA
        have nc1 : l1.length ≤ C := hBA.2.2.1
        have nc2 : C ≤ 9223372036854775807 := hBA.2.2.2.1
        have hbw : bi < wr.heap.size := Nat.lt_of_lt_of_le Hbi.out hbr.size
        clear hBA hbr
        go_upto_region 13 with (first
          | (go_at_call 20; refine (newReader_any _ _ _ _ _ _ HBA.out (by omega)).mono ?_; rintro e w6 ⟨g, rfl, k3, hr6, hg6, hf6, hb6⟩; have R6 := Lib.hid hr6; have G6 := Lib.hid hg6; have F6 := Lib.hid hf6; have B6 := Lib.hid hb6; have c6 : w6.cell? ⟨bi, k, none⟩ = some (.slice A l1.length C) := ((hb6.cell (p := ⟨bi, k, none⟩) hbw).trans hcA); have z6 : bi < w6.heap.size := Nat.lt_of_lt_of_le hbw hb6.size; clear hr6 hg6 hf6 hb6))
        go_wp2_with fail
        obtain ⟨w7, hw7⟩ : ∃ w7, w7 = w6.alloc (.cells #[.slice A l1.length C, .int .i64 0] 48) := ⟨_, rfl⟩
        rw [← hw7]
        obtain ⟨gx, hgx⟩ : ∃ gx, gx = w6.heap.size := ⟨_, rfl⟩
        rw [← hgx]
        have hb67 : Below w6.heap.size w6 w7 := by rw [hw7]; exact (Below.refl _ _).alloc (Nat.le_refl _) _
        have hrx : RdB w7 gx A l1.length C 0 := by rw [hw7]; exact heap_new hgx
        have hb57 : Below w5.heap.size w5 w7 := HBr.out.trans ((B6.out.trans (hb67.mono B6.out.size)).mono HBr.out.size)
        have hr7 : Rd w7 g k3 l1 0 := R6.out.kept (Kept.of_below (fun _ => False) hb67) (fun h => h) (fun _ _ h => h)
        have hgg : w5.heap.size ≤ g ∧ g < gx := ⟨Nat.le_trans HBr.out.size G6.out, by rw [hgx]; exact R6.out.lt⟩
        have hkk : ∀ j, k3 = some j → w5.heap.size ≤ j ∧ j < gx := fun j hj => ⟨Nat.le_trans HBr.out.size (F6.out j hj).1, by rw [hgx]; exact (F6.out j hj).2⟩
        have hBA7 : Bs (fun b => w.heap.size ≤ b ∧ b < w5.heap.size) w7 A l1.length C l1 := HBA.out.kept (Kept.of_below (fun _ => False) (B6.out.trans (hb67.mono B6.out.size))) (fun _ _ _ h => h)
        have hz7 : gx < w7.heap.size := heap_lt hrx
        have H7 : Hid (RnAt (fun b => w.heap.size ≤ b ∧ b < w5.heap.size) g k3 gx w7 w7 l1 l1 0) := Lib.hid ⟨hr7, ⟨A, C, hrx, hBA7⟩, fun _ => rfl, ⟨hl1, hl1⟩, Kept.refl _ _⟩
        have HB57 := Lib.hid hb57
        have Hgg := Lib.hid hgg
        have Hkk := Lib.hid hkk
        have Hz7 := Lib.hid hz7
        clear hw7 hgx hb67 hrx hb57 hr7 hgg hkk hBA7 hz7 R6 G6 F6 B6 HBA c6 z6 hcA hbw
        obtain ⟨wo, hwo⟩ : ∃ wo : World, wo = wr := ⟨_, rfl⟩
        subst hwo
        go_loopw [17] (fun t wr => ∃ (i : Nat) (l l' : List UInt8) (e : Nat), i ≤ ns.length ∧ t = .int .i64 (i : Int) ∧ RnAt (fun b => w.heap.size ≤ b ∧ b < w5.heap.size) g k3 gx w7 wr l l' e) (fun t _ => ns.length - (intOf t).toNat)
        case atStart => exact ⟨0, l1, l1, 0, Nat.zero_le _, rfl, H7.out⟩
        case round =>
          obtain ⟨i, l, l', e, hi, rfl, hA⟩ := hrel
          have HA := Lib.hid hA
          clear hA H7
          by_cases hlt : i < ns.length
          · have hb5r : Below w5.heap.size w5 wr := HB57.out.trans (HA.out.kept.below HB57.out.size (fun j hj e => by have := Hgg.out; omega))
            have HB5r := Lib.hid hb5r
            have hVr : Vs (fun b => w.heap.size ≤ b ∧ b < w5.heap.size) wr ua ns.length uc ns := HV5.out.kept (Kept.of_below (fun _ => False) hb5r) (fun _ _ _ h => h)
            obtain ⟨b, off, hDb, hbw, rfl, hr⟩ := hVr.at (by omega)
            have hr2 := hr i hlt
            have hOk := hVr.2.2 ns[i] (List.getElem_mem hlt)
            generalize ns[i] = m at *
            have hsz := hb5r.size
            have Hr2 := Lib.hid hr2
            have Hbw := Lib.hid hbw
            have Hmk := Lib.hid hOk.k
            have hDb5 := hDb.2
            clear hr hr2 hVr hDb hOk hb5r
            by_cases hmi : i < mn
            · obtain ⟨mb, moff, hmD, hmbw, rfl, hmc⟩ := (HM5.out.kept (Kept.of_below (fun _ => False) HB5r.out) (fun _ _ _ h => h)).cells (by omega)
              have hiz : i < mz.length := by have := HM5.out.1; omega
              have hcm := hmc i hiz
              obtain ⟨hM1, hM2⟩ := HM64.out mz[i] (List.getElem_mem hiz)
              generalize mz[i] = M at *
              clear hmc hmD hbw
              go_upto_region 19 with fail
              clear hcm hmbw
              obtain ⟨ra, rc, hrb, hbb⟩ := HA.out.rb
              have hCr := read_any g k3 l e m M wr HA.out.rd (fun j hj => by have := (Hkk.out j hj).2; have := Hz7.out; have := HA.out.kept.size; omega) Hmk.out (by have := HA.out.len; omega) hM1 hM2
              have hsim := ref_sim m.k l l' e HA.out.sim M
              have hln := rVal_len m.k ⟨l, e⟩ M
              have hln' := refVal_len m.k ⟨l', e⟩ M
              obtain ⟨RW, hRW⟩ : ∃ RW, RW = refVal m.k ⟨l', e⟩ M := ⟨_, rfl⟩
              rw [← hRW] at hsim hln'
              generalize rVal m.k ⟨l, e⟩ M = RV at *
              obtain ⟨pv, l2, e2⟩ := RV
              simp only at hsim
              obtain ⟨l2', hRW2⟩ : ∃ l2', RW = (pv, (⟨l2', e2⟩ : RS)) := ⟨RW.2.l, by rw [← hsim.1, ← hsim.2.1]⟩
              have hs3 := hsim.2.2
              rw [hRW2] at hs3 hln' hRW
              simp only at hCr hs3 hln hln'
              clear hsim hRW2
              have HR2 : Hid (refVal m.k ⟨l', e⟩ M = (pv, ⟨l2', e2⟩)) := Lib.hid hRW.symm
              have HCr := Lib.hid hCr
              have Hs3 := Lib.hid hs3
              have Hln := Lib.hid hln
              have Hln' := Lib.hid hln'
              have Hlb := HA.out.len
              have hl'b : l'.length ≤ 100000000000 := by omega
              have Hrb := Lib.hid hrb
              have Hbb := Lib.hid hbb
              clear hCr hs3 hln hln' hRW hrb hbb Hlb
              go_upto_region 20 with (first
                | (go_at_call 21; refine HCr.out.mono ?_; rintro y w8 ⟨m1, rfl, hk1, hp1, ho1, h8⟩; have H8 := Lib.hid h8; have Hk1 := Lib.hid hk1; have Hp1 := Lib.hid hp1; have Ho1 := Lib.hid ho1; clear h8 hk1 hp1 ho1; simp only [VM.val])
                | (refine wpList_load_mid rfl 34 (.tmp 73) rfl b (off + i * 6) rfl _ _ Hr2.out Try.underlying34 rfl (by rw [VM.cells_len]; kernel_rfl) ?_; rw [VM.cells_arr]))
              obtain ⟨q, hq⟩ : ∃ q, q = w8.alloc (.cells #[.int .u8 (m1.k : Int), .int .u64 (m1.u : Int), .int .i64 m1.n, .bool m1.b, .string m1.s, .slice m1.a m1.ln m1.c] 34) := ⟨_, rfl⟩
              rw [← hq]
              obtain ⟨g19, hg19⟩ : ∃ g19, g19 = w8.heap.size := ⟨_, rfl⟩
              rw [← hg19]
              have hK8q : Kept (fun b => b = g) wr q := by rw [hq]; exact H8.out.2.alloc _
              have hq19 : q.heap[g19]? = some (.cells #[.int .u8 (m1.k : Int), .int .u64 (m1.u : Int), .int .i64 m1.n, .bool m1.b, .string m1.s, .slice m1.a m1.ln m1.c] 34 (0, 0)) := by rw [hq]; exact heap_new hg19
              have hgx : gx < wr.heap.size := Nat.lt_of_lt_of_le Hz7.out HA.out.kept.size
              have Q0 : Hid (RdB q gx ra l'.length rc e) := Lib.hid (hK8q.heap Hrb.out (by have := Hgg.out; omega))
              have QB : Hid (Bs (fun b => w.heap.size ≤ b ∧ b < w5.heap.size) q ra l'.length rc l') := Lib.hid (Hbb.out.kept hK8q (fun b _ hb h => by have := Hgg.out; have := hb.2; omega))
              have Qm : Hid (q.rangeAt b (off + i * 6) m.cells) := Lib.hid (range_kept Hr2.out Hbw.out hK8q (by have := Hgg.out; have := hDb5; omega))
              have Qb : Hid (b < q.heap.size) := Lib.hid (Nat.lt_of_lt_of_le Hbw.out hK8q.size)
              have QS : Hid (w5.heap.size ≤ q.heap.size ∧ gx < q.heap.size) := Lib.hid ⟨Nat.le_trans hsz hK8q.size, Nat.lt_of_lt_of_le hgx hK8q.size⟩
              have Q19 := Lib.hid hq19
              have QK := Lib.hid hK8q
              have Hg19 := Lib.hid hg19
              have Hq := Lib.hid hq
              have hi2 : (i : Int) < (ns.length : Int) := by omega
              clear hK8q hq19 hgx hg19 hq
              refine Roll.region_g 13 107 Drs20a Lrs20a [(11, .slice (some ⟨b, off, none⟩) ns.length uc), (16, .pointer (some ⟨gx, 0, none⟩)), (17, .int .i64 (i : Int)), (18, .int .i64 M)] (fun p => Below q.heap.size q p) (fun p p' => ExS q.heap.size (fun b => w.heap.size ≤ b ∧ b < w5.heap.size) l2' e2 p p') [fun vv p => (vv 0) = .agg #[.slice ra l'.length rc, .int .i64 (e : Int)], fun vv p => (vv 1) = .slice (some ⟨b, off, none⟩) ns.length uc, fun vv p => (vv 2) = .int .i64 (i : Int), fun vv p => (vv 3) = .pointer (some ⟨b, off + i * 6, none⟩), fun vv p => (vv 4) = m.val, fun vv p => (vv 5) = .int .i64 M, fun vv p => ∃ ac cc, ∃ m2 : VM, (vv 6) = .tuple #[rdv ac l2'.length cc e2, m2.val] ∧ Bs (fun b => w.heap.size ≤ b ∧ b < w5.heap.size) p ac l2'.length cc l2' ∧ m2.k = m.k ∧ m2.pv = pv ∧ VOk (fun b => q.heap.size ≤ b ∧ IntRow p b) p m2, fun vv p => ∃ ac cc, ∃ m2 : VM, (vv 7) = .tuple #[rdv ac l2'.length cc e2, m2.val] ∧ Bs (fun b => w.heap.size ≤ b ∧ b < w5.heap.size) p ac l2'.length cc l2' ∧ m2.k = m.k ∧ m2.pv = pv ∧ VOk (fun b => q.heap.size ≤ b ∧ IntRow p b) p m2, fun vv p => ∃ ac cc, (vv 8) = rdv ac l2'.length cc e2 ∧ Bs (fun b => w.heap.size ≤ b ∧ b < w5.heap.size) p ac l2'.length cc l2', fun vv p => ∃ m2 : VM, (vv 9) = m2.val ∧ m2.k = m.k ∧ m2.pv = pv ∧ VOk (fun b => q.heap.size ≤ b ∧ IntRow p b) p m2, fun vv p => ∃ g, (vv 10) = .pointer (some ⟨g, 0, none⟩) ∧ q.heap.size ≤ g ∧ T2 p g, fun vv p => ∃ g, (vv 11) = .pointer (some ⟨g, 0, none⟩) ∧ q.heap.size ≤ g ∧ p.heap[g]? = some (.cells #[.int .u8 0, .int .u64 0, .int .i64 0, .bool false, .string ⟨#[]⟩, .slice none 0 0] 34 (0, 0)), fun vv p => ∃ g, (vv 10) = .pointer (some ⟨g, 0, none⟩) ∧ q.heap.size ≤ g ∧ New2 (fun b => w.heap.size ≤ b ∧ b < w5.heap.size) l2' e2 p g] (by kernel_rfl) (by kernel_rfl) rfl ⟨rfl, rfl, rfl, rfl, trivial⟩ ((Below.refl _ _).drew) ?_ ?_ ?_
              · exact ⟨fun _ _ _ _ h => h, fun _ _ _ _ h => h, fun _ _ _ _ h => h, fun _ _ _ _ h => h, fun _ _ _ _ h => h, fun _ _ _ _ h => h, fun v p p' hs h => (match h with | ⟨ac, cc, m2, e, hB, hk, hp, ho⟩ => ⟨ac, cc, m2, e, hs.bs (fun b hb => by have := QS.out; have := hb.2; omega) hB, hk, hp, hs.vok ho⟩), fun v p p' hs h => (match h with | ⟨ac, cc, m2, e, hB, hk, hp, ho⟩ => ⟨ac, cc, m2, e, hs.bs (fun b hb => by have := QS.out; have := hb.2; omega) hB, hk, hp, hs.vok ho⟩), fun v p p' hs h => (match h with | ⟨ac, cc, e, hB⟩ => ⟨ac, cc, e, hs.bs (fun b hb => by have := QS.out; have := hb.2; omega) hB⟩), fun v p p' hs h => (match h with | ⟨m2, e, hk, hp, ho⟩ => ⟨m2, e, hk, hp, hs.vok ho⟩), fun v p p' hs h => (match h with | ⟨g, e, hg, h2⟩ => ⟨g, e, hg, hs.two g h2⟩), fun v p p' hs h => (match h with | ⟨g, e, hg, h2⟩ => ⟨g, e, hg, hs.row h2⟩), fun v p p' hs h => (match h with | ⟨g, e, hg, h2⟩ => ⟨g, e, hg, hs.new g hg h2⟩), trivial⟩
              · intro b0 hN hlv
                refine ⟨?_, ?_, ?_, ?_, ?_, ?_, ?_, ?_, ?_, ?_, ?_, ?_, ?_, trivial⟩
                · intro vals p hI hp
                  have e16 : (Roll.putD Drs20a vals [] b0).eval (.tmp 16) = .pointer (some ⟨gx, 0, none⟩) := (Roll.eval_old rfl).trans (hlv.at 1 (16, .pointer (some ⟨gx, 0, none⟩)) rfl)
                  clear hp hlv hN
                  unfold Roll.Goes
                  simp only [Lrs20a, List.getD_cons_zero, List.getD_cons_succ]
                  generalize Roll.putD Drs20a vals [] b0 = a1 at *
                  exact Roll.goes_load_row rfl 48 (.tmp 16) rfl gx e16 48 #[.slice ra l'.length rc, .int .i64 (e : Int)] (0, 0) _ ((hI.block _ (heap_lt Q0.out)).trans Q0.out) Try.underlying48 rfl (rdsz2 _ _) ⟨hI, ExS.below (Below.refl _ _), rfl⟩
                · intro vals p hI hp
                  have e11 : (Roll.putD Drs20a vals [] b0).eval (.tmp 11) = .slice (some ⟨b, off, none⟩) ns.length uc := (Roll.eval_old rfl).trans (hlv.at 0 (11, .slice (some ⟨b, off, none⟩) ns.length uc) rfl)
                  clear hp hlv hN
                  unfold Roll.Goes
                  simp only [Lrs20a, List.getD_cons_zero, List.getD_cons_succ]
                  generalize Roll.putD Drs20a vals [] b0 = a1 at *
                  refine Roll.goes_val (w' := p) (.slice (some ⟨b, off, none⟩) ns.length uc) rfl ?_ ⟨hI, ExS.below (Below.refl _ _), rfl⟩
                  (have ec : ∀ x, a1.eval (.const x) = x := fun _ => rfl); (have ef : ∀ x, a1.eval (.func x) = .func (.func x) #[] #[] := fun _ => rfl); generalize a1.eval = ρ at *
                  skip
                  go_simp <;> (intros; first | (exfalso; omega) | rfl)
                · intro vals p hI hp
                  have e17 : (Roll.putD Drs20a vals [] b0).eval (.tmp 17) = .int .i64 (i : Int) := (Roll.eval_old rfl).trans (hlv.at 2 (17, .int .i64 (i : Int)) rfl)
                  clear hp hlv hN
                  unfold Roll.Goes
                  simp only [Lrs20a, List.getD_cons_zero, List.getD_cons_succ]
                  generalize Roll.putD Drs20a vals [] b0 = a1 at *
                  refine Roll.goes_val (w' := p) (.int .i64 (i : Int)) rfl ?_ ⟨hI, ExS.below (Below.refl _ _), rfl⟩
                  (have ec : ∀ x, a1.eval (.const x) = x := fun _ => rfl); (have ef : ∀ x, a1.eval (.func x) = .func (.func x) #[] #[] := fun _ => rfl); generalize a1.eval = ρ at *
                  skip
                  go_simp <;> (intros; first | (exfalso; omega) | rfl)
                · intro vals p hI hp
                  have h1 : (vals 1) = .slice (some ⟨b, off, none⟩) ns.length uc := hp 1 (by simp [Lrs20a])
                  have h2 : (vals 2) = .int .i64 (i : Int) := hp 2 (by simp [Lrs20a])
                  have e79 : (Roll.putD Drs20a vals [1, 2] b0).eval (.tmp 79) = .slice (some ⟨b, off, none⟩) ns.length uc := (Roll.eval_new 1 rfl (by decide) (by decide) (by omega)).trans h1
                  have e80 : (Roll.putD Drs20a vals [1, 2] b0).eval (.tmp 80) = .int .i64 (i : Int) := (Roll.eval_new 2 rfl (by decide) (by decide) (by omega)).trans h2
                  clear hp hlv hN
                  unfold Roll.Goes
                  simp only [Lrs20a, List.getD_cons_zero, List.getD_cons_succ]
                  generalize Roll.putD Drs20a vals [1, 2] b0 = a1 at *
                  have z1 : (i : Int) < (ns.length : Int) := by omega
                  refine Roll.goes_val (w' := p) (.pointer (some ⟨b, off + i * 6, none⟩)) rfl ?_ ⟨hI, ExS.below (Below.refl _ _), rfl⟩
                  (have ec : ∀ x, a1.eval (.const x) = x := fun _ => rfl); (have ef : ∀ x, a1.eval (.func x) = .func (.func x) #[] #[] := fun _ => rfl); generalize a1.eval = ρ at *
                  clear h1 h2
                  go_simp <;> (intros; first | (exfalso; omega) | rfl)
                · intro vals p hI hp
                  have h3 : (vals 3) = .pointer (some ⟨b, off + i * 6, none⟩) := hp 3 (by simp [Lrs20a])
                  have e81 : (Roll.putD Drs20a vals [3] b0).eval (.tmp 81) = .pointer (some ⟨b, off + i * 6, none⟩) := (Roll.eval_new 3 rfl (by decide) (by decide) (by omega)).trans h3
                  clear hp hlv hN
                  unfold Roll.Goes
                  simp only [Lrs20a, List.getD_cons_zero, List.getD_cons_succ]
                  generalize Roll.putD Drs20a vals [3] b0 = a1 at *
                  exact Roll.goes_load_mid rfl 34 (.tmp 81) rfl b (off + i * 6) e81 m.cells _ (range_kept Qm.out Qb.out (Kept.of_below (fun _ => False) hI) (fun h => h)) Try.underlying34 rfl (by rw [VM.cells_len]; kernel_rfl) ⟨hI, ExS.below (Below.refl _ _), by rw [VM.cells_arr]; rfl⟩
                · intro vals p hI hp
                  have e18 : (Roll.putD Drs20a vals [] b0).eval (.tmp 18) = .int .i64 M := (Roll.eval_old rfl).trans (hlv.at 3 (18, .int .i64 M) rfl)
                  clear hp hlv hN
                  unfold Roll.Goes
                  simp only [Lrs20a, List.getD_cons_zero, List.getD_cons_succ]
                  generalize Roll.putD Drs20a vals [] b0 = a1 at *
                  refine Roll.goes_val (w' := p) (.int .i64 M) rfl ?_ ⟨hI, ExS.below (Below.refl _ _), rfl⟩
                  (have ec : ∀ x, a1.eval (.const x) = x := fun _ => rfl); (have ef : ∀ x, a1.eval (.func x) = .func (.func x) #[] #[] := fun _ => rfl); generalize a1.eval = ρ at *
                  skip
                  go_simp <;> (intros; first | (exfalso; omega) | rfl)
                · intro vals p hI hp
                  have h0 : (vals 0) = .agg #[.slice ra l'.length rc, .int .i64 (e : Int)] := hp 0 (by simp [Lrs20a])
                  have h4 : (vals 4) = m.val := hp 4 (by simp [Lrs20a])
                  have h5 : (vals 5) = .int .i64 M := hp 5 (by simp [Lrs20a])
                  have e78 : (Roll.putD Drs20a vals [0, 4, 5] b0).eval (.tmp 78) = .agg #[.slice ra l'.length rc, .int .i64 (e : Int)] := (Roll.eval_new 0 rfl (by decide) (by decide) (by omega)).trans h0
                  have e82 : (Roll.putD Drs20a vals [0, 4, 5] b0).eval (.tmp 82) = m.val := (Roll.eval_new 4 rfl (by decide) (by decide) (by omega)).trans h4
                  have e83 : (Roll.putD Drs20a vals [0, 4, 5] b0).eval (.tmp 83) = .int .i64 M := (Roll.eval_new 5 rfl (by decide) (by decide) (by omega)).trans h5
                  clear hp hlv hN
                  unfold Roll.Goes
                  simp only [Lrs20a, List.getD_cons_zero, List.getD_cons_succ]
                  generalize Roll.putD Drs20a vals [0, 4, 5] b0 = a1 at *
                  refine Roll.goes_call 22 #[.agg #[.slice ra l'.length rc, .int .i64 (e : Int)], m.val, .int .i64 M] p rfl (by have ec : ∀ x, a1.eval (.const x) = x := fun _ => rfl; have ef : ∀ x, a1.eval (.func x) = .func (.func x) #[] #[] := fun _ => rfl; generalize a1.eval = ρ at *; go_simp) ?_
                  refine (expected_any (fun b => w.heap.size ≤ b ∧ b < w5.heap.size) ra rc l' e m M p (QB.out.kept (Kept.of_below (fun _ => False) hI) (fun _ _ _ h => h)) (by omega) Hmk.out hM1 hM2).mono ?_
                  rintro y p2 ⟨ac, cc, m2, rfl, hB2, hk2, hp2, ho2, hb⟩
                  rw [HR2.out] at hB2 hp2
                  exact ⟨_, rfl, hI.trans (hb.mono hI.size), ExS.below hb, ac, cc, m2, by rw [HR2.out]; rfl, hB2, hk2, hp2, ho2.dom (fun b hb2 => ⟨Nat.le_trans hI.size hb2.1, hb2.2⟩)⟩
                · intro vals p hI hp
                  have h6 : ∃ ac cc, ∃ m2 : VM, (vals 6) = .tuple #[rdv ac l2'.length cc e2, m2.val] ∧ Bs (fun b => w.heap.size ≤ b ∧ b < w5.heap.size) p ac l2'.length cc l2' ∧ m2.k = m.k ∧ m2.pv = pv ∧ VOk (fun b => q.heap.size ≤ b ∧ IntRow p b) p m2 := hp 6 (by simp [Lrs20a])
                  have e84 : (Roll.putD Drs20a vals [6] b0).eval (.tmp 84) = vals 6 := (Roll.eval_new 6 rfl (by decide) (by decide) (by omega))
                  clear hp hlv hN
                  unfold Roll.Goes
                  simp only [Lrs20a, List.getD_cons_zero, List.getD_cons_succ]
                  generalize Roll.putD Drs20a vals [6] b0 = a1 at *
                  exact Roll.goes_val (w' := p) (vals 6) rfl (by unfold execOp; simp only [e84, Sem.run_pure]) ⟨hI, ExS.below (Below.refl _ _), h6⟩
                · intro vals p hI hp
                  have h7 : ∃ ac cc, ∃ m2 : VM, (vals 7) = .tuple #[rdv ac l2'.length cc e2, m2.val] ∧ Bs (fun b => w.heap.size ≤ b ∧ b < w5.heap.size) p ac l2'.length cc l2' ∧ m2.k = m.k ∧ m2.pv = pv ∧ VOk (fun b => q.heap.size ≤ b ∧ IntRow p b) p m2 := hp 7 (by simp [Lrs20a])
                  have e77 : (Roll.putD Drs20a vals [7] b0).eval (.tmp 77) = vals 7 := (Roll.eval_new 7 rfl (by decide) (by decide) (by omega))
                  clear hp hlv hN
                  unfold Roll.Goes
                  simp only [Lrs20a, List.getD_cons_zero, List.getD_cons_succ]
                  generalize Roll.putD Drs20a vals [7] b0 = a1 at *
                  obtain ⟨ac, cc, m2, e7, hB7, hk7, hp7, ho7⟩ := h7
                  rw [e7] at e77
                  refine Roll.goes_val (w' := p) (rdv ac l2'.length cc e2) rfl ?_ ⟨hI, ExS.below (Below.refl _ _), ac, cc, rfl, hB7⟩
                  clear hB7 hk7 hp7 ho7 e7 hI
                  generalize rdv ac l2'.length cc e2 = Z at *
                  generalize m2.val = Z2 at *
                  generalize a1.eval = ρ at *
                  go_simp
                · intro vals p hI hp
                  have h7 : ∃ ac cc, ∃ m2 : VM, (vals 7) = .tuple #[rdv ac l2'.length cc e2, m2.val] ∧ Bs (fun b => w.heap.size ≤ b ∧ b < w5.heap.size) p ac l2'.length cc l2' ∧ m2.k = m.k ∧ m2.pv = pv ∧ VOk (fun b => q.heap.size ≤ b ∧ IntRow p b) p m2 := hp 7 (by simp [Lrs20a])
                  have e77 : (Roll.putD Drs20a vals [7] b0).eval (.tmp 77) = vals 7 := (Roll.eval_new 7 rfl (by decide) (by decide) (by omega))
                  clear hp hlv hN
                  unfold Roll.Goes
                  simp only [Lrs20a, List.getD_cons_zero, List.getD_cons_succ]
                  generalize Roll.putD Drs20a vals [7] b0 = a1 at *
                  obtain ⟨ac, cc, m2, e7, hB7, hk7, hp7, ho7⟩ := h7
                  rw [e7] at e77
                  refine Roll.goes_val (w' := p) m2.val rfl ?_ ⟨hI, ExS.below (Below.refl _ _), m2, rfl, hk7, hp7, ho7⟩
                  clear hB7 hk7 hp7 ho7 e7 hI
                  generalize rdv ac l2'.length cc e2 = Z at *
                  generalize m2.val = Z2 at *
                  generalize a1.eval = ρ at *
                  go_simp
                · intro vals p hI hp
                  clear hp hlv hN
                  unfold Roll.Goes
                  simp only [Lrs20a, List.getD_cons_zero, List.getD_cons_succ]
                  generalize Roll.putD Drs20a vals [] b0 = a1 at *
                  have hb := (Below.refl p.heap.size p).alloc (Nat.le_refl _) (.cells #[.slice none 0 0, .int .i64 0] 48)
                  refine Roll.goes_val (w' := p.alloc (.cells #[.slice none 0 0, .int .i64 0] 48)) (.pointer (some ⟨p.heap.size, 0, none⟩)) rfl ?_ ⟨hI.trans (hb.mono hI.size), ExS.below hb, p.heap.size, rfl, hI.size, _, _, heap_new rfl⟩
                  clear hb hI
                  generalize a1.eval = ρ at *
                  go_simp
                · intro vals p hI hp
                  clear hp hlv hN
                  unfold Roll.Goes
                  simp only [Lrs20a, List.getD_cons_zero, List.getD_cons_succ]
                  generalize Roll.putD Drs20a vals [] b0 = a1 at *
                  have hb := (Below.refl p.heap.size p).alloc (Nat.le_refl _) (.cells #[.int .u8 0, .int .u64 0, .int .i64 0, .bool false, .string ⟨#[]⟩, .slice none 0 0] 34)
                  refine Roll.goes_val (w' := p.alloc (.cells #[.int .u8 0, .int .u64 0, .int .i64 0, .bool false, .string ⟨#[]⟩, .slice none 0 0] 34)) (.pointer (some ⟨p.heap.size, 0, none⟩)) rfl ?_ ⟨hI.trans (hb.mono hI.size), ExS.below hb, p.heap.size, rfl, hI.size, heap_new rfl⟩
                  clear hb hI
                  generalize a1.eval = ρ at *
                  go_simp
                · intro vals p hI hp
                  have h10 : ∃ g, (vals 10) = .pointer (some ⟨g, 0, none⟩) ∧ q.heap.size ≤ g ∧ T2 p g := hp 10 (by simp [Lrs20a])
                  have h8 : ∃ ac cc, (vals 8) = rdv ac l2'.length cc e2 ∧ Bs (fun b => w.heap.size ≤ b ∧ b < w5.heap.size) p ac l2'.length cc l2' := hp 8 (by simp [Lrs20a])
                  have e20 : (Roll.putD Drs20a vals [10, 8] b0).eval (.tmp 20) = vals 10 := (Roll.eval_new 10 rfl (by decide) (by decide) (by omega))
                  have e85 : (Roll.putD Drs20a vals [10, 8] b0).eval (.tmp 85) = vals 8 := (Roll.eval_new 8 rfl (by decide) (by decide) (by omega))
                  clear hp hlv hN
                  unfold Roll.Goes
                  simp only [Lrs20a, List.getD_cons_zero, List.getD_cons_succ]
                  generalize Roll.putD Drs20a vals [10, 8] b0 = a1 at *
                  obtain ⟨g0, e10, hg0, hT0⟩ := h10
                  obtain ⟨ac, cc, e8, hB8⟩ := h8
                  obtain ⟨hS, hN⟩ := ExS.store (B := q.heap.size) (e := e2) (fun b hb => by have := QS.out; omega) hg0 hT0 hB8
                  obtain ⟨x1, y1, hold⟩ := hT0
                  rw [e10] at e20
                  rw [e8] at e85
                  exact Roll.goes_store_row rfl 48 (.tmp 20) (.tmp 85) rfl g0 #[.slice ac l2'.length cc, .int .i64 (e2 : Int)] e20 e85 48 #[x1, y1] hold (rdsz2 _ _) rfl (rdone _ _ _ _ _) ⟨Below_row hI hg0 _, hS, g0, e10, hg0, hN⟩
              · intro vals p hI hR
                have h0 : (vals 0) = .agg #[.slice ra l'.length rc, .int .i64 (e : Int)] := hR 0 (by omega)
                have h1 : (vals 1) = .slice (some ⟨b, off, none⟩) ns.length uc := hR 1 (by omega)
                have h2 : (vals 2) = .int .i64 (i : Int) := hR 2 (by omega)
                have h3 : (vals 3) = .pointer (some ⟨b, off + i * 6, none⟩) := hR 3 (by omega)
                have h4 : (vals 4) = m.val := hR 4 (by omega)
                have h5 : (vals 5) = .int .i64 M := hR 5 (by omega)
                have h6 : ∃ ac cc, ∃ m2 : VM, (vals 6) = .tuple #[rdv ac l2'.length cc e2, m2.val] ∧ Bs (fun b => w.heap.size ≤ b ∧ b < w5.heap.size) p ac l2'.length cc l2' ∧ m2.k = m.k ∧ m2.pv = pv ∧ VOk (fun b => q.heap.size ≤ b ∧ IntRow p b) p m2 := hR 6 (by omega)
                have h7 : ∃ ac cc, ∃ m2 : VM, (vals 7) = .tuple #[rdv ac l2'.length cc e2, m2.val] ∧ Bs (fun b => w.heap.size ≤ b ∧ b < w5.heap.size) p ac l2'.length cc l2' ∧ m2.k = m.k ∧ m2.pv = pv ∧ VOk (fun b => q.heap.size ≤ b ∧ IntRow p b) p m2 := hR 7 (by omega)
                have h8 : ∃ ac cc, (vals 8) = rdv ac l2'.length cc e2 ∧ Bs (fun b => w.heap.size ≤ b ∧ b < w5.heap.size) p ac l2'.length cc l2' := hR 8 (by omega)
                have h9 : ∃ m2 : VM, (vals 9) = m2.val ∧ m2.k = m.k ∧ m2.pv = pv ∧ VOk (fun b => q.heap.size ≤ b ∧ IntRow p b) p m2 := hR 9 (by omega)
                have h10 : ∃ g, (vals 10) = .pointer (some ⟨g, 0, none⟩) ∧ q.heap.size ≤ g ∧ T2 p g := hR 10 (by omega)
                have h11 : ∃ g, (vals 11) = .pointer (some ⟨g, 0, none⟩) ∧ q.heap.size ≤ g ∧ p.heap[g]? = some (.cells #[.int .u8 0, .int .u64 0, .int .i64 0, .bool false, .string ⟨#[]⟩, .slice none 0 0] 34 (0, 0)) := hR 11 (by omega)
                have h12 : ∃ g, (vals 10) = .pointer (some ⟨g, 0, none⟩) ∧ q.heap.size ≤ g ∧ New2 (fun b => w.heap.size ≤ b ∧ b < w5.heap.size) l2' e2 p g := hR 12 (by omega)
                clear hR
                simp only [List.range_succ, List.range_zero, List.nil_append, List.cons_append, Roll.putD, Act.put, List.getD_cons_zero, List.getD_cons_succ, List.setIfInBounds_toArray, List.set_cons_zero, List.set_cons_succ, List.drop_succ_cons, List.drop_zero, Drs20a]
                simp only [h0, h1, h2, h3, h4, h5]
                clear h0 h1 h2 h3 h4 h5
                obtain ⟨g21, ev11, hg21, hr21⟩ := h11
                obtain ⟨g20, ev10, hg20, hn20⟩ := h12
                obtain ⟨m2, ev9, hk9, hp9, ho9⟩ := h9
                rw [ev11, ev10, ev9]
                simp only [VM.val]
                obtain ⟨ac, cc, hc20, hB20⟩ := hn20
                clear h6 h7 h8 h10 ev11 ev10 ev9
                have Hr21 := Lib.hid hr21
                have Hc20 := Lib.hid hc20
                have HB20 := Lib.hid hB20
                have Ho9 := Lib.hid ho9
                have Hp9 := Lib.hid hp9
                have Hk9 := Lib.hid hk9
                have HI := Lib.hid hI
                have ne21 : g20 ≠ g21 := by
                  intro h
                  rw [h, hr21] at hc20
                  simp at hc20
                have Hne := Lib.hid ne21
                clear hr21 hc20 hB20 ho9 hp9 hI ne21 hk9
                go_upto_region 22 with (first
                  | (refine wpList_load_row rfl 48 (.tmp 20) rfl g20 rfl 48 _ (0, 0) _ ((setRow_other _ _ _ _ Hne.out).trans Hc20.out) Try.underlying48 rfl (rdsz2 _ _) ?_)
                  | (refine wpList_store_row rfl 48 (.tmp 16) (.tmp 87) rfl gx _ rfl rfl 48 _ ((setRow_other _ _ _ _ (by have := QS.out; omega)).trans ((HI.out.block _ (heap_lt Q0.out)).trans Q0.out)) (rdsz2 _ _) rfl (rdone _ _ _ _ _) ?_)
                  | (refine wpList_store_row rfl 34 (.tmp 21) (.tmp 86) rfl g21 m2.cells.toArray rfl rfl 34 _ Hr21.out (size34 m2.cells (VM.cells_len _)) rfl (by simp [VM.cells, Value.oneCell']) ?_))
                obtain ⟨r, hr⟩ : ∃ r, r = (p.setRow g21 m2.cells.toArray).setRow gx #[.slice ac l2'.length cc, .int .i64 (e2 : Int)] := ⟨_, rfl⟩
                rw [← hr]
                have KA : Kept (fun j => j = g21 ∨ j = gx) p r := by rw [hr]; exact ((Kept.refl (fun j => j = g21 ∨ j = gx) p).setRow (fun _ => .inl rfl) _).setRow (fun _ => .inr rfl) _
                have hqs := QS.out
                have hgk := Hgg.out
                have hg19 := Hg19.out
                have hgx8 : gx < w8.heap.size := Nat.lt_of_lt_of_le (Nat.lt_of_lt_of_le Hz7.out HA.out.kept.size) H8.out.2.size
                have hq8 : q.heap.size = w8.heap.size + 1 := by rw [Hq.out, size_alloc1]
                have K8p : Below w8.heap.size w8 p := (show Below w8.heap.size w8 q by rw [Hq.out]; exact (Below.refl _ _).alloc (Nat.le_refl _) _).trans (HI.out.mono (by omega))
                have R19 : Hid (r.heap[g19]? = some (.cells m1.cells.toArray 34 (0, 0))) := Lib.hid (KA.heap ((HI.out.block _ (heap_lt Q19.out)).trans Q19.out) (by omega))
                have R21 : Hid (r.heap[g21]? = some (.cells m2.cells.toArray 34 (0, 0))) := Lib.hid (by rw [hr]; exact (setRow_other _ _ _ _ (by omega)).trans (setRow_heap _ _ _ _ _ _ Hr21.out))
                have RX : Hid (RdB r gx ac l2'.length cc e2) := Lib.hid (by rw [hr]; exact setRow_heap _ _ _ _ _ _ ((setRow_other _ _ _ _ (by omega)).trans ((HI.out.block _ (heap_lt Q0.out)).trans Q0.out)))
                have RB : Hid (Bs (fun b => w.heap.size ≤ b ∧ b < w5.heap.size) r ac l2'.length cc l2') := Lib.hid (HB20.out.kept KA (fun b _ hb h => by have := hb.2; omega))
                have RV1 : Hid (VOk (fun b => wr.heap.size ≤ b ∧ b < w8.heap.size) r m1) := Lib.hid (((Ho1.out.dom2 (D' := fun b => wr.heap.size ≤ b ∧ b < w8.heap.size) (fun b hb hd => ⟨hd, hb⟩)).kept (Kept.of_below (fun _ => False) K8p) (fun _ _ _ h => h)).kept KA (fun b _ hb h => by have := hb.1; have := hb.2; have := HA.out.kept.size; have := Hz7.out; omega))
                have RV2 : Hid (VOk (fun b => q.heap.size ≤ b ∧ IntRow p b) r m2) := Lib.hid (Ho9.out.kept KA (fun b _ hb h => by
                  rcases h with rfl | rfl
                  · obtain ⟨cur, hc⟩ := hb.2
                    have := Hr21.out
                    rw [hc] at this
                    simp at this
                  · have := hb.1; omega))
                have RG : Hid (Rd r g k3 l2 e2) := Lib.hid ((H8.out.1.kept (Kept.of_below (fun _ => False) K8p) (fun h => h) (fun _ _ h => h)).kept KA (by omega) (fun j hj h => by have := (Hkk.out j hj).2; omega))
                have KF : Hid (Kept (fun b => b = g ∨ b = gx) w7 r) := Lib.hid (((HA.out.kept.trans (QK.out) (fun j _ h => .inl h)).trans (Kept.of_below (fun b => b = g ∨ b = gx) HI.out) (fun _ _ h => h)).trans KA (fun j hj h => by
                  rcases h with rfl | rfl
                  · have h1 := HA.out.kept.size; have h2 := QK.out.size; omega
                  · exact .inr rfl))
                have HE1 := Lib.hid (endE_sim l2 l2' e2 Hs3.out)
                have Hps : Hid (psame m1.k m1.pv m2.pv = true) := Lib.hid (by rw [Hp1.out, Hp9.out]; exact psame_refl _ _)
                have Hge : Hid (gx < r.heap.size) := Lib.hid (heap_lt RX.out)
                have HlA := HA.out.len
                have hl2'b : l2'.length ≤ 9223372036854775807 := by have := Hln'.out; omega
                obtain ⟨E, hE⟩ : ∃ E, E = endE e2 l2.length := ⟨_, rfl⟩
                have HE := Lib.hid hE
                clear hr KA hqs hgk hg19 hgx8 hq8 K8p HlA hE Hr21 Hc20 HB20 Ho9 Hp9 HI Hne
                refine Roll.region_f 18 107 Drs22a Lrs22a [(15, .pointer (some ⟨g, 0, none⟩)), (16, .pointer (some ⟨gx, 0, none⟩)), (19, .pointer (some ⟨g19, 0, none⟩)), (21, .pointer (some ⟨g21, 0, none⟩))] (fun p => Below r.heap.size r p) (fun p p' => Below p.heap.size p p') [fun vv p => vv = .agg m1.cells.toArray, fun vv p => vv = .agg m2.cells.toArray, fun vv p => vv = .bool true, fun vv p => vv = .bool false, fun vv p => vv = .bool false, fun vv p => vv = .pointer (some ⟨g, 0, none⟩), fun vv p => vv = .int .i64 (e2 : Int), fun vv p => vv = .pointer (some ⟨gx, 1, none⟩), fun vv p => vv = .int .i64 (e2 : Int), fun vv p => vv = .bool false, fun vv p => vv = .bool false, fun vv p => vv = .bool false, fun vv p => vv = .pointer (some ⟨g, 0, none⟩), fun vv p => vv = .int .i64 (E : Int), fun vv p => vv = .agg #[.slice ac l2'.length cc, .int .i64 (e2 : Int)], fun vv p => vv = .int .i64 (E : Int), fun vv p => vv = .bool false, fun vv p => vv = .bool false] (by kernel_rfl) (by kernel_rfl) rfl ⟨rfl, rfl, rfl, rfl, trivial⟩ ((Below.refl _ _).drew) ?_ ?_ ?_
                · exact ⟨fun _ _ _ _ h => h, fun _ _ _ _ h => h, fun _ _ _ _ h => h, fun _ _ _ _ h => h, fun _ _ _ _ h => h, fun _ _ _ _ h => h, fun _ _ _ _ h => h, fun _ _ _ _ h => h, fun _ _ _ _ h => h, fun _ _ _ _ h => h, fun _ _ _ _ h => h, fun _ _ _ _ h => h, fun _ _ _ _ h => h, fun _ _ _ _ h => h, fun _ _ _ _ h => h, fun _ _ _ _ h => h, fun _ _ _ _ h => h, fun _ _ _ _ h => h, trivial⟩
                · intro b0 hN hlv
                  refine ⟨?_, ?_, ?_, ?_, ?_, ?_, ?_, ?_, ?_, ?_, ?_, ?_, ?_, ?_, ?_, ?_, ?_, ?_, trivial⟩
                  · intro vals p hI hp
                    have e19 : (Roll.putD Drs22a vals [] b0).eval (.tmp 19) = .pointer (some ⟨g19, 0, none⟩) := (Roll.eval_old rfl).trans (hlv.at 2 (19, .pointer (some ⟨g19, 0, none⟩)) rfl)
                    clear hp hlv hN
                    unfold Roll.Goes
                    simp only [Lrs22a, List.getD_cons_zero, List.getD_cons_succ]
                    generalize Roll.putD Drs22a vals [] b0 = a1 at *
                    exact Roll.goes_load_row rfl 34 (.tmp 19) rfl g19 e19 34 m1.cells.toArray (0, 0) _ ((hI.block _ (heap_lt R19.out)).trans R19.out) Try.underlying34 rfl (size34 m1.cells (VM.cells_len _)) ⟨hI, Below.refl _ _, rfl⟩
                  · intro vals p hI hp
                    have e21 : (Roll.putD Drs22a vals [] b0).eval (.tmp 21) = .pointer (some ⟨g21, 0, none⟩) := (Roll.eval_old rfl).trans (hlv.at 3 (21, .pointer (some ⟨g21, 0, none⟩)) rfl)
                    clear hp hlv hN
                    unfold Roll.Goes
                    simp only [Lrs22a, List.getD_cons_zero, List.getD_cons_succ]
                    generalize Roll.putD Drs22a vals [] b0 = a1 at *
                    exact Roll.goes_load_row rfl 34 (.tmp 21) rfl g21 e21 34 m2.cells.toArray (0, 0) _ ((hI.block _ (heap_lt R21.out)).trans R21.out) Try.underlying34 rfl (size34 m2.cells (VM.cells_len _)) ⟨hI, Below.refl _ _, rfl⟩
                  · intro vals p hI hp
                    have h0 : (vals 0) = .agg m1.cells.toArray := hp 0 (by simp [Lrs22a])
                    have h1 : (vals 1) = .agg m2.cells.toArray := hp 1 (by simp [Lrs22a])
                    have e88 : (Roll.putD Drs22a vals [0, 1] b0).eval (.tmp 88) = .agg m1.cells.toArray := (Roll.eval_new 0 rfl (by decide) (by decide) (by omega)).trans h0
                    have e89 : (Roll.putD Drs22a vals [0, 1] b0).eval (.tmp 89) = .agg m2.cells.toArray := (Roll.eval_new 1 rfl (by decide) (by decide) (by omega)).trans h1
                    clear hp hlv hN
                    unfold Roll.Goes
                    simp only [Lrs22a, List.getD_cons_zero, List.getD_cons_succ]
                    generalize Roll.putD Drs22a vals [0, 1] b0 = a1 at *
                    refine Roll.goes_call 23 #[.agg m1.cells.toArray, .agg m2.cells.toArray] p rfl (by have ec : ∀ x, a1.eval (.const x) = x := fun _ => rfl; have ef : ∀ x, a1.eval (.func x) = .func (.func x) #[] #[] := fun _ => rfl; generalize a1.eval = ρ at *; go_simp) ?_
                    refine (same_any _ _ m1 m2 p (RV1.out.kept (Kept.of_below (fun _ => False) hI) (fun _ _ _ h => h)) (RV2.out.kept (Kept.of_below (fun _ => False) hI) (fun _ _ _ h => h))).mono ?_
                    rw [Hps.out]
                    rintro y p2 ⟨rfl, hb⟩
                    exact ⟨_, rfl, hI.trans (hb.mono hI.size), hb, rfl⟩
                  · intro vals p hI hp
                    have h2 : (vals 2) = .bool true := hp 2 (by simp [Lrs22a])
                    have e90 : (Roll.putD Drs22a vals [2] b0).eval (.tmp 90) = .bool true := (Roll.eval_new 2 rfl (by decide) (by decide) (by omega)).trans h2
                    clear hp hlv hN
                    unfold Roll.Goes
                    simp only [Lrs22a, List.getD_cons_zero, List.getD_cons_succ]
                    generalize Roll.putD Drs22a vals [2] b0 = a1 at *
                    refine Roll.goes_val (w' := p) (.bool false) rfl ?_ ⟨hI, Below.refl _ _, rfl⟩
                    (have ec : ∀ x, a1.eval (.const x) = x := fun _ => rfl); (have ef : ∀ x, a1.eval (.func x) = .func (.func x) #[] #[] := fun _ => rfl); generalize a1.eval = ρ at *
                    clear h2
                    go_simp <;> (intros; first | (exfalso; omega) | rfl)
                  · intro vals p hI hp
                    have h3 : (vals 3) = .bool false := hp 3 (by simp [Lrs22a])
                    have e91 : (Roll.putD Drs22a vals [3] b0).eval (.tmp 91) = .bool false := (Roll.eval_new 3 rfl (by decide) (by decide) (by omega)).trans h3
                    clear hp hlv hN
                    unfold Roll.Goes
                    simp only [Lrs22a, List.getD_cons_zero, List.getD_cons_succ]
                    generalize Roll.putD Drs22a vals [3] b0 = a1 at *
                    refine Roll.goes_val (w' := p) (.bool false) rfl ?_ ⟨hI, Below.refl _ _, rfl⟩
                    (have ec : ∀ x, a1.eval (.const x) = x := fun _ => rfl); (have ef : ∀ x, a1.eval (.func x) = .func (.func x) #[] #[] := fun _ => rfl); generalize a1.eval = ρ at *
                    clear h3
                    go_simp <;> (intros; first | (exfalso; omega) | rfl)
                  · intro vals p hI hp
                    have h4 : (vals 4) = .bool false := hp 4 (by simp [Lrs22a])
                    have e15 : (Roll.putD Drs22a vals [4] b0).eval (.tmp 15) = .pointer (some ⟨g, 0, none⟩) := (Roll.eval_old rfl).trans (hlv.at 0 (15, .pointer (some ⟨g, 0, none⟩)) rfl)
                    clear hp hlv hN
                    refine ⟨fun hg => ?_, fun hg => absurd h4 hg⟩
                    clear hg
                    unfold Roll.Goes
                    simp only [Lrs22a, List.getD_cons_zero, List.getD_cons_succ]
                    generalize Roll.putD Drs22a vals [4] b0 = a1 at *
                    refine Roll.goes_val (w' := p) (.pointer (some ⟨g, 0, none⟩)) rfl ?_ ⟨hI, Below.refl _ _, rfl⟩
                    (have ec : ∀ x, a1.eval (.const x) = x := fun _ => rfl); (have ef : ∀ x, a1.eval (.func x) = .func (.func x) #[] #[] := fun _ => rfl); generalize a1.eval = ρ at *
                    clear h4
                    go_simp <;> (intros; first | (exfalso; omega) | rfl)
                  · intro vals p hI hp
                    have h5 : (vals 5) = .pointer (some ⟨g, 0, none⟩) := hp 5 (by simp [Lrs22a])
                    have h4 : (vals 4) = .bool false := hp 4 (by simp [Lrs22a])
                    have e93 : (Roll.putD Drs22a vals [5, 4] b0).eval (.tmp 93) = .pointer (some ⟨g, 0, none⟩) := (Roll.eval_new 5 rfl (by decide) (by decide) (by omega)).trans h5
                    clear hp hlv hN
                    refine ⟨fun hg => ?_, fun hg => absurd h4 hg⟩
                    clear hg
                    unfold Roll.Goes
                    simp only [Lrs22a, List.getD_cons_zero, List.getD_cons_succ]
                    generalize Roll.putD Drs22a vals [5, 4] b0 = a1 at *
                    refine Roll.goes_call 24 #[.pointer (some ⟨g, 0, none⟩)] p rfl (by have ec : ∀ x, a1.eval (.const x) = x := fun _ => rfl; have ef : ∀ x, a1.eval (.func x) = .func (.func x) #[] #[] := fun _ => rfl; generalize a1.eval = ρ at *; go_simp) ?_
                    refine (err_any g k3 l2 e2 p (RG.out.kept (Kept.of_below (fun _ => False) hI) (fun h => h) (fun _ _ h => h))).mono ?_
                    rintro y p2 ⟨rfl, rfl⟩
                    exact ⟨_, rfl, hI, Below.refl _ _, rfl⟩
                  · intro vals p hI hp
                    have h4 : (vals 4) = .bool false := hp 4 (by simp [Lrs22a])
                    have e16 : (Roll.putD Drs22a vals [4] b0).eval (.tmp 16) = .pointer (some ⟨gx, 0, none⟩) := (Roll.eval_old rfl).trans (hlv.at 1 (16, .pointer (some ⟨gx, 0, none⟩)) rfl)
                    clear hp hlv hN
                    refine ⟨fun hg => ?_, fun hg => absurd h4 hg⟩
                    clear hg
                    unfold Roll.Goes
                    simp only [Lrs22a, List.getD_cons_zero, List.getD_cons_succ]
                    generalize Roll.putD Drs22a vals [4] b0 = a1 at *
                    refine Roll.goes_val (w' := p) (.pointer (some ⟨gx, 1, none⟩)) rfl ?_ ⟨hI, Below.refl _ _, rfl⟩
                    (have ec : ∀ x, a1.eval (.const x) = x := fun _ => rfl); (have ef : ∀ x, a1.eval (.func x) = .func (.func x) #[] #[] := fun _ => rfl); generalize a1.eval = ρ at *
                    clear h4
                    go_simp <;> (intros; first | (exfalso; omega) | rfl)
                  · intro vals p hI hp
                    have h7 : (vals 7) = .pointer (some ⟨gx, 1, none⟩) := hp 7 (by simp [Lrs22a])
                    have h4 : (vals 4) = .bool false := hp 4 (by simp [Lrs22a])
                    have e95 : (Roll.putD Drs22a vals [7, 4] b0).eval (.tmp 95) = .pointer (some ⟨gx, 1, none⟩) := (Roll.eval_new 7 rfl (by decide) (by decide) (by omega)).trans h7
                    clear hp hlv hN
                    refine ⟨fun hg => ?_, fun hg => absurd h4 hg⟩
                    clear hg
                    unfold Roll.Goes
                    simp only [Lrs22a, List.getD_cons_zero, List.getD_cons_succ]
                    generalize Roll.putD Drs22a vals [7, 4] b0 = a1 at *
                    have c1 := (hI.cell (p := ⟨gx, 1, none⟩) Hge.out).trans RX.out.facts.2.1
                    refine Roll.goes_val (w' := p) (.int .i64 (e2 : Int)) rfl ?_ ⟨hI, Below.refl _ _, rfl⟩
                    (have ec : ∀ x, a1.eval (.const x) = x := fun _ => rfl); (have ef : ∀ x, a1.eval (.func x) = .func (.func x) #[] #[] := fun _ => rfl); generalize a1.eval = ρ at *
                    clear h7 h4
                    go_simp <;> (intros; first | (exfalso; omega) | rfl)
                  · intro vals p hI hp
                    have h6 : (vals 6) = .int .i64 (e2 : Int) := hp 6 (by simp [Lrs22a])
                    have h8 : (vals 8) = .int .i64 (e2 : Int) := hp 8 (by simp [Lrs22a])
                    have h4 : (vals 4) = .bool false := hp 4 (by simp [Lrs22a])
                    have e94 : (Roll.putD Drs22a vals [6, 8, 4] b0).eval (.tmp 94) = .int .i64 (e2 : Int) := (Roll.eval_new 6 rfl (by decide) (by decide) (by omega)).trans h6
                    have e96 : (Roll.putD Drs22a vals [6, 8, 4] b0).eval (.tmp 96) = .int .i64 (e2 : Int) := (Roll.eval_new 8 rfl (by decide) (by decide) (by omega)).trans h8
                    clear hp hlv hN
                    refine ⟨fun hg => ?_, fun hg => absurd h4 hg⟩
                    clear hg
                    unfold Roll.Goes
                    simp only [Lrs22a, List.getD_cons_zero, List.getD_cons_succ]
                    generalize Roll.putD Drs22a vals [6, 8, 4] b0 = a1 at *
                    refine Roll.goes_val (w' := p) (.bool false) rfl ?_ ⟨hI, Below.refl _ _, rfl⟩
                    (have ec : ∀ x, a1.eval (.const x) = x := fun _ => rfl); (have ef : ∀ x, a1.eval (.func x) = .func (.func x) #[] #[] := fun _ => rfl); generalize a1.eval = ρ at *
                    clear h6 h8 h4
                    go_simp <;> (intros; first | (exfalso; omega) | rfl)
                  · intro vals p hI hp
                    have h4 : (vals 4) = .bool false := hp 4 (by simp [Lrs22a])
                    have h9 : (vals 9) = .bool false := hp 9 (by simp [Lrs22a])
                    have e92 : (Roll.putD Drs22a vals [4, 9] b0).eval (.tmp 92) = .bool false := (Roll.eval_new 4 rfl (by decide) (by decide) (by omega)).trans h4
                    have e97 : (Roll.putD Drs22a vals [4, 9] b0).eval (.tmp 97) = .bool false := (Roll.eval_new 9 rfl (by decide) (by decide) (by omega)).trans h9
                    clear hp hlv hN
                    unfold Roll.Goes
                    simp only [Lrs22a, List.getD_cons_zero, List.getD_cons_succ]
                    generalize Roll.putD Drs22a vals [4, 9] b0 = a1 at *
                    refine Roll.goes_val (w' := p) (.bool false) rfl ?_ ⟨hI, Below.refl _ _, rfl⟩
                    (have ec : ∀ x, a1.eval (.const x) = x := fun _ => rfl); (have ef : ∀ x, a1.eval (.func x) = .func (.func x) #[] #[] := fun _ => rfl); generalize a1.eval = ρ at *
                    clear h4 h9
                    go_simp <;> (intros; first | (exfalso; omega) | rfl)
                  · intro vals p hI hp
                    have h10 : (vals 10) = .bool false := hp 10 (by simp [Lrs22a])
                    have e98 : (Roll.putD Drs22a vals [10] b0).eval (.tmp 98) = .bool false := (Roll.eval_new 10 rfl (by decide) (by decide) (by omega)).trans h10
                    clear hp hlv hN
                    unfold Roll.Goes
                    simp only [Lrs22a, List.getD_cons_zero, List.getD_cons_succ]
                    generalize Roll.putD Drs22a vals [10] b0 = a1 at *
                    refine Roll.goes_val (w' := p) (.bool false) rfl ?_ ⟨hI, Below.refl _ _, rfl⟩
                    (have ec : ∀ x, a1.eval (.const x) = x := fun _ => rfl); (have ef : ∀ x, a1.eval (.func x) = .func (.func x) #[] #[] := fun _ => rfl); generalize a1.eval = ρ at *
                    clear h10
                    go_simp <;> (intros; first | (exfalso; omega) | rfl)
                  · intro vals p hI hp
                    have h11 : (vals 11) = .bool false := hp 11 (by simp [Lrs22a])
                    have e15 : (Roll.putD Drs22a vals [11] b0).eval (.tmp 15) = .pointer (some ⟨g, 0, none⟩) := (Roll.eval_old rfl).trans (hlv.at 0 (15, .pointer (some ⟨g, 0, none⟩)) rfl)
                    clear hp hlv hN
                    refine ⟨fun hg => ?_, fun hg => absurd h11 hg⟩
                    clear hg
                    unfold Roll.Goes
                    simp only [Lrs22a, List.getD_cons_zero, List.getD_cons_succ]
                    generalize Roll.putD Drs22a vals [11] b0 = a1 at *
                    refine Roll.goes_val (w' := p) (.pointer (some ⟨g, 0, none⟩)) rfl ?_ ⟨hI, Below.refl _ _, rfl⟩
                    (have ec : ∀ x, a1.eval (.const x) = x := fun _ => rfl); (have ef : ∀ x, a1.eval (.func x) = .func (.func x) #[] #[] := fun _ => rfl); generalize a1.eval = ρ at *
                    clear h11
                    go_simp <;> (intros; first | (exfalso; omega) | rfl)
                  · intro vals p hI hp
                    have h12 : (vals 12) = .pointer (some ⟨g, 0, none⟩) := hp 12 (by simp [Lrs22a])
                    have h11 : (vals 11) = .bool false := hp 11 (by simp [Lrs22a])
                    have e100 : (Roll.putD Drs22a vals [12, 11] b0).eval (.tmp 100) = .pointer (some ⟨g, 0, none⟩) := (Roll.eval_new 12 rfl (by decide) (by decide) (by omega)).trans h12
                    clear hp hlv hN
                    refine ⟨fun hg => ?_, fun hg => absurd h11 hg⟩
                    clear hg
                    unfold Roll.Goes
                    simp only [Lrs22a, List.getD_cons_zero, List.getD_cons_succ]
                    generalize Roll.putD Drs22a vals [12, 11] b0 = a1 at *
                    refine Roll.goes_call 25 #[.pointer (some ⟨g, 0, none⟩)] p rfl (by have ec : ∀ x, a1.eval (.const x) = x := fun _ => rfl; have ef : ∀ x, a1.eval (.func x) = .func (.func x) #[] #[] := fun _ => rfl; generalize a1.eval = ρ at *; go_simp) ?_
                    refine (end_any g k3 l2 e2 p (RG.out.kept (Kept.of_below (fun _ => False) hI) (fun h => h) (fun _ _ h => h))).mono ?_
                    rw [← HE.out]
                    rintro y p2 ⟨rfl, rfl⟩
                    exact ⟨_, rfl, hI, Below.refl _ _, rfl⟩
                  · intro vals p hI hp
                    have h11 : (vals 11) = .bool false := hp 11 (by simp [Lrs22a])
                    have e16 : (Roll.putD Drs22a vals [11] b0).eval (.tmp 16) = .pointer (some ⟨gx, 0, none⟩) := (Roll.eval_old rfl).trans (hlv.at 1 (16, .pointer (some ⟨gx, 0, none⟩)) rfl)
                    clear hp hlv hN
                    refine ⟨fun hg => ?_, fun hg => absurd h11 hg⟩
                    clear hg
                    unfold Roll.Goes
                    simp only [Lrs22a, List.getD_cons_zero, List.getD_cons_succ]
                    generalize Roll.putD Drs22a vals [11] b0 = a1 at *
                    exact Roll.goes_load_row rfl 48 (.tmp 16) rfl gx e16 48 #[.slice ac l2'.length cc, .int .i64 (e2 : Int)] (0, 0) _ ((hI.block _ Hge.out).trans RX.out) Try.underlying48 rfl (rdsz2 _ _) ⟨hI, Below.refl _ _, rfl⟩
                  · intro vals p hI hp
                    have h14 : (vals 14) = .agg #[.slice ac l2'.length cc, .int .i64 (e2 : Int)] := hp 14 (by simp [Lrs22a])
                    have h11 : (vals 11) = .bool false := hp 11 (by simp [Lrs22a])
                    have e102 : (Roll.putD Drs22a vals [14, 11] b0).eval (.tmp 102) = .agg #[.slice ac l2'.length cc, .int .i64 (e2 : Int)] := (Roll.eval_new 14 rfl (by decide) (by decide) (by omega)).trans h14
                    clear hp hlv hN
                    refine ⟨fun hg => ?_, fun hg => absurd h11 hg⟩
                    clear hg
                    unfold Roll.Goes
                    simp only [Lrs22a, List.getD_cons_zero, List.getD_cons_succ]
                    generalize Roll.putD Drs22a vals [14, 11] b0 = a1 at *
                    refine Roll.goes_call 26 #[.agg #[.slice ac l2'.length cc, .int .i64 (e2 : Int)]] p rfl (by have ec : ∀ x, a1.eval (.const x) = x := fun _ => rfl; have ef : ∀ x, a1.eval (.func x) = .func (.func x) #[] #[] := fun _ => rfl; generalize a1.eval = ρ at *; go_simp) ?_
                    refine (refEnd_any ac l2'.length cc e2 p hl2'b).mono ?_
                    rw [← HE1.out, ← HE.out]
                    rintro y p2 ⟨rfl, hb⟩
                    exact ⟨_, rfl, hI.trans (hb.mono hI.size), hb, rfl⟩
                  · intro vals p hI hp
                    have h13 : (vals 13) = .int .i64 (E : Int) := hp 13 (by simp [Lrs22a])
                    have h15 : (vals 15) = .int .i64 (E : Int) := hp 15 (by simp [Lrs22a])
                    have h11 : (vals 11) = .bool false := hp 11 (by simp [Lrs22a])
                    have e101 : (Roll.putD Drs22a vals [13, 15, 11] b0).eval (.tmp 101) = .int .i64 (E : Int) := (Roll.eval_new 13 rfl (by decide) (by decide) (by omega)).trans h13
                    have e103 : (Roll.putD Drs22a vals [13, 15, 11] b0).eval (.tmp 103) = .int .i64 (E : Int) := (Roll.eval_new 15 rfl (by decide) (by decide) (by omega)).trans h15
                    clear hp hlv hN
                    refine ⟨fun hg => ?_, fun hg => absurd h11 hg⟩
                    clear hg
                    unfold Roll.Goes
                    simp only [Lrs22a, List.getD_cons_zero, List.getD_cons_succ]
                    generalize Roll.putD Drs22a vals [13, 15, 11] b0 = a1 at *
                    refine Roll.goes_val (w' := p) (.bool false) rfl ?_ ⟨hI, Below.refl _ _, rfl⟩
                    (have ec : ∀ x, a1.eval (.const x) = x := fun _ => rfl); (have ef : ∀ x, a1.eval (.func x) = .func (.func x) #[] #[] := fun _ => rfl); generalize a1.eval = ρ at *
                    clear h13 h15 h11
                    go_simp <;> (intros; first | (exfalso; omega) | rfl)
                  · intro vals p hI hp
                    have h11 : (vals 11) = .bool false := hp 11 (by simp [Lrs22a])
                    have h16 : (vals 16) = .bool false := hp 16 (by simp [Lrs22a])
                    have e99 : (Roll.putD Drs22a vals [11, 16] b0).eval (.tmp 99) = .bool false := (Roll.eval_new 11 rfl (by decide) (by decide) (by omega)).trans h11
                    have e104 : (Roll.putD Drs22a vals [11, 16] b0).eval (.tmp 104) = .bool false := (Roll.eval_new 16 rfl (by decide) (by decide) (by omega)).trans h16
                    clear hp hlv hN
                    unfold Roll.Goes
                    simp only [Lrs22a, List.getD_cons_zero, List.getD_cons_succ]
                    generalize Roll.putD Drs22a vals [11, 16] b0 = a1 at *
                    refine Roll.goes_val (w' := p) (.bool false) rfl ?_ ⟨hI, Below.refl _ _, rfl⟩
                    (have ec : ∀ x, a1.eval (.const x) = x := fun _ => rfl); (have ef : ∀ x, a1.eval (.func x) = .func (.func x) #[] #[] := fun _ => rfl); generalize a1.eval = ρ at *
                    clear h11 h16
                    go_simp <;> (intros; first | (exfalso; omega) | rfl)
                · intro vals p hI hR
                  have h0 : (vals 0) = .agg m1.cells.toArray := hR 0 (by omega)
                  have h1 : (vals 1) = .agg m2.cells.toArray := hR 1 (by omega)
                  have h2 : (vals 2) = .bool true := hR 2 (by omega)
                  have h3 : (vals 3) = .bool false := hR 3 (by omega)
                  have h4 : (vals 4) = .bool false := hR 4 (by omega)
                  have h5 : (vals 5) = .pointer (some ⟨g, 0, none⟩) := hR 5 (by omega)
                  have h6 : (vals 6) = .int .i64 (e2 : Int) := hR 6 (by omega)
                  have h7 : (vals 7) = .pointer (some ⟨gx, 1, none⟩) := hR 7 (by omega)
                  have h8 : (vals 8) = .int .i64 (e2 : Int) := hR 8 (by omega)
                  have h9 : (vals 9) = .bool false := hR 9 (by omega)
                  have h10 : (vals 10) = .bool false := hR 10 (by omega)
                  have h11 : (vals 11) = .bool false := hR 11 (by omega)
                  have h12 : (vals 12) = .pointer (some ⟨g, 0, none⟩) := hR 12 (by omega)
                  have h13 : (vals 13) = .int .i64 (E : Int) := hR 13 (by omega)
                  have h14 : (vals 14) = .agg #[.slice ac l2'.length cc, .int .i64 (e2 : Int)] := hR 14 (by omega)
                  have h15 : (vals 15) = .int .i64 (E : Int) := hR 15 (by omega)
                  have h16 : (vals 16) = .bool false := hR 16 (by omega)
                  have h17 : (vals 17) = .bool false := hR 17 (by omega)
                  clear hR
                  simp only [List.range_succ, List.range_zero, List.nil_append, List.cons_append, Roll.putD, Act.put, List.getD_cons_zero, List.getD_cons_succ, List.setIfInBounds_toArray, List.set_cons_zero, List.set_cons_succ, List.drop_succ_cons, List.drop_zero, Drs22a]
                  simp only [h0, h1, h2, h3, h4, h5, h6, h7, h8, h9, h10, h11, h12, h13, h14, h15, h16, h17]
                  clear h0 h1 h2 h3 h4 h5 h6 h7 h8 h9 h10 h11 h12 h13 h14 h15 h16 h17
                  have HI2 := Lib.hid hI
                  clear hI
                  go_wp2_with fail
                  go_roundw
                  case rel =>
                    have h1 := Hln.out
                    have h2 := Hln'.out
                    have h3 := HA.out.len
                    have kI := Kept.of_below (fun _ => False) HI2.out
                    exact ⟨i + 1, l2, l2', e2, by omega, by go_num, RG.out.kept kI (fun h => h) (fun _ _ h => h), ⟨ac, cc, kI.heap RX.out (fun h => h), RB.out.kept kI (fun _ _ _ h => h)⟩, Hs3.out, ⟨by omega, by omega⟩, KF.out.trans kI (fun _ _ h => h.elim)⟩
                  case measure => simp [intOf]; omega
            · obtain ⟨M, hM⟩ : ∃ M : Int, M = 20 := ⟨_, rfl⟩
              have hM1 : -9223372036854775808 ≤ M := by omega
              have hM2 : M ≤ 9223372036854775807 := by omega
              clear hbw
              go_upto_region 19 with fail
              rw [← hM]
              clear hM
              obtain ⟨ra, rc, hrb, hbb⟩ := HA.out.rb
              have hCr := read_any g k3 l e m M wr HA.out.rd (fun j hj => by have := (Hkk.out j hj).2; have := Hz7.out; have := HA.out.kept.size; omega) Hmk.out (by have := HA.out.len; omega) hM1 hM2
              have hsim := ref_sim m.k l l' e HA.out.sim M
              have hln := rVal_len m.k ⟨l, e⟩ M
              have hln' := refVal_len m.k ⟨l', e⟩ M
              obtain ⟨RW, hRW⟩ : ∃ RW, RW = refVal m.k ⟨l', e⟩ M := ⟨_, rfl⟩
              rw [← hRW] at hsim hln'
              generalize rVal m.k ⟨l, e⟩ M = RV at *
              obtain ⟨pv, l2, e2⟩ := RV
              simp only at hsim
              obtain ⟨l2', hRW2⟩ : ∃ l2', RW = (pv, (⟨l2', e2⟩ : RS)) := ⟨RW.2.l, by rw [← hsim.1, ← hsim.2.1]⟩
              have hs3 := hsim.2.2
              rw [hRW2] at hs3 hln' hRW
              simp only at hCr hs3 hln hln'
              clear hsim hRW2
              have HR2 : Hid (refVal m.k ⟨l', e⟩ M = (pv, ⟨l2', e2⟩)) := Lib.hid hRW.symm
              have HCr := Lib.hid hCr
              have Hs3 := Lib.hid hs3
              have Hln := Lib.hid hln
              have Hln' := Lib.hid hln'
              have Hlb := HA.out.len
              have hl'b : l'.length ≤ 100000000000 := by omega
              have Hrb := Lib.hid hrb
              have Hbb := Lib.hid hbb
              clear hCr hs3 hln hln' hRW hrb hbb Hlb
              go_upto_region 20 with (first
                | (go_at_call 21; refine HCr.out.mono ?_; rintro y w8 ⟨m1, rfl, hk1, hp1, ho1, h8⟩; have H8 := Lib.hid h8; have Hk1 := Lib.hid hk1; have Hp1 := Lib.hid hp1; have Ho1 := Lib.hid ho1; clear h8 hk1 hp1 ho1; simp only [VM.val])
                | (refine wpList_load_mid rfl 34 (.tmp 73) rfl b (off + i * 6) rfl _ _ Hr2.out Try.underlying34 rfl (by rw [VM.cells_len]; kernel_rfl) ?_; rw [VM.cells_arr]))
              obtain ⟨q, hq⟩ : ∃ q, q = w8.alloc (.cells #[.int .u8 (m1.k : Int), .int .u64 (m1.u : Int), .int .i64 m1.n, .bool m1.b, .string m1.s, .slice m1.a m1.ln m1.c] 34) := ⟨_, rfl⟩
              rw [← hq]
              obtain ⟨g19, hg19⟩ : ∃ g19, g19 = w8.heap.size := ⟨_, rfl⟩
              rw [← hg19]
              have hK8q : Kept (fun b => b = g) wr q := by rw [hq]; exact H8.out.2.alloc _
              have hq19 : q.heap[g19]? = some (.cells #[.int .u8 (m1.k : Int), .int .u64 (m1.u : Int), .int .i64 m1.n, .bool m1.b, .string m1.s, .slice m1.a m1.ln m1.c] 34 (0, 0)) := by rw [hq]; exact heap_new hg19
              have hgx : gx < wr.heap.size := Nat.lt_of_lt_of_le Hz7.out HA.out.kept.size
              have Q0 : Hid (RdB q gx ra l'.length rc e) := Lib.hid (hK8q.heap Hrb.out (by have := Hgg.out; omega))
              have QB : Hid (Bs (fun b => w.heap.size ≤ b ∧ b < w5.heap.size) q ra l'.length rc l') := Lib.hid (Hbb.out.kept hK8q (fun b _ hb h => by have := Hgg.out; have := hb.2; omega))
              have Qm : Hid (q.rangeAt b (off + i * 6) m.cells) := Lib.hid (range_kept Hr2.out Hbw.out hK8q (by have := Hgg.out; have := hDb5; omega))
              have Qb : Hid (b < q.heap.size) := Lib.hid (Nat.lt_of_lt_of_le Hbw.out hK8q.size)
              have QS : Hid (w5.heap.size ≤ q.heap.size ∧ gx < q.heap.size) := Lib.hid ⟨Nat.le_trans hsz hK8q.size, Nat.lt_of_lt_of_le hgx hK8q.size⟩
              have Q19 := Lib.hid hq19
              have QK := Lib.hid hK8q
              have Hg19 := Lib.hid hg19
              have Hq := Lib.hid hq
              have hi2 : (i : Int) < (ns.length : Int) := by omega
              clear hK8q hq19 hgx hg19 hq
              refine Roll.region_g 13 107 Drs20b Lrs20b [(11, .slice (some ⟨b, off, none⟩) ns.length uc), (16, .pointer (some ⟨gx, 0, none⟩)), (17, .int .i64 (i : Int)), (18, .int .i64 M)] (fun p => Below q.heap.size q p) (fun p p' => ExS q.heap.size (fun b => w.heap.size ≤ b ∧ b < w5.heap.size) l2' e2 p p') [fun vv p => (vv 0) = .agg #[.slice ra l'.length rc, .int .i64 (e : Int)], fun vv p => (vv 1) = .slice (some ⟨b, off, none⟩) ns.length uc, fun vv p => (vv 2) = .int .i64 (i : Int), fun vv p => (vv 3) = .pointer (some ⟨b, off + i * 6, none⟩), fun vv p => (vv 4) = m.val, fun vv p => (vv 5) = .int .i64 M, fun vv p => ∃ ac cc, ∃ m2 : VM, (vv 6) = .tuple #[rdv ac l2'.length cc e2, m2.val] ∧ Bs (fun b => w.heap.size ≤ b ∧ b < w5.heap.size) p ac l2'.length cc l2' ∧ m2.k = m.k ∧ m2.pv = pv ∧ VOk (fun b => q.heap.size ≤ b ∧ IntRow p b) p m2, fun vv p => ∃ ac cc, ∃ m2 : VM, (vv 7) = .tuple #[rdv ac l2'.length cc e2, m2.val] ∧ Bs (fun b => w.heap.size ≤ b ∧ b < w5.heap.size) p ac l2'.length cc l2' ∧ m2.k = m.k ∧ m2.pv = pv ∧ VOk (fun b => q.heap.size ≤ b ∧ IntRow p b) p m2, fun vv p => ∃ ac cc, (vv 8) = rdv ac l2'.length cc e2 ∧ Bs (fun b => w.heap.size ≤ b ∧ b < w5.heap.size) p ac l2'.length cc l2', fun vv p => ∃ m2 : VM, (vv 9) = m2.val ∧ m2.k = m.k ∧ m2.pv = pv ∧ VOk (fun b => q.heap.size ≤ b ∧ IntRow p b) p m2, fun vv p => ∃ g, (vv 10) = .pointer (some ⟨g, 0, none⟩) ∧ q.heap.size ≤ g ∧ T2 p g, fun vv p => ∃ g, (vv 11) = .pointer (some ⟨g, 0, none⟩) ∧ q.heap.size ≤ g ∧ p.heap[g]? = some (.cells #[.int .u8 0, .int .u64 0, .int .i64 0, .bool false, .string ⟨#[]⟩, .slice none 0 0] 34 (0, 0)), fun vv p => ∃ g, (vv 10) = .pointer (some ⟨g, 0, none⟩) ∧ q.heap.size ≤ g ∧ New2 (fun b => w.heap.size ≤ b ∧ b < w5.heap.size) l2' e2 p g] (by kernel_rfl) (by kernel_rfl) rfl ⟨rfl, rfl, rfl, rfl, trivial⟩ ((Below.refl _ _).drew) ?_ ?_ ?_
              · exact ⟨fun _ _ _ _ h => h, fun _ _ _ _ h => h, fun _ _ _ _ h => h, fun _ _ _ _ h => h, fun _ _ _ _ h => h, fun _ _ _ _ h => h, fun v p p' hs h => (match h with | ⟨ac, cc, m2, e, hB, hk, hp, ho⟩ => ⟨ac, cc, m2, e, hs.bs (fun b hb => by have := QS.out; have := hb.2; omega) hB, hk, hp, hs.vok ho⟩), fun v p p' hs h => (match h with | ⟨ac, cc, m2, e, hB, hk, hp, ho⟩ => ⟨ac, cc, m2, e, hs.bs (fun b hb => by have := QS.out; have := hb.2; omega) hB, hk, hp, hs.vok ho⟩), fun v p p' hs h => (match h with | ⟨ac, cc, e, hB⟩ => ⟨ac, cc, e, hs.bs (fun b hb => by have := QS.out; have := hb.2; omega) hB⟩), fun v p p' hs h => (match h with | ⟨m2, e, hk, hp, ho⟩ => ⟨m2, e, hk, hp, hs.vok ho⟩), fun v p p' hs h => (match h with | ⟨g, e, hg, h2⟩ => ⟨g, e, hg, hs.two g h2⟩), fun v p p' hs h => (match h with | ⟨g, e, hg, h2⟩ => ⟨g, e, hg, hs.row h2⟩), fun v p p' hs h => (match h with | ⟨g, e, hg, h2⟩ => ⟨g, e, hg, hs.new g hg h2⟩), trivial⟩
              · intro b0 hN hlv
                refine ⟨?_, ?_, ?_, ?_, ?_, ?_, ?_, ?_, ?_, ?_, ?_, ?_, ?_, trivial⟩
                · intro vals p hI hp
                  have e16 : (Roll.putD Drs20b vals [] b0).eval (.tmp 16) = .pointer (some ⟨gx, 0, none⟩) := (Roll.eval_old rfl).trans (hlv.at 1 (16, .pointer (some ⟨gx, 0, none⟩)) rfl)
                  clear hp hlv hN
                  unfold Roll.Goes
                  simp only [Lrs20b, List.getD_cons_zero, List.getD_cons_succ]
                  generalize Roll.putD Drs20b vals [] b0 = a1 at *
                  exact Roll.goes_load_row rfl 48 (.tmp 16) rfl gx e16 48 #[.slice ra l'.length rc, .int .i64 (e : Int)] (0, 0) _ ((hI.block _ (heap_lt Q0.out)).trans Q0.out) Try.underlying48 rfl (rdsz2 _ _) ⟨hI, ExS.below (Below.refl _ _), rfl⟩
                · intro vals p hI hp
                  have e11 : (Roll.putD Drs20b vals [] b0).eval (.tmp 11) = .slice (some ⟨b, off, none⟩) ns.length uc := (Roll.eval_old rfl).trans (hlv.at 0 (11, .slice (some ⟨b, off, none⟩) ns.length uc) rfl)
                  clear hp hlv hN
                  unfold Roll.Goes
                  simp only [Lrs20b, List.getD_cons_zero, List.getD_cons_succ]
                  generalize Roll.putD Drs20b vals [] b0 = a1 at *
                  refine Roll.goes_val (w' := p) (.slice (some ⟨b, off, none⟩) ns.length uc) rfl ?_ ⟨hI, ExS.below (Below.refl _ _), rfl⟩
                  (have ec : ∀ x, a1.eval (.const x) = x := fun _ => rfl); (have ef : ∀ x, a1.eval (.func x) = .func (.func x) #[] #[] := fun _ => rfl); generalize a1.eval = ρ at *
                  skip
                  go_simp <;> (intros; first | (exfalso; omega) | rfl)
                · intro vals p hI hp
                  have e17 : (Roll.putD Drs20b vals [] b0).eval (.tmp 17) = .int .i64 (i : Int) := (Roll.eval_old rfl).trans (hlv.at 2 (17, .int .i64 (i : Int)) rfl)
                  clear hp hlv hN
                  unfold Roll.Goes
                  simp only [Lrs20b, List.getD_cons_zero, List.getD_cons_succ]
                  generalize Roll.putD Drs20b vals [] b0 = a1 at *
                  refine Roll.goes_val (w' := p) (.int .i64 (i : Int)) rfl ?_ ⟨hI, ExS.below (Below.refl _ _), rfl⟩
                  (have ec : ∀ x, a1.eval (.const x) = x := fun _ => rfl); (have ef : ∀ x, a1.eval (.func x) = .func (.func x) #[] #[] := fun _ => rfl); generalize a1.eval = ρ at *
                  skip
                  go_simp <;> (intros; first | (exfalso; omega) | rfl)
                · intro vals p hI hp
                  have h1 : (vals 1) = .slice (some ⟨b, off, none⟩) ns.length uc := hp 1 (by simp [Lrs20b])
                  have h2 : (vals 2) = .int .i64 (i : Int) := hp 2 (by simp [Lrs20b])
                  have e79 : (Roll.putD Drs20b vals [1, 2] b0).eval (.tmp 79) = .slice (some ⟨b, off, none⟩) ns.length uc := (Roll.eval_new 1 rfl (by decide) (by decide) (by omega)).trans h1
                  have e80 : (Roll.putD Drs20b vals [1, 2] b0).eval (.tmp 80) = .int .i64 (i : Int) := (Roll.eval_new 2 rfl (by decide) (by decide) (by omega)).trans h2
                  clear hp hlv hN
                  unfold Roll.Goes
                  simp only [Lrs20b, List.getD_cons_zero, List.getD_cons_succ]
                  generalize Roll.putD Drs20b vals [1, 2] b0 = a1 at *
                  have z1 : (i : Int) < (ns.length : Int) := by omega
                  refine Roll.goes_val (w' := p) (.pointer (some ⟨b, off + i * 6, none⟩)) rfl ?_ ⟨hI, ExS.below (Below.refl _ _), rfl⟩
                  (have ec : ∀ x, a1.eval (.const x) = x := fun _ => rfl); (have ef : ∀ x, a1.eval (.func x) = .func (.func x) #[] #[] := fun _ => rfl); generalize a1.eval = ρ at *
                  clear h1 h2
                  go_simp <;> (intros; first | (exfalso; omega) | rfl)
                · intro vals p hI hp
                  have h3 : (vals 3) = .pointer (some ⟨b, off + i * 6, none⟩) := hp 3 (by simp [Lrs20b])
                  have e81 : (Roll.putD Drs20b vals [3] b0).eval (.tmp 81) = .pointer (some ⟨b, off + i * 6, none⟩) := (Roll.eval_new 3 rfl (by decide) (by decide) (by omega)).trans h3
                  clear hp hlv hN
                  unfold Roll.Goes
                  simp only [Lrs20b, List.getD_cons_zero, List.getD_cons_succ]
                  generalize Roll.putD Drs20b vals [3] b0 = a1 at *
                  exact Roll.goes_load_mid rfl 34 (.tmp 81) rfl b (off + i * 6) e81 m.cells _ (range_kept Qm.out Qb.out (Kept.of_below (fun _ => False) hI) (fun h => h)) Try.underlying34 rfl (by rw [VM.cells_len]; kernel_rfl) ⟨hI, ExS.below (Below.refl _ _), by rw [VM.cells_arr]; rfl⟩
                · intro vals p hI hp
                  have e18 : (Roll.putD Drs20b vals [] b0).eval (.tmp 18) = .int .i64 M := (Roll.eval_old rfl).trans (hlv.at 3 (18, .int .i64 M) rfl)
                  clear hp hlv hN
                  unfold Roll.Goes
                  simp only [Lrs20b, List.getD_cons_zero, List.getD_cons_succ]
                  generalize Roll.putD Drs20b vals [] b0 = a1 at *
                  refine Roll.goes_val (w' := p) (.int .i64 M) rfl ?_ ⟨hI, ExS.below (Below.refl _ _), rfl⟩
                  (have ec : ∀ x, a1.eval (.const x) = x := fun _ => rfl); (have ef : ∀ x, a1.eval (.func x) = .func (.func x) #[] #[] := fun _ => rfl); generalize a1.eval = ρ at *
                  skip
                  go_simp <;> (intros; first | (exfalso; omega) | rfl)
                · intro vals p hI hp
                  have h0 : (vals 0) = .agg #[.slice ra l'.length rc, .int .i64 (e : Int)] := hp 0 (by simp [Lrs20b])
                  have h4 : (vals 4) = m.val := hp 4 (by simp [Lrs20b])
                  have h5 : (vals 5) = .int .i64 M := hp 5 (by simp [Lrs20b])
                  have e78 : (Roll.putD Drs20b vals [0, 4, 5] b0).eval (.tmp 78) = .agg #[.slice ra l'.length rc, .int .i64 (e : Int)] := (Roll.eval_new 0 rfl (by decide) (by decide) (by omega)).trans h0
                  have e82 : (Roll.putD Drs20b vals [0, 4, 5] b0).eval (.tmp 82) = m.val := (Roll.eval_new 4 rfl (by decide) (by decide) (by omega)).trans h4
                  have e83 : (Roll.putD Drs20b vals [0, 4, 5] b0).eval (.tmp 83) = .int .i64 M := (Roll.eval_new 5 rfl (by decide) (by decide) (by omega)).trans h5
                  clear hp hlv hN
                  unfold Roll.Goes
                  simp only [Lrs20b, List.getD_cons_zero, List.getD_cons_succ]
                  generalize Roll.putD Drs20b vals [0, 4, 5] b0 = a1 at *
                  refine Roll.goes_call 22 #[.agg #[.slice ra l'.length rc, .int .i64 (e : Int)], m.val, .int .i64 M] p rfl (by have ec : ∀ x, a1.eval (.const x) = x := fun _ => rfl; have ef : ∀ x, a1.eval (.func x) = .func (.func x) #[] #[] := fun _ => rfl; generalize a1.eval = ρ at *; go_simp) ?_
                  refine (expected_any (fun b => w.heap.size ≤ b ∧ b < w5.heap.size) ra rc l' e m M p (QB.out.kept (Kept.of_below (fun _ => False) hI) (fun _ _ _ h => h)) (by omega) Hmk.out hM1 hM2).mono ?_
                  rintro y p2 ⟨ac, cc, m2, rfl, hB2, hk2, hp2, ho2, hb⟩
                  rw [HR2.out] at hB2 hp2
                  exact ⟨_, rfl, hI.trans (hb.mono hI.size), ExS.below hb, ac, cc, m2, by rw [HR2.out]; rfl, hB2, hk2, hp2, ho2.dom (fun b hb2 => ⟨Nat.le_trans hI.size hb2.1, hb2.2⟩)⟩
                · intro vals p hI hp
                  have h6 : ∃ ac cc, ∃ m2 : VM, (vals 6) = .tuple #[rdv ac l2'.length cc e2, m2.val] ∧ Bs (fun b => w.heap.size ≤ b ∧ b < w5.heap.size) p ac l2'.length cc l2' ∧ m2.k = m.k ∧ m2.pv = pv ∧ VOk (fun b => q.heap.size ≤ b ∧ IntRow p b) p m2 := hp 6 (by simp [Lrs20b])
                  have e84 : (Roll.putD Drs20b vals [6] b0).eval (.tmp 84) = vals 6 := (Roll.eval_new 6 rfl (by decide) (by decide) (by omega))
                  clear hp hlv hN
                  unfold Roll.Goes
                  simp only [Lrs20b, List.getD_cons_zero, List.getD_cons_succ]
                  generalize Roll.putD Drs20b vals [6] b0 = a1 at *
                  exact Roll.goes_val (w' := p) (vals 6) rfl (by unfold execOp; simp only [e84, Sem.run_pure]) ⟨hI, ExS.below (Below.refl _ _), h6⟩
                · intro vals p hI hp
                  have h7 : ∃ ac cc, ∃ m2 : VM, (vals 7) = .tuple #[rdv ac l2'.length cc e2, m2.val] ∧ Bs (fun b => w.heap.size ≤ b ∧ b < w5.heap.size) p ac l2'.length cc l2' ∧ m2.k = m.k ∧ m2.pv = pv ∧ VOk (fun b => q.heap.size ≤ b ∧ IntRow p b) p m2 := hp 7 (by simp [Lrs20b])
                  have e77 : (Roll.putD Drs20b vals [7] b0).eval (.tmp 77) = vals 7 := (Roll.eval_new 7 rfl (by decide) (by decide) (by omega))
                  clear hp hlv hN
                  unfold Roll.Goes
                  simp only [Lrs20b, List.getD_cons_zero, List.getD_cons_succ]
                  generalize Roll.putD Drs20b vals [7] b0 = a1 at *
                  obtain ⟨ac, cc, m2, e7, hB7, hk7, hp7, ho7⟩ := h7
                  rw [e7] at e77
                  refine Roll.goes_val (w' := p) (rdv ac l2'.length cc e2) rfl ?_ ⟨hI, ExS.below (Below.refl _ _), ac, cc, rfl, hB7⟩
                  clear hB7 hk7 hp7 ho7 e7 hI
                  generalize rdv ac l2'.length cc e2 = Z at *
                  generalize m2.val = Z2 at *
                  generalize a1.eval = ρ at *
                  go_simp
                · intro vals p hI hp
                  have h7 : ∃ ac cc, ∃ m2 : VM, (vals 7) = .tuple #[rdv ac l2'.length cc e2, m2.val] ∧ Bs (fun b => w.heap.size ≤ b ∧ b < w5.heap.size) p ac l2'.length cc l2' ∧ m2.k = m.k ∧ m2.pv = pv ∧ VOk (fun b => q.heap.size ≤ b ∧ IntRow p b) p m2 := hp 7 (by simp [Lrs20b])
                  have e77 : (Roll.putD Drs20b vals [7] b0).eval (.tmp 77) = vals 7 := (Roll.eval_new 7 rfl (by decide) (by decide) (by omega))
                  clear hp hlv hN
                  unfold Roll.Goes
                  simp only [Lrs20b, List.getD_cons_zero, List.getD_cons_succ]
                  generalize Roll.putD Drs20b vals [7] b0 = a1 at *
                  obtain ⟨ac, cc, m2, e7, hB7, hk7, hp7, ho7⟩ := h7
                  rw [e7] at e77
                  refine Roll.goes_val (w' := p) m2.val rfl ?_ ⟨hI, ExS.below (Below.refl _ _), m2, rfl, hk7, hp7, ho7⟩
                  clear hB7 hk7 hp7 ho7 e7 hI
                  generalize rdv ac l2'.length cc e2 = Z at *
                  generalize m2.val = Z2 at *
                  generalize a1.eval = ρ at *
                  go_simp
                · intro vals p hI hp
                  clear hp hlv hN
                  unfold Roll.Goes
                  simp only [Lrs20b, List.getD_cons_zero, List.getD_cons_succ]
                  generalize Roll.putD Drs20b vals [] b0 = a1 at *
                  have hb := (Below.refl p.heap.size p).alloc (Nat.le_refl _) (.cells #[.slice none 0 0, .int .i64 0] 48)
                  refine Roll.goes_val (w' := p.alloc (.cells #[.slice none 0 0, .int .i64 0] 48)) (.pointer (some ⟨p.heap.size, 0, none⟩)) rfl ?_ ⟨hI.trans (hb.mono hI.size), ExS.below hb, p.heap.size, rfl, hI.size, _, _, heap_new rfl⟩
                  clear hb hI
                  generalize a1.eval = ρ at *
                  go_simp
                · intro vals p hI hp
                  clear hp hlv hN
                  unfold Roll.Goes
                  simp only [Lrs20b, List.getD_cons_zero, List.getD_cons_succ]
                  generalize Roll.putD Drs20b vals [] b0 = a1 at *
                  have hb := (Below.refl p.heap.size p).alloc (Nat.le_refl _) (.cells #[.int .u8 0, .int .u64 0, .int .i64 0, .bool false, .string ⟨#[]⟩, .slice none 0 0] 34)
                  refine Roll.goes_val (w' := p.alloc (.cells #[.int .u8 0, .int .u64 0, .int .i64 0, .bool false, .string ⟨#[]⟩, .slice none 0 0] 34)) (.pointer (some ⟨p.heap.size, 0, none⟩)) rfl ?_ ⟨hI.trans (hb.mono hI.size), ExS.below hb, p.heap.size, rfl, hI.size, heap_new rfl⟩
                  clear hb hI
                  generalize a1.eval = ρ at *
                  go_simp
                · intro vals p hI hp
                  have h10 : ∃ g, (vals 10) = .pointer (some ⟨g, 0, none⟩) ∧ q.heap.size ≤ g ∧ T2 p g := hp 10 (by simp [Lrs20b])
                  have h8 : ∃ ac cc, (vals 8) = rdv ac l2'.length cc e2 ∧ Bs (fun b => w.heap.size ≤ b ∧ b < w5.heap.size) p ac l2'.length cc l2' := hp 8 (by simp [Lrs20b])
                  have e20 : (Roll.putD Drs20b vals [10, 8] b0).eval (.tmp 20) = vals 10 := (Roll.eval_new 10 rfl (by decide) (by decide) (by omega))
                  have e85 : (Roll.putD Drs20b vals [10, 8] b0).eval (.tmp 85) = vals 8 := (Roll.eval_new 8 rfl (by decide) (by decide) (by omega))
                  clear hp hlv hN
                  unfold Roll.Goes
                  simp only [Lrs20b, List.getD_cons_zero, List.getD_cons_succ]
                  generalize Roll.putD Drs20b vals [10, 8] b0 = a1 at *
                  obtain ⟨g0, e10, hg0, hT0⟩ := h10
                  obtain ⟨ac, cc, e8, hB8⟩ := h8
                  obtain ⟨hS, hN⟩ := ExS.store (B := q.heap.size) (e := e2) (fun b hb => by have := QS.out; omega) hg0 hT0 hB8
                  obtain ⟨x1, y1, hold⟩ := hT0
                  rw [e10] at e20
                  rw [e8] at e85
                  exact Roll.goes_store_row rfl 48 (.tmp 20) (.tmp 85) rfl g0 #[.slice ac l2'.length cc, .int .i64 (e2 : Int)] e20 e85 48 #[x1, y1] hold (rdsz2 _ _) rfl (rdone _ _ _ _ _) ⟨Below_row hI hg0 _, hS, g0, e10, hg0, hN⟩
              · intro vals p hI hR
                have h0 : (vals 0) = .agg #[.slice ra l'.length rc, .int .i64 (e : Int)] := hR 0 (by omega)
                have h1 : (vals 1) = .slice (some ⟨b, off, none⟩) ns.length uc := hR 1 (by omega)
                have h2 : (vals 2) = .int .i64 (i : Int) := hR 2 (by omega)
                have h3 : (vals 3) = .pointer (some ⟨b, off + i * 6, none⟩) := hR 3 (by omega)
                have h4 : (vals 4) = m.val := hR 4 (by omega)
                have h5 : (vals 5) = .int .i64 M := hR 5 (by omega)
                have h6 : ∃ ac cc, ∃ m2 : VM, (vals 6) = .tuple #[rdv ac l2'.length cc e2, m2.val] ∧ Bs (fun b => w.heap.size ≤ b ∧ b < w5.heap.size) p ac l2'.length cc l2' ∧ m2.k = m.k ∧ m2.pv = pv ∧ VOk (fun b => q.heap.size ≤ b ∧ IntRow p b) p m2 := hR 6 (by omega)
                have h7 : ∃ ac cc, ∃ m2 : VM, (vals 7) = .tuple #[rdv ac l2'.length cc e2, m2.val] ∧ Bs (fun b => w.heap.size ≤ b ∧ b < w5.heap.size) p ac l2'.length cc l2' ∧ m2.k = m.k ∧ m2.pv = pv ∧ VOk (fun b => q.heap.size ≤ b ∧ IntRow p b) p m2 := hR 7 (by omega)
                have h8 : ∃ ac cc, (vals 8) = rdv ac l2'.length cc e2 ∧ Bs (fun b => w.heap.size ≤ b ∧ b < w5.heap.size) p ac l2'.length cc l2' := hR 8 (by omega)
                have h9 : ∃ m2 : VM, (vals 9) = m2.val ∧ m2.k = m.k ∧ m2.pv = pv ∧ VOk (fun b => q.heap.size ≤ b ∧ IntRow p b) p m2 := hR 9 (by omega)
                have h10 : ∃ g, (vals 10) = .pointer (some ⟨g, 0, none⟩) ∧ q.heap.size ≤ g ∧ T2 p g := hR 10 (by omega)
                have h11 : ∃ g, (vals 11) = .pointer (some ⟨g, 0, none⟩) ∧ q.heap.size ≤ g ∧ p.heap[g]? = some (.cells #[.int .u8 0, .int .u64 0, .int .i64 0, .bool false, .string ⟨#[]⟩, .slice none 0 0] 34 (0, 0)) := hR 11 (by omega)
                have h12 : ∃ g, (vals 10) = .pointer (some ⟨g, 0, none⟩) ∧ q.heap.size ≤ g ∧ New2 (fun b => w.heap.size ≤ b ∧ b < w5.heap.size) l2' e2 p g := hR 12 (by omega)
                clear hR
                simp only [List.range_succ, List.range_zero, List.nil_append, List.cons_append, Roll.putD, Act.put, List.getD_cons_zero, List.getD_cons_succ, List.setIfInBounds_toArray, List.set_cons_zero, List.set_cons_succ, List.drop_succ_cons, List.drop_zero, Drs20b]
                simp only [h0, h1, h2, h3, h4, h5]
                clear h0 h1 h2 h3 h4 h5
                obtain ⟨g21, ev11, hg21, hr21⟩ := h11
                obtain ⟨g20, ev10, hg20, hn20⟩ := h12
                obtain ⟨m2, ev9, hk9, hp9, ho9⟩ := h9
                rw [ev11, ev10, ev9]
                simp only [VM.val]
                obtain ⟨ac, cc, hc20, hB20⟩ := hn20
                clear h6 h7 h8 h10 ev11 ev10 ev9
                have Hr21 := Lib.hid hr21
                have Hc20 := Lib.hid hc20
                have HB20 := Lib.hid hB20
                have Ho9 := Lib.hid ho9
                have Hp9 := Lib.hid hp9
                have Hk9 := Lib.hid hk9
                have HI := Lib.hid hI
                have ne21 : g20 ≠ g21 := by
                  intro h
                  rw [h, hr21] at hc20
                  simp at hc20
                have Hne := Lib.hid ne21
                clear hr21 hc20 hB20 ho9 hp9 hI ne21 hk9
                go_upto_region 22 with (first
                  | (refine wpList_load_row rfl 48 (.tmp 20) rfl g20 rfl 48 _ (0, 0) _ ((setRow_other _ _ _ _ Hne.out).trans Hc20.out) Try.underlying48 rfl (rdsz2 _ _) ?_)
                  | (refine wpList_store_row rfl 48 (.tmp 16) (.tmp 87) rfl gx _ rfl rfl 48 _ ((setRow_other _ _ _ _ (by have := QS.out; omega)).trans ((HI.out.block _ (heap_lt Q0.out)).trans Q0.out)) (rdsz2 _ _) rfl (rdone _ _ _ _ _) ?_)
                  | (refine wpList_store_row rfl 34 (.tmp 21) (.tmp 86) rfl g21 m2.cells.toArray rfl rfl 34 _ Hr21.out (size34 m2.cells (VM.cells_len _)) rfl (by simp [VM.cells, Value.oneCell']) ?_))
                obtain ⟨r, hr⟩ : ∃ r, r = (p.setRow g21 m2.cells.toArray).setRow gx #[.slice ac l2'.length cc, .int .i64 (e2 : Int)] := ⟨_, rfl⟩
                rw [← hr]
                have KA : Kept (fun j => j = g21 ∨ j = gx) p r := by rw [hr]; exact ((Kept.refl (fun j => j = g21 ∨ j = gx) p).setRow (fun _ => .inl rfl) _).setRow (fun _ => .inr rfl) _
                have hqs := QS.out
                have hgk := Hgg.out
                have hg19 := Hg19.out
                have hgx8 : gx < w8.heap.size := Nat.lt_of_lt_of_le (Nat.lt_of_lt_of_le Hz7.out HA.out.kept.size) H8.out.2.size
                have hq8 : q.heap.size = w8.heap.size + 1 := by rw [Hq.out, size_alloc1]
                have K8p : Below w8.heap.size w8 p := (show Below w8.heap.size w8 q by rw [Hq.out]; exact (Below.refl _ _).alloc (Nat.le_refl _) _).trans (HI.out.mono (by omega))
                have R19 : Hid (r.heap[g19]? = some (.cells m1.cells.toArray 34 (0, 0))) := Lib.hid (KA.heap ((HI.out.block _ (heap_lt Q19.out)).trans Q19.out) (by omega))
                have R21 : Hid (r.heap[g21]? = some (.cells m2.cells.toArray 34 (0, 0))) := Lib.hid (by rw [hr]; exact (setRow_other _ _ _ _ (by omega)).trans (setRow_heap _ _ _ _ _ _ Hr21.out))
                have RX : Hid (RdB r gx ac l2'.length cc e2) := Lib.hid (by rw [hr]; exact setRow_heap _ _ _ _ _ _ ((setRow_other _ _ _ _ (by omega)).trans ((HI.out.block _ (heap_lt Q0.out)).trans Q0.out)))
                have RB : Hid (Bs (fun b => w.heap.size ≤ b ∧ b < w5.heap.size) r ac l2'.length cc l2') := Lib.hid (HB20.out.kept KA (fun b _ hb h => by have := hb.2; omega))
                have RV1 : Hid (VOk (fun b => wr.heap.size ≤ b ∧ b < w8.heap.size) r m1) := Lib.hid (((Ho1.out.dom2 (D' := fun b => wr.heap.size ≤ b ∧ b < w8.heap.size) (fun b hb hd => ⟨hd, hb⟩)).kept (Kept.of_below (fun _ => False) K8p) (fun _ _ _ h => h)).kept KA (fun b _ hb h => by have := hb.1; have := hb.2; have := HA.out.kept.size; have := Hz7.out; omega))
                have RV2 : Hid (VOk (fun b => q.heap.size ≤ b ∧ IntRow p b) r m2) := Lib.hid (Ho9.out.kept KA (fun b _ hb h => by
                  rcases h with rfl | rfl
                  · obtain ⟨cur, hc⟩ := hb.2
                    have := Hr21.out
                    rw [hc] at this
                    simp at this
                  · have := hb.1; omega))
                have RG : Hid (Rd r g k3 l2 e2) := Lib.hid ((H8.out.1.kept (Kept.of_below (fun _ => False) K8p) (fun h => h) (fun _ _ h => h)).kept KA (by omega) (fun j hj h => by have := (Hkk.out j hj).2; omega))
                have KF : Hid (Kept (fun b => b = g ∨ b = gx) w7 r) := Lib.hid (((HA.out.kept.trans (QK.out) (fun j _ h => .inl h)).trans (Kept.of_below (fun b => b = g ∨ b = gx) HI.out) (fun _ _ h => h)).trans KA (fun j hj h => by
                  rcases h with rfl | rfl
                  · have h1 := HA.out.kept.size; have h2 := QK.out.size; omega
                  · exact .inr rfl))
                have HE1 := Lib.hid (endE_sim l2 l2' e2 Hs3.out)
                have Hps : Hid (psame m1.k m1.pv m2.pv = true) := Lib.hid (by rw [Hp1.out, Hp9.out]; exact psame_refl _ _)
                have Hge : Hid (gx < r.heap.size) := Lib.hid (heap_lt RX.out)
                have HlA := HA.out.len
                have hl2'b : l2'.length ≤ 9223372036854775807 := by have := Hln'.out; omega
                obtain ⟨E, hE⟩ : ∃ E, E = endE e2 l2.length := ⟨_, rfl⟩
                have HE := Lib.hid hE
                clear hr KA hqs hgk hg19 hgx8 hq8 K8p HlA hE Hr21 Hc20 HB20 Ho9 Hp9 HI Hne
                refine Roll.region_f 18 107 Drs22b Lrs22b [(15, .pointer (some ⟨g, 0, none⟩)), (16, .pointer (some ⟨gx, 0, none⟩)), (19, .pointer (some ⟨g19, 0, none⟩)), (21, .pointer (some ⟨g21, 0, none⟩))] (fun p => Below r.heap.size r p) (fun p p' => Below p.heap.size p p') [fun vv p => vv = .agg m1.cells.toArray, fun vv p => vv = .agg m2.cells.toArray, fun vv p => vv = .bool true, fun vv p => vv = .bool false, fun vv p => vv = .bool false, fun vv p => vv = .pointer (some ⟨g, 0, none⟩), fun vv p => vv = .int .i64 (e2 : Int), fun vv p => vv = .pointer (some ⟨gx, 1, none⟩), fun vv p => vv = .int .i64 (e2 : Int), fun vv p => vv = .bool false, fun vv p => vv = .bool false, fun vv p => vv = .bool false, fun vv p => vv = .pointer (some ⟨g, 0, none⟩), fun vv p => vv = .int .i64 (E : Int), fun vv p => vv = .agg #[.slice ac l2'.length cc, .int .i64 (e2 : Int)], fun vv p => vv = .int .i64 (E : Int), fun vv p => vv = .bool false, fun vv p => vv = .bool false] (by kernel_rfl) (by kernel_rfl) rfl ⟨rfl, rfl, rfl, rfl, trivial⟩ ((Below.refl _ _).drew) ?_ ?_ ?_
                · exact ⟨fun _ _ _ _ h => h, fun _ _ _ _ h => h, fun _ _ _ _ h => h, fun _ _ _ _ h => h, fun _ _ _ _ h => h, fun _ _ _ _ h => h, fun _ _ _ _ h => h, fun _ _ _ _ h => h, fun _ _ _ _ h => h, fun _ _ _ _ h => h, fun _ _ _ _ h => h, fun _ _ _ _ h => h, fun _ _ _ _ h => h, fun _ _ _ _ h => h, fun _ _ _ _ h => h, fun _ _ _ _ h => h, fun _ _ _ _ h => h, fun _ _ _ _ h => h, trivial⟩
                · intro b0 hN hlv
                  refine ⟨?_, ?_, ?_, ?_, ?_, ?_, ?_, ?_, ?_, ?_, ?_, ?_, ?_, ?_, ?_, ?_, ?_, ?_, trivial⟩
                  · intro vals p hI hp
                    have e19 : (Roll.putD Drs22b vals [] b0).eval (.tmp 19) = .pointer (some ⟨g19, 0, none⟩) := (Roll.eval_old rfl).trans (hlv.at 2 (19, .pointer (some ⟨g19, 0, none⟩)) rfl)
                    clear hp hlv hN
                    unfold Roll.Goes
                    simp only [Lrs22b, List.getD_cons_zero, List.getD_cons_succ]
                    generalize Roll.putD Drs22b vals [] b0 = a1 at *
                    exact Roll.goes_load_row rfl 34 (.tmp 19) rfl g19 e19 34 m1.cells.toArray (0, 0) _ ((hI.block _ (heap_lt R19.out)).trans R19.out) Try.underlying34 rfl (size34 m1.cells (VM.cells_len _)) ⟨hI, Below.refl _ _, rfl⟩
                  · intro vals p hI hp
                    have e21 : (Roll.putD Drs22b vals [] b0).eval (.tmp 21) = .pointer (some ⟨g21, 0, none⟩) := (Roll.eval_old rfl).trans (hlv.at 3 (21, .pointer (some ⟨g21, 0, none⟩)) rfl)
                    clear hp hlv hN
                    unfold Roll.Goes
                    simp only [Lrs22b, List.getD_cons_zero, List.getD_cons_succ]
                    generalize Roll.putD Drs22b vals [] b0 = a1 at *
                    exact Roll.goes_load_row rfl 34 (.tmp 21) rfl g21 e21 34 m2.cells.toArray (0, 0) _ ((hI.block _ (heap_lt R21.out)).trans R21.out) Try.underlying34 rfl (size34 m2.cells (VM.cells_len _)) ⟨hI, Below.refl _ _, rfl⟩
                  · intro vals p hI hp
                    have h0 : (vals 0) = .agg m1.cells.toArray := hp 0 (by simp [Lrs22b])
                    have h1 : (vals 1) = .agg m2.cells.toArray := hp 1 (by simp [Lrs22b])
                    have e88 : (Roll.putD Drs22b vals [0, 1] b0).eval (.tmp 88) = .agg m1.cells.toArray := (Roll.eval_new 0 rfl (by decide) (by decide) (by omega)).trans h0
                    have e89 : (Roll.putD Drs22b vals [0, 1] b0).eval (.tmp 89) = .agg m2.cells.toArray := (Roll.eval_new 1 rfl (by decide) (by decide) (by omega)).trans h1
                    clear hp hlv hN
                    unfold Roll.Goes
                    simp only [Lrs22b, List.getD_cons_zero, List.getD_cons_succ]
                    generalize Roll.putD Drs22b vals [0, 1] b0 = a1 at *
                    refine Roll.goes_call 23 #[.agg m1.cells.toArray, .agg m2.cells.toArray] p rfl (by have ec : ∀ x, a1.eval (.const x) = x := fun _ => rfl; have ef : ∀ x, a1.eval (.func x) = .func (.func x) #[] #[] := fun _ => rfl; generalize a1.eval = ρ at *; go_simp) ?_
                    refine (same_any _ _ m1 m2 p (RV1.out.kept (Kept.of_below (fun _ => False) hI) (fun _ _ _ h => h)) (RV2.out.kept (Kept.of_below (fun _ => False) hI) (fun _ _ _ h => h))).mono ?_
                    rw [Hps.out]
                    rintro y p2 ⟨rfl, hb⟩
                    exact ⟨_, rfl, hI.trans (hb.mono hI.size), hb, rfl⟩
                  · intro vals p hI hp
                    have h2 : (vals 2) = .bool true := hp 2 (by simp [Lrs22b])
                    have e90 : (Roll.putD Drs22b vals [2] b0).eval (.tmp 90) = .bool true := (Roll.eval_new 2 rfl (by decide) (by decide) (by omega)).trans h2
                    clear hp hlv hN
                    unfold Roll.Goes
                    simp only [Lrs22b, List.getD_cons_zero, List.getD_cons_succ]
                    generalize Roll.putD Drs22b vals [2] b0 = a1 at *
                    refine Roll.goes_val (w' := p) (.bool false) rfl ?_ ⟨hI, Below.refl _ _, rfl⟩
                    (have ec : ∀ x, a1.eval (.const x) = x := fun _ => rfl); (have ef : ∀ x, a1.eval (.func x) = .func (.func x) #[] #[] := fun _ => rfl); generalize a1.eval = ρ at *
                    clear h2
                    go_simp <;> (intros; first | (exfalso; omega) | rfl)
                  · intro vals p hI hp
                    have h3 : (vals 3) = .bool false := hp 3 (by simp [Lrs22b])
                    have e91 : (Roll.putD Drs22b vals [3] b0).eval (.tmp 91) = .bool false := (Roll.eval_new 3 rfl (by decide) (by decide) (by omega)).trans h3
                    clear hp hlv hN
                    unfold Roll.Goes
                    simp only [Lrs22b, List.getD_cons_zero, List.getD_cons_succ]
                    generalize Roll.putD Drs22b vals [3] b0 = a1 at *
                    refine Roll.goes_val (w' := p) (.bool false) rfl ?_ ⟨hI, Below.refl _ _, rfl⟩
                    (have ec : ∀ x, a1.eval (.const x) = x := fun _ => rfl); (have ef : ∀ x, a1.eval (.func x) = .func (.func x) #[] #[] := fun _ => rfl); generalize a1.eval = ρ at *
                    clear h3
                    go_simp <;> (intros; first | (exfalso; omega) | rfl)
                  · intro vals p hI hp
                    have h4 : (vals 4) = .bool false := hp 4 (by simp [Lrs22b])
                    have e15 : (Roll.putD Drs22b vals [4] b0).eval (.tmp 15) = .pointer (some ⟨g, 0, none⟩) := (Roll.eval_old rfl).trans (hlv.at 0 (15, .pointer (some ⟨g, 0, none⟩)) rfl)
                    clear hp hlv hN
                    refine ⟨fun hg => ?_, fun hg => absurd h4 hg⟩
                    clear hg
                    unfold Roll.Goes
                    simp only [Lrs22b, List.getD_cons_zero, List.getD_cons_succ]
                    generalize Roll.putD Drs22b vals [4] b0 = a1 at *
                    refine Roll.goes_val (w' := p) (.pointer (some ⟨g, 0, none⟩)) rfl ?_ ⟨hI, Below.refl _ _, rfl⟩
                    (have ec : ∀ x, a1.eval (.const x) = x := fun _ => rfl); (have ef : ∀ x, a1.eval (.func x) = .func (.func x) #[] #[] := fun _ => rfl); generalize a1.eval = ρ at *
                    clear h4
                    go_simp <;> (intros; first | (exfalso; omega) | rfl)
                  · intro vals p hI hp
                    have h5 : (vals 5) = .pointer (some ⟨g, 0, none⟩) := hp 5 (by simp [Lrs22b])
                    have h4 : (vals 4) = .bool false := hp 4 (by simp [Lrs22b])
                    have e93 : (Roll.putD Drs22b vals [5, 4] b0).eval (.tmp 93) = .pointer (some ⟨g, 0, none⟩) := (Roll.eval_new 5 rfl (by decide) (by decide) (by omega)).trans h5
                    clear hp hlv hN
                    refine ⟨fun hg => ?_, fun hg => absurd h4 hg⟩
                    clear hg
                    unfold Roll.Goes
                    simp only [Lrs22b, List.getD_cons_zero, List.getD_cons_succ]
                    generalize Roll.putD Drs22b vals [5, 4] b0 = a1 at *
                    refine Roll.goes_call 24 #[.pointer (some ⟨g, 0, none⟩)] p rfl (by have ec : ∀ x, a1.eval (.const x) = x := fun _ => rfl; have ef : ∀ x, a1.eval (.func x) = .func (.func x) #[] #[] := fun _ => rfl; generalize a1.eval = ρ at *; go_simp) ?_
                    refine (err_any g k3 l2 e2 p (RG.out.kept (Kept.of_below (fun _ => False) hI) (fun h => h) (fun _ _ h => h))).mono ?_
                    rintro y p2 ⟨rfl, rfl⟩
                    exact ⟨_, rfl, hI, Below.refl _ _, rfl⟩
                  · intro vals p hI hp
                    have h4 : (vals 4) = .bool false := hp 4 (by simp [Lrs22b])
                    have e16 : (Roll.putD Drs22b vals [4] b0).eval (.tmp 16) = .pointer (some ⟨gx, 0, none⟩) := (Roll.eval_old rfl).trans (hlv.at 1 (16, .pointer (some ⟨gx, 0, none⟩)) rfl)
                    clear hp hlv hN
                    refine ⟨fun hg => ?_, fun hg => absurd h4 hg⟩
                    clear hg
                    unfold Roll.Goes
                    simp only [Lrs22b, List.getD_cons_zero, List.getD_cons_succ]
                    generalize Roll.putD Drs22b vals [4] b0 = a1 at *
                    refine Roll.goes_val (w' := p) (.pointer (some ⟨gx, 1, none⟩)) rfl ?_ ⟨hI, Below.refl _ _, rfl⟩
                    (have ec : ∀ x, a1.eval (.const x) = x := fun _ => rfl); (have ef : ∀ x, a1.eval (.func x) = .func (.func x) #[] #[] := fun _ => rfl); generalize a1.eval = ρ at *
                    clear h4
                    go_simp <;> (intros; first | (exfalso; omega) | rfl)
                  · intro vals p hI hp
                    have h7 : (vals 7) = .pointer (some ⟨gx, 1, none⟩) := hp 7 (by simp [Lrs22b])
                    have h4 : (vals 4) = .bool false := hp 4 (by simp [Lrs22b])
                    have e95 : (Roll.putD Drs22b vals [7, 4] b0).eval (.tmp 95) = .pointer (some ⟨gx, 1, none⟩) := (Roll.eval_new 7 rfl (by decide) (by decide) (by omega)).trans h7
                    clear hp hlv hN
                    refine ⟨fun hg => ?_, fun hg => absurd h4 hg⟩
                    clear hg
                    unfold Roll.Goes
                    simp only [Lrs22b, List.getD_cons_zero, List.getD_cons_succ]
                    generalize Roll.putD Drs22b vals [7, 4] b0 = a1 at *
                    have c1 := (hI.cell (p := ⟨gx, 1, none⟩) Hge.out).trans RX.out.facts.2.1
                    refine Roll.goes_val (w' := p) (.int .i64 (e2 : Int)) rfl ?_ ⟨hI, Below.refl _ _, rfl⟩
                    (have ec : ∀ x, a1.eval (.const x) = x := fun _ => rfl); (have ef : ∀ x, a1.eval (.func x) = .func (.func x) #[] #[] := fun _ => rfl); generalize a1.eval = ρ at *
                    clear h7 h4
                    go_simp <;> (intros; first | (exfalso; omega) | rfl)
                  · intro vals p hI hp
                    have h6 : (vals 6) = .int .i64 (e2 : Int) := hp 6 (by simp [Lrs22b])
                    have h8 : (vals 8) = .int .i64 (e2 : Int) := hp 8 (by simp [Lrs22b])
                    have h4 : (vals 4) = .bool false := hp 4 (by simp [Lrs22b])
                    have e94 : (Roll.putD Drs22b vals [6, 8, 4] b0).eval (.tmp 94) = .int .i64 (e2 : Int) := (Roll.eval_new 6 rfl (by decide) (by decide) (by omega)).trans h6
                    have e96 : (Roll.putD Drs22b vals [6, 8, 4] b0).eval (.tmp 96) = .int .i64 (e2 : Int) := (Roll.eval_new 8 rfl (by decide) (by decide) (by omega)).trans h8
                    clear hp hlv hN
                    refine ⟨fun hg => ?_, fun hg => absurd h4 hg⟩
                    clear hg
                    unfold Roll.Goes
                    simp only [Lrs22b, List.getD_cons_zero, List.getD_cons_succ]
                    generalize Roll.putD Drs22b vals [6, 8, 4] b0 = a1 at *
                    refine Roll.goes_val (w' := p) (.bool false) rfl ?_ ⟨hI, Below.refl _ _, rfl⟩
                    (have ec : ∀ x, a1.eval (.const x) = x := fun _ => rfl); (have ef : ∀ x, a1.eval (.func x) = .func (.func x) #[] #[] := fun _ => rfl); generalize a1.eval = ρ at *
                    clear h6 h8 h4
                    go_simp <;> (intros; first | (exfalso; omega) | rfl)
                  · intro vals p hI hp
                    have h4 : (vals 4) = .bool false := hp 4 (by simp [Lrs22b])
                    have h9 : (vals 9) = .bool false := hp 9 (by simp [Lrs22b])
                    have e92 : (Roll.putD Drs22b vals [4, 9] b0).eval (.tmp 92) = .bool false := (Roll.eval_new 4 rfl (by decide) (by decide) (by omega)).trans h4
                    have e97 : (Roll.putD Drs22b vals [4, 9] b0).eval (.tmp 97) = .bool false := (Roll.eval_new 9 rfl (by decide) (by decide) (by omega)).trans h9
                    clear hp hlv hN
                    unfold Roll.Goes
                    simp only [Lrs22b, List.getD_cons_zero, List.getD_cons_succ]
                    generalize Roll.putD Drs22b vals [4, 9] b0 = a1 at *
                    refine Roll.goes_val (w' := p) (.bool false) rfl ?_ ⟨hI, Below.refl _ _, rfl⟩
                    (have ec : ∀ x, a1.eval (.const x) = x := fun _ => rfl); (have ef : ∀ x, a1.eval (.func x) = .func (.func x) #[] #[] := fun _ => rfl); generalize a1.eval = ρ at *
                    clear h4 h9
                    go_simp <;> (intros; first | (exfalso; omega) | rfl)
                  · intro vals p hI hp
                    have h10 : (vals 10) = .bool false := hp 10 (by simp [Lrs22b])
                    have e98 : (Roll.putD Drs22b vals [10] b0).eval (.tmp 98) = .bool false := (Roll.eval_new 10 rfl (by decide) (by decide) (by omega)).trans h10
                    clear hp hlv hN
                    unfold Roll.Goes
                    simp only [Lrs22b, List.getD_cons_zero, List.getD_cons_succ]
                    generalize Roll.putD Drs22b vals [10] b0 = a1 at *
                    refine Roll.goes_val (w' := p) (.bool false) rfl ?_ ⟨hI, Below.refl _ _, rfl⟩
                    (have ec : ∀ x, a1.eval (.const x) = x := fun _ => rfl); (have ef : ∀ x, a1.eval (.func x) = .func (.func x) #[] #[] := fun _ => rfl); generalize a1.eval = ρ at *
                    clear h10
                    go_simp <;> (intros; first | (exfalso; omega) | rfl)
                  · intro vals p hI hp
                    have h11 : (vals 11) = .bool false := hp 11 (by simp [Lrs22b])
                    have e15 : (Roll.putD Drs22b vals [11] b0).eval (.tmp 15) = .pointer (some ⟨g, 0, none⟩) := (Roll.eval_old rfl).trans (hlv.at 0 (15, .pointer (some ⟨g, 0, none⟩)) rfl)
                    clear hp hlv hN
                    refine ⟨fun hg => ?_, fun hg => absurd h11 hg⟩
                    clear hg
                    unfold Roll.Goes
                    simp only [Lrs22b, List.getD_cons_zero, List.getD_cons_succ]
                    generalize Roll.putD Drs22b vals [11] b0 = a1 at *
                    refine Roll.goes_val (w' := p) (.pointer (some ⟨g, 0, none⟩)) rfl ?_ ⟨hI, Below.refl _ _, rfl⟩
                    (have ec : ∀ x, a1.eval (.const x) = x := fun _ => rfl); (have ef : ∀ x, a1.eval (.func x) = .func (.func x) #[] #[] := fun _ => rfl); generalize a1.eval = ρ at *
                    clear h11
                    go_simp <;> (intros; first | (exfalso; omega) | rfl)
                  · intro vals p hI hp
                    have h12 : (vals 12) = .pointer (some ⟨g, 0, none⟩) := hp 12 (by simp [Lrs22b])
                    have h11 : (vals 11) = .bool false := hp 11 (by simp [Lrs22b])
                    have e100 : (Roll.putD Drs22b vals [12, 11] b0).eval (.tmp 100) = .pointer (some ⟨g, 0, none⟩) := (Roll.eval_new 12 rfl (by decide) (by decide) (by omega)).trans h12
                    clear hp hlv hN
                    refine ⟨fun hg => ?_, fun hg => absurd h11 hg⟩
                    clear hg
                    unfold Roll.Goes
                    simp only [Lrs22b, List.getD_cons_zero, List.getD_cons_succ]
                    generalize Roll.putD Drs22b vals [12, 11] b0 = a1 at *
                    refine Roll.goes_call 25 #[.pointer (some ⟨g, 0, none⟩)] p rfl (by have ec : ∀ x, a1.eval (.const x) = x := fun _ => rfl; have ef : ∀ x, a1.eval (.func x) = .func (.func x) #[] #[] := fun _ => rfl; generalize a1.eval = ρ at *; go_simp) ?_
                    refine (end_any g k3 l2 e2 p (RG.out.kept (Kept.of_below (fun _ => False) hI) (fun h => h) (fun _ _ h => h))).mono ?_
                    rw [← HE.out]
                    rintro y p2 ⟨rfl, rfl⟩
                    exact ⟨_, rfl, hI, Below.refl _ _, rfl⟩
                  · intro vals p hI hp
                    have h11 : (vals 11) = .bool false := hp 11 (by simp [Lrs22b])
                    have e16 : (Roll.putD Drs22b vals [11] b0).eval (.tmp 16) = .pointer (some ⟨gx, 0, none⟩) := (Roll.eval_old rfl).trans (hlv.at 1 (16, .pointer (some ⟨gx, 0, none⟩)) rfl)
                    clear hp hlv hN
                    refine ⟨fun hg => ?_, fun hg => absurd h11 hg⟩
                    clear hg
                    unfold Roll.Goes
                    simp only [Lrs22b, List.getD_cons_zero, List.getD_cons_succ]
                    generalize Roll.putD Drs22b vals [11] b0 = a1 at *
                    exact Roll.goes_load_row rfl 48 (.tmp 16) rfl gx e16 48 #[.slice ac l2'.length cc, .int .i64 (e2 : Int)] (0, 0) _ ((hI.block _ Hge.out).trans RX.out) Try.underlying48 rfl (rdsz2 _ _) ⟨hI, Below.refl _ _, rfl⟩
                  · intro vals p hI hp
                    have h14 : (vals 14) = .agg #[.slice ac l2'.length cc, .int .i64 (e2 : Int)] := hp 14 (by simp [Lrs22b])
                    have h11 : (vals 11) = .bool false := hp 11 (by simp [Lrs22b])
                    have e102 : (Roll.putD Drs22b vals [14, 11] b0).eval (.tmp 102) = .agg #[.slice ac l2'.length cc, .int .i64 (e2 : Int)] := (Roll.eval_new 14 rfl (by decide) (by decide) (by omega)).trans h14
                    clear hp hlv hN
                    refine ⟨fun hg => ?_, fun hg => absurd h11 hg⟩
                    clear hg
                    unfold Roll.Goes
                    simp only [Lrs22b, List.getD_cons_zero, List.getD_cons_succ]
                    generalize Roll.putD Drs22b vals [14, 11] b0 = a1 at *
                    refine Roll.goes_call 26 #[.agg #[.slice ac l2'.length cc, .int .i64 (e2 : Int)]] p rfl (by have ec : ∀ x, a1.eval (.const x) = x := fun _ => rfl; have ef : ∀ x, a1.eval (.func x) = .func (.func x) #[] #[] := fun _ => rfl; generalize a1.eval = ρ at *; go_simp) ?_
                    refine (refEnd_any ac l2'.length cc e2 p hl2'b).mono ?_
                    rw [← HE1.out, ← HE.out]
                    rintro y p2 ⟨rfl, hb⟩
                    exact ⟨_, rfl, hI.trans (hb.mono hI.size), hb, rfl⟩
                  · intro vals p hI hp
                    have h13 : (vals 13) = .int .i64 (E : Int) := hp 13 (by simp [Lrs22b])
                    have h15 : (vals 15) = .int .i64 (E : Int) := hp 15 (by simp [Lrs22b])
                    have h11 : (vals 11) = .bool false := hp 11 (by simp [Lrs22b])
                    have e101 : (Roll.putD Drs22b vals [13, 15, 11] b0).eval (.tmp 101) = .int .i64 (E : Int) := (Roll.eval_new 13 rfl (by decide) (by decide) (by omega)).trans h13
                    have e103 : (Roll.putD Drs22b vals [13, 15, 11] b0).eval (.tmp 103) = .int .i64 (E : Int) := (Roll.eval_new 15 rfl (by decide) (by decide) (by omega)).trans h15
                    clear hp hlv hN
                    refine ⟨fun hg => ?_, fun hg => absurd h11 hg⟩
                    clear hg
                    unfold Roll.Goes
                    simp only [Lrs22b, List.getD_cons_zero, List.getD_cons_succ]
                    generalize Roll.putD Drs22b vals [13, 15, 11] b0 = a1 at *
                    refine Roll.goes_val (w' := p) (.bool false) rfl ?_ ⟨hI, Below.refl _ _, rfl⟩
                    (have ec : ∀ x, a1.eval (.const x) = x := fun _ => rfl); (have ef : ∀ x, a1.eval (.func x) = .func (.func x) #[] #[] := fun _ => rfl); generalize a1.eval = ρ at *
                    clear h13 h15 h11
                    go_simp <;> (intros; first | (exfalso; omega) | rfl)
                  · intro vals p hI hp
                    have h11 : (vals 11) = .bool false := hp 11 (by simp [Lrs22b])
                    have h16 : (vals 16) = .bool false := hp 16 (by simp [Lrs22b])
                    have e99 : (Roll.putD Drs22b vals [11, 16] b0).eval (.tmp 99) = .bool false := (Roll.eval_new 11 rfl (by decide) (by decide) (by omega)).trans h11
                    have e104 : (Roll.putD Drs22b vals [11, 16] b0).eval (.tmp 104) = .bool false := (Roll.eval_new 16 rfl (by decide) (by decide) (by omega)).trans h16
                    clear hp hlv hN
                    unfold Roll.Goes
                    simp only [Lrs22b, List.getD_cons_zero, List.getD_cons_succ]
                    generalize Roll.putD Drs22b vals [11, 16] b0 = a1 at *
                    refine Roll.goes_val (w' := p) (.bool false) rfl ?_ ⟨hI, Below.refl _ _, rfl⟩
                    (have ec : ∀ x, a1.eval (.const x) = x := fun _ => rfl); (have ef : ∀ x, a1.eval (.func x) = .func (.func x) #[] #[] := fun _ => rfl); generalize a1.eval = ρ at *
                    clear h11 h16
                    go_simp <;> (intros; first | (exfalso; omega) | rfl)
                · intro vals p hI hR
                  have h0 : (vals 0) = .agg m1.cells.toArray := hR 0 (by omega)
                  have h1 : (vals 1) = .agg m2.cells.toArray := hR 1 (by omega)
                  have h2 : (vals 2) = .bool true := hR 2 (by omega)
                  have h3 : (vals 3) = .bool false := hR 3 (by omega)
                  have h4 : (vals 4) = .bool false := hR 4 (by omega)
                  have h5 : (vals 5) = .pointer (some ⟨g, 0, none⟩) := hR 5 (by omega)
                  have h6 : (vals 6) = .int .i64 (e2 : Int) := hR 6 (by omega)
                  have h7 : (vals 7) = .pointer (some ⟨gx, 1, none⟩) := hR 7 (by omega)
                  have h8 : (vals 8) = .int .i64 (e2 : Int) := hR 8 (by omega)
                  have h9 : (vals 9) = .bool false := hR 9 (by omega)
                  have h10 : (vals 10) = .bool false := hR 10 (by omega)
                  have h11 : (vals 11) = .bool false := hR 11 (by omega)
                  have h12 : (vals 12) = .pointer (some ⟨g, 0, none⟩) := hR 12 (by omega)
                  have h13 : (vals 13) = .int .i64 (E : Int) := hR 13 (by omega)
                  have h14 : (vals 14) = .agg #[.slice ac l2'.length cc, .int .i64 (e2 : Int)] := hR 14 (by omega)
                  have h15 : (vals 15) = .int .i64 (E : Int) := hR 15 (by omega)
                  have h16 : (vals 16) = .bool false := hR 16 (by omega)
                  have h17 : (vals 17) = .bool false := hR 17 (by omega)
                  clear hR
                  simp only [List.range_succ, List.range_zero, List.nil_append, List.cons_append, Roll.putD, Act.put, List.getD_cons_zero, List.getD_cons_succ, List.setIfInBounds_toArray, List.set_cons_zero, List.set_cons_succ, List.drop_succ_cons, List.drop_zero, Drs22b]
                  simp only [h0, h1, h2, h3, h4, h5, h6, h7, h8, h9, h10, h11, h12, h13, h14, h15, h16, h17]
                  clear h0 h1 h2 h3 h4 h5 h6 h7 h8 h9 h10 h11 h12 h13 h14 h15 h16 h17
                  have HI2 := Lib.hid hI
                  clear hI
                  go_wp2_with fail
                  go_roundw
                  case rel =>
                    have h1 := Hln.out
                    have h2 := Hln'.out
                    have h3 := HA.out.len
                    have kI := Kept.of_below (fun _ => False) HI2.out
                    exact ⟨i + 1, l2, l2', e2, by omega, by go_num, RG.out.kept kI (fun h => h) (fun _ _ h => h), ⟨ac, cc, kI.heap RX.out (fun h => h), RB.out.kept kI (fun _ _ _ h => h)⟩, Hs3.out, ⟨by omega, by omega⟩, KF.out.trans kI (fun _ _ h => h.elim)⟩
                  case measure => simp [intOf]; omega
          · obtain rfl : i = ns.length := by omega
            have hb5r : Below w5.heap.size w5 wr := HB57.out.trans (HA.out.kept.below HB57.out.size (fun j hj e => by have := Hgg.out; omega))
            have HB5r := Lib.hid hb5r
            clear hb5r
            go_wp2_with fail
            go_roundw
            case rel => exact ⟨k + 1, by omega, by go_num, HB5r.out⟩
            case measure => simp [intOf]; omega
      · obtain rfl : k = 2 := by omega
        have hb : Below w.heap.size w wr := HB5.out.trans (HBr.out.mono HB5.out.size)
        have HBf := Lib.hid hb
        clear hb hbr
        go_wp2_with (first
          | (go_at_call 17; refine (lives_any _).mono ?_; rintro e w7 ⟨rfl, hb7⟩; have B7 := Lib.hid hb7; clear hb7))
        go_ret
        exact ⟨rfl, HBf.out.trans (B7.out.mono HBf.out.size)⟩
end Go.Proofs.Ytdnbkiaolimfjaa

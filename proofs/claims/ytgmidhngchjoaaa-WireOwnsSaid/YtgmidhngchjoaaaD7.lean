/-
  The law WireOwns: its walk.
-/
import Derived.Test.YtgmidhngchjoaaaD1
import Derived.Test.YtgmidhngchjoaaaE0
import Derived.Deep.CutBlock
namespace Go.Proofs.Ytgmidhngchjoaaa
open Go.RowKit
set_option linter.unusedSimpArgs false
set_option linter.unusedVariables false
/-- a slice of one's own whose elements may be written -/
def Wtb (w : World) (k : Option Nat) (a : Option Addr) (n c : Nat) : Prop :=
  n ≤ c ∧ c ≤ maxLen ∧ (0 < n → ∃ g cur, k = some g ∧ a = some ⟨g, 0, none⟩ ∧ w.heap[g]? = some (.cells cur 5 (0, 0)) ∧ n ≤ cur.size)
theorem Wtb.kept {S : Nat → Prop} {w w' : World} {k : Option Nat} {a : Option Addr} {n c : Nat} (h : Wtb w k a n c) (hk : Kept S w w') (hs : ∀ j, k = some j → ¬ S j) : Wtb w' k a n c := by
  refine ⟨h.1, h.2.1, fun hn => ?_⟩
  obtain ⟨g, cur, h1, h2, h3, h4⟩ := h.2.2 hn
  exact ⟨g, cur, h1, h2, hk.heap h3 (hs g h1), h4⟩
theorem Wtb.set {w : World} {k : Option Nat} {a : Option Addr} {n c g i : Nat} (h : Wtb w k a n c) (hk : k = some g) (u : Value) : Wtb (w.setCell ⟨g, i, none⟩ u) k a n c := by
  refine ⟨h.1, h.2.1, fun hn => ?_⟩
  obtain ⟨g', cur, h1, h2, h3, h4⟩ := h.2.2 hn
  obtain rfl : g' = g := Option.some.inj (h1.symm.trans hk)
  exact ⟨g', _, h1, h2, heap_setCell_same w g' i _ _ u h3, by simpa using h4⟩
theorem Own.wtb {w : World} {k : Option Nat} {l : List UInt8} {a : Option Addr} {c : Nat} (h : Own w 5 1 k (.slice a l.length c) l.length (vals l)) : Wtb w k a l.length c := by
  rcases h.2 with ⟨rfl, hv, hn⟩ | ⟨g, cap, cur, rfl, hv, hg, hn, hm, hsz, _⟩
  · simp only [Value.slice.injEq] at hv
    exact ⟨by omega, by rw [hv.2.2]; exact Nat.zero_le _, fun h => by omega⟩
  · simp only [Value.slice.injEq] at hv
    obtain ⟨rfl, -, rfl⟩ := hv
    exact ⟨hn, hm, fun _ => ⟨g, cur, rfl, rfl, hg, by omega⟩⟩
attribute [local go_sem ↓] exec_at_zero exec_at_succ Go.wp_at_zero Go.wp_at_succ exec_load34
set_option maxRecDepth 100000 in
set_option maxHeartbeats 4000000 in
theorem owns_any (a : Option Addr) (n c : Nat) (ms : List VM) (w : World) (hV : Vs (Old w) w a n c ms) :
    Calls Try.prog 10 #[.slice a n c] w fun x w' => x = .returned (.bool true) ∧ Below w.heap.size w w' := by
  have HV := Lib.hid hV
  clear hV
  go_enter Try.func10, Try.ntmps10
  go_upto_region 2 with (go_at_call 11; refine (few_vals _ a n c ms _ HV.out (fun b h => h)).mono ?_; rintro e w1 ⟨v1, rfl, hf1⟩; obtain ⟨va, vc, ns, rfl, he1, -⟩ := hf1.few12; have E1 := Lib.hid he1; clear hf1 he1)
  go_wp2_with fail
  obtain ⟨L, hL⟩ : ∃ L, L = ns.flatMap encV := ⟨_, rfl⟩
  have hL2 : L.length ≤ 1000000000 := by
    rw [hL]
    have h1 := encVs_len _ _ ns (fun m hm => ⟨E1.out.vs.2.2 m hm, (E1.out.fit m hm).2⟩)
    have := E1.out.len
    omega
  obtain ⟨gw, hgw⟩ : ∃ gw, gw = w1.heap.size := ⟨_, rfl⟩
  obtain ⟨w2, hw2⟩ : ∃ w2, w2 = w1.alloc (.cells #[.slice none 0 0] 27) := ⟨_, rfl⟩
  have hb2 : Below w1.heap.size w1 w2 := by rw [hw2]; exact (Below.refl _ _).alloc (Nat.le_refl _) _
  have hz2 : w2.heap.size = w1.heap.size + 1 := by rw [hw2, size_alloc1]
  have hN : Wr w2 w1.heap.size none [] := by rw [hw2]; exact Wr.new w1
  rw [← hw2]
  rw [← hgw] at hN hz2 ⊢
  have hV2 : Vs (fun b => w.heap.size ≤ b ∧ b < gw) w2 va ns.length vc ns := by rw [hgw]; exact E1.out.vs.below hb2
  have hB02 : Below w.heap.size w w2 := E1.out.bel.trans (hb2.mono E1.out.bel.size)
  have hwg : w.heap.size ≤ gw := by rw [hgw]; exact E1.out.bel.size
  have nle : ns.length ≤ 12 := E1.out.len
  have nc1 : ns.length ≤ vc := hV2.2.1.2.1
  have nc2 : vc ≤ 9223372036854775807 := hV2.2.1.2.2.1
  have HFit := Lib.hid E1.out.fit
  have HV2 := Lib.hid hV2
  have HB02 := Lib.hid hB02
  have HN := Lib.hid (Wrote.refl hN)
  have HZ2 := Lib.hid hz2
  have HL := Lib.hid hL
  have HL2 := Lib.hid hL2
  clear hgw hw2 hb2 hz2 hN hV2 hB02 hL hL2 E1 HV
  go_loopw [5] (fun t wr => ∃ j : Nat, j ≤ ns.length ∧ t = .int .i64 (j : Int) ∧ Wrote gw none w2 ((ns.take j).flatMap encV) wr) (fun t _ => ns.length - (intOf t).toNat)
  case atStart => exact ⟨0, Nat.zero_le _, rfl, HN.out⟩
  case round =>
    obtain ⟨j, hj, rfl, hA⟩ := hrel
    have HA := Lib.hid hA
    clear hA HN
    by_cases hlt : j < ns.length
    · obtain ⟨k1, hw, hlk⟩ := HA.out
      have hV3 : Vs (fun b => w.heap.size ≤ b ∧ b < gw) wr va ns.length vc ns := HV2.out.kept hlk.kept (fun b hb hd => by simp; omega)
      obtain ⟨b, off, hDb, hbw, rfl, hr⟩ := hV3.at (by omega)
      have hr2 := hr j hlt
      have hOk := hV3.2.2 ns[j] (List.getElem_mem hlt)
      have hSh := (HFit.out ns[j] (List.getElem_mem hlt)).2
      have htk := take_encV ns j hlt
      have hlen : ((ns.take j).flatMap encV).length ≤ 100000000000 := by
        have e : ((ns.take j).flatMap encV).length ≤ L.length := by
          rw [HL.out, ← List.take_append_drop j ns, List.flatMap_append, List.length_append]
          simp
        have := HL2.out
        omega
      have hdis : ∀ b, (w.heap.size ≤ b ∧ b < gw) → b ≠ gw ∧ k1 ≠ some b := fun b hb => ⟨by omega, fun e => by
        rcases hlk.fresh b e with h | h
        · cases h
        · have := HZ2.out; omega⟩
      generalize ns[j] = m at *
      have HC := Lib.hid (write_any gw k1 _ _ m wr hw hlen hOk hSh hdis)
      have Hlk := Lib.hid hlk
      have Hr2 := Lib.hid hr2
      have Htk := Lib.hid htk
      clear hw hlk hV3 hr hr2 hOk hSh htk hlen hdis HA hDb hbw
      go_wp2_with (first
        | (refine wpList_load_mid rfl 34 (.tmp 21) rfl b (off + j * 6) rfl _ _ Hr2.out Try.underlying34 rfl (by rw [VM.cells_len]; kernel_rfl) ?_; rw [VM.cells_arr])
        | (go_at_call 12; refine HC.out.mono ?_; rintro e w3 ⟨rfl, h3⟩; have H3 := Lib.hid h3; clear h3))
      go_roundw
      case rel => exact ⟨j + 1, by omega, by go_num, by rw [Htk.out]; exact H3.out.after Hlk.out⟩
      case measure => simp [intOf]; omega
    · obtain rfl : j = ns.length := by omega
      have hA := HA.out
      rw [List.take_length, ← HL.out] at hA
      obtain ⟨k1, hw, hlk⟩ := hA
      obtain ⟨w3, rfl⟩ : ∃ w3, w3 = wr := ⟨_, rfl⟩
      have HW3 := Lib.hid hw
      have HL3 := Lib.hid hlk
      have HDone := Lib.hid (done_any gw k1 L w3 hw (by have := HL2.out; omega))
      clear hw hlk HA
      go_upto_region 12 with (first
        | (go_at_call 20; refine (newReader_any _ _ _ _ L _ S5.out (by have := HL2.out; omega)).mono ?_; rintro e w6 ⟨g, rfl, k8, hr6, hg6, hf6, hb6⟩; have R6 := Lib.hid hr6; have G6 := Lib.hid hg6; have F6 := Lib.hid hf6; have B6 := Lib.hid hb6; clear hr6 hg6 hf6 hb6)
        | (go_at_call 19; refine HF4.out.mono ?_; rintro e w5 ⟨v5, rfl, k7, ho7, hf7, hb5⟩; obtain ⟨a7, c7, rfl, hs7⟩ := Own.bs ho7; have O7 := Lib.hid ho7; have S5 := Lib.hid hs7; have F7 := Lib.hid hf7; have B5 := Lib.hid hb5; clear ho7 hs7 hf7 hb5)
        | (go_at_call 15; refine HDone.out.mono ?_; rintro e w4 ⟨v4, rfl, k6, ho6, hf6, hb4⟩; obtain ⟨a6, c6, rfl, hs6⟩ := Own.bs ho6; have hfw := few_any _ a6 L.length c6 L.length L w4 hs6 (by have := HL2.out; omega); rw [List.take_length] at hfw; have HF4 := Lib.hid hfw; have O6 := Lib.hid ho6; have F6b := Lib.hid hf6; have B4 := Lib.hid hb4; clear ho6 hs6 hf6 hb4 hfw))
      go_wp2_with fail
      have hk1 : ∀ j, k1 = some j → w2.heap.size ≤ j ∧ j < w3.heap.size := fun j hj => ⟨(HL3.out.fresh j hj).elim (fun h => by cases h) id, by obtain ⟨v, _, ho, _⟩ := HW3.out; exact ho.lt j hj⟩
      have hk6 : ∀ j, k6 = some j → w3.heap.size ≤ j ∧ j < w4.heap.size := fun j hj => ⟨F6b.out j hj, O6.out.lt j hj⟩
      have hk7 : ∀ j, k7 = some j → w4.heap.size ≤ j ∧ j < w5.heap.size := fun j hj => ⟨F7.out j hj, O7.out.lt j hj⟩
      have hk8 : ∀ j, k8 = some j → w5.heap.size ≤ j ∧ j < w6.heap.size := F6.out
      have hg : w5.heap.size ≤ g ∧ g < w6.heap.size := ⟨G6.out, R6.out.lt⟩
      have s23 : w2.heap.size ≤ w3.heap.size := HL3.out.kept.size
      have s34 : w3.heap.size ≤ w4.heap.size := B4.out.size
      have s45 : w4.heap.size ≤ w5.heap.size := B5.out.size
      have s56 : w5.heap.size ≤ w6.heap.size := B6.out.size
      have z2 := HZ2.out
      have b36 : Below w3.heap.size w3 w6 := (B4.out.trans (B5.out.mono s34)).trans (B6.out.mono (by omega))
      have hw6 : Wr w6 gw k1 L := HW3.out.kept (Kept.of_below (fun _ => False) b36) (fun h => h) (fun _ _ h => h)
      have ht6 : Wtb w6 k6 a6 L.length c6 := (Own.wtb O6.out).kept (Kept.of_below (fun _ => False) (B5.out.trans (B6.out.mono s45))) (fun _ _ h => h)
      have ht7 : Wtb w6 k7 a7 L.length c7 := (Own.wtb O7.out).kept (Kept.of_below (fun _ => False) B6.out) (fun _ _ h => h)
      have hv6 : Vs (fun b => w.heap.size ≤ b ∧ b < gw) w6 va ns.length vc ns := (HV2.out.kept HL3.out.kept (fun b hb hd => by simp; omega)).below b36
      have hb06 : Below w.heap.size w w6 := (HB02.out.trans (HL3.out.kept.below HB02.out.size (fun j hj e => by rcases e with e | e; (· omega); (· cases e)))).trans (b36.mono (by have := HB02.out.size; omega))
      have HW6 := Lib.hid hw6
      have HT6 := Lib.hid ht6
      have HT7 := Lib.hid ht7
      have HV6 := Lib.hid hv6
      have HB06 := Lib.hid hb06
      have HK1 := Lib.hid hk1
      have HK6 := Lib.hid hk6
      have HK7 := Lib.hid hk7
      have HK8 := Lib.hid hk8
      have hL2 : L.length ≤ 1000000000 := HL2.out
      have l6 : L.length ≤ c6 := ht6.1
      have l6' : c6 ≤ 9223372036854775807 := ht6.2.1
      have l7 : L.length ≤ c7 := ht7.1
      have l7' : c7 ≤ 9223372036854775807 := ht7.2.1
      clear hw6 ht6 ht7 hv6 hb06 b36 hk1 hk6 hk7 hk8 HW3 HL3 HDone HV2 HB02 O6 O7 F6 F6b F7 G6 B4 B5 B6 S5 HF4
      go_loopw [9] (fun t wr => ∃ i : Nat, i ≤ L.length ∧ t = .int .i64 (i : Int) ∧ Wtb wr k6 a6 L.length c6 ∧ Wtb wr k7 a7 L.length c7 ∧ Kept (fun b => k6 = some b ∨ k7 = some b) w6 wr) (fun t _ => L.length - (intOf t).toNat)
      case atStart => exact ⟨0, Nat.zero_le _, rfl, HT6.out, HT7.out, Kept.refl _ _⟩
      case round =>
        obtain ⟨i, hi, rfl, h6, h7, hkp⟩ := hrel
        have H6 := Lib.hid h6
        have H7 := Lib.hid h7
        have HKp := Lib.hid hkp
        clear h6 h7 hkp HT6 HT7
        by_cases hlt : i < L.length
        · obtain ⟨g6, cur6, e6, rfl, hg6, hn6⟩ := H6.out.2.2 (by omega)
          obtain ⟨g7, cur7, e7, rfl, hg7, hn7⟩ := H7.out.2.2 (by omega)
          have hne : ¬ g7 = g6 := by have := HK6.out g6 e6; have := HK7.out g7 e7; omega
          have c6 : wr.cell? ⟨g6, i, none⟩ = some (cur6[i]'(by omega)) := by rw [cell_of_row wr g6 i _ _ _ hg6]; exact Array.getElem?_eq_getElem _
          have c7 : wr.cell? ⟨g7, i, none⟩ = some (cur7[i]'(by omega)) := by rw [cell_of_row wr g7 i _ _ _ hg7]; exact Array.getElem?_eq_getElem _
          have f6 : wr.frozen? ⟨g6, i, none⟩ = false := frozen_of_row wr g6 i _ _ hg6
          have f7 : wr.frozen? ⟨g7, i, none⟩ = false := frozen_of_row wr g7 i _ _ hg7
          generalize (cur6[i]'(by omega)) = x6 at *
          generalize (cur7[i]'(by omega)) = x7 at *
          have E6 := Lib.hid e6
          have E7 := Lib.hid e7
          clear hg6 hg7 hn6 hn7 e6 e7
          go_wp2
          go_roundw
          case rel =>
            refine ⟨i + 1, by omega, by go_num, (H6.out.set E6.out _).kept ((Kept.refl (fun b => b = g7) _).setCell (fun _ => rfl) _) (fun j hj e => ?_), (H7.out.kept ((Kept.refl (fun b => b = g6) wr).setCell (fun _ => rfl) _) (fun j hj e => ?_)).set E7.out _, (HKp.out.setCell (fun _ => .inl E6.out) _).setCell (fun _ => .inr E7.out) _⟩
            · have := HK6.out j hj; have := HK7.out g7 E7.out; omega
            · have := HK7.out j hj; have := HK6.out g6 E6.out; omega
          case measure => simp [intOf]; omega
        · obtain ⟨w7, rfl⟩ : ∃ w7, w7 = wr := ⟨_, rfl⟩
          have out67 : ∀ j, (k6 = some j ∨ k7 = some j) → w3.heap.size ≤ j ∧ j < w5.heap.size := fun j hj => by
            rcases hj with h | h
            · have := HK6.out j h; omega
            · have := HK7.out j h; omega
          have hW7 : Wr w7 gw k1 L := HW6.out.kept HKp.out (fun e => by have := out67 gw e; omega) (fun j hj e => by have := out67 j e; have := HK1.out j hj; omega)
          have hR7 : Rd w7 g k8 ((ns.drop 0).flatMap encV) 0 := by
            rw [List.drop_zero, ← HL.out]
            exact R6.out.kept HKp.out (fun e => by have := out67 g e; omega) (fun j hj e => by have := out67 j e; have := HK8.out j hj; omega)
          have hV7 : Vs (fun b => w.heap.size ≤ b ∧ b < gw) w7 va ns.length vc ns := HV6.out.kept HKp.out (fun b _ hd e => by have := out67 b e; omega)
          have hB07 : Below w.heap.size w w7 := HB06.out.trans (HKp.out.below HB06.out.size (fun j hj e => by have := out67 j e; omega))
          have s67 : w6.heap.size ≤ w7.heap.size := HKp.out.size
          have HW7 := Lib.hid hW7
          have HR7 := Lib.hid hR7
          have HV7 := Lib.hid hV7
          have HB07 := Lib.hid hB07
          clear hW7 hR7 hV7 hB07 out67 HW6 R6 HV6 HB06 H6 H7 HKp
          go_wp2_with fail
          go_loopw [10] (fun t wr => ∃ i : Nat, i ≤ ns.length ∧ t = .int .i64 (i : Int) ∧ Rd wr g k8 ((ns.drop i).flatMap encV) 0 ∧ Kept (fun b => b = g) w7 wr) (fun t _ => ns.length - (intOf t).toNat)
          case atStart => exact ⟨0, Nat.zero_le _, rfl, HR7.out, Kept.refl _ _⟩
          case round =>
            obtain ⟨i2, hi2, rfl, hrd, hkp⟩ := hrel
            have HRd := Lib.hid hrd
            have HKp := Lib.hid hkp
            clear hrd hkp HR7
            have s7r : w7.heap.size ≤ wr.heap.size := HKp.out.size
            by_cases hlt2 : i2 < ns.length
            · have hVr : Vs (fun b => w.heap.size ≤ b ∧ b < gw) wr va ns.length vc ns := HV7.out.kept HKp.out (fun b _ hd e => by omega)
              obtain ⟨b, off, hDb, hbw, rfl, hr⟩ := hVr.at (by omega)
              have hr2 := hr i2 hlt2
              have hOk := hVr.2.2 ns[i2] (List.getElem_mem hlt2)
              have hFi := (HFit.out ns[i2] (List.getElem_mem hlt2)).1
              have hdr := drop_encV ns i2 hlt2
              have hlen : ((ns.drop i2).flatMap encV).length ≤ 100000000000 := by
                have e : ((ns.drop i2).flatMap encV).length ≤ L.length := by
                  rw [HL.out, ← List.take_append_drop i2 ns, List.flatMap_append, List.length_append]
                  simp
                omega
              rw [hdr] at hlen
              have hrd2 : Rd wr g k8 (encV ns[i2] ++ (ns.drop (i2 + 1)).flatMap encV) 0 := by rw [← hdr]; exact HRd.out
              generalize ns[i2] = m at *
              have hrv := rVal_at m ((ns.drop (i2 + 1)).flatMap encV) hFi
              have hps := psame_strip m.k m.pv
              have hCr := fun W (h : Rd W g k8 (encV m ++ (ns.drop (i2 + 1)).flatMap encV) 0) (hk : ∀ j, k8 = some j → j < W.heap.size) => read_any g k8 (encV m ++ (ns.drop (i2 + 1)).flatMap encV) 0 m 20 W h hk hOk.k hlen (by decide) (by decide)
              rw [hrv] at hCr
              have hbg : ¬ b = g := by omega
              have HCr := Lib.hid hCr
              have Hps := Lib.hid hps
              have HOk := Lib.hid hOk
              have Hrd2 := Lib.hid hrd2
              have Hr2 := Lib.hid hr2
              have HBg := Lib.hid hbg
              have HBw := Lib.hid hbw
              have ld0 := run_load34 hr2
              have ld1 := run_load34 (w := wr.drew) hr2
              clear hr hr2 hOk hFi hdr hlen hrd2 hrv hps hCr hVr HRd hbg hbw hDb
              go_upto_region 20 with (fail)
              go_region_with (first
                | (go_at_call 23; refine (C4.out).mono ?_; rintro e w5 ⟨rfl, hb5⟩; have B5 := Lib.hid hb5; clear hb5)
                | (go_at_call 21; refine (HCr.out _ Hrd2.out.drew (fun j hj => by have := HK8.out j hj; have : wr.drew.heap.size = wr.heap.size := rfl; omega)).mono ?_; rintro e w4 ⟨m', rfl, hk4, hp4, ho4, h4⟩; have H4 := Lib.hid h4; have ld4 := run_load34 (range_kept (w := wr.drew) Hr2.out HBw.out h4.2 HBg.out); have hc4 := same_any _ _ m m' w4 (HOk.out.kept ((Kept.refl (fun b => b = g) wr).drew.trans h4.2 (fun _ _ h => h)) (fun b _ hd e => by omega)) ho4; rw [hp4, Hps.out] at hc4; have C4 := Lib.hid hc4; clear hc4 ho4 h4 hp4 hk4))
              all_goals
                go_wp2_with fail
                go_roundw
                case rel => exact ⟨i2 + 1, by omega, by go_num, H4.out.1.kept (Kept.of_below (fun _ => False) B5.out) (fun h => h) (fun _ _ h => h), (HKp.out.trans ((Kept.refl (fun b => b = g) wr).drew.trans H4.out.2 (fun _ _ h => h)) (fun _ _ h => h)).trans (Kept.of_below _ B5.out) (fun _ _ h => h)⟩
                case measure => simp [intOf]; omega
            · obtain rfl : i2 = ns.length := by omega
              have hE := end_any g k8 _ 0 wr HRd.out
              rw [List.drop_length] at hE
              have e0 : endE 0 (([] : List VM).flatMap encV).length = 0 := rfl
              rw [e0] at hE
              have hWr : Wr wr gw k1 L := HW7.out.kept HKp.out (fun e => by omega) (fun j hj e => by have := HK1.out j hj; omega)
              have hVr : Vs (fun b => w.heap.size ≤ b ∧ b < gw) wr va ns.length vc ns := HV7.out.kept HKp.out (fun b _ hd e => by omega)
              have hBr : Below w.heap.size w wr := HB07.out.trans (HKp.out.below HB07.out.size (fun j hj e => by omega))
              have hCw := fun w9 (hb : Below wr.heap.size wr w9) => written_any _ va _ vc ns w9 (hVr.below hb) (fun m hm => (HFit.out m hm).2) (by omega)
              simp only [← HL.out] at hCw
              have HE := Lib.hid hE
              have HWr := Lib.hid hWr
              have HBr := Lib.hid hBr
              have HCw := Lib.hid hCw
              clear hE e0 hWr hVr hBr hCw
              go_wp2_with (first
                | (go_at_call 17; refine (lives_any _).mono ?_; rintro e w12 ⟨rfl, hb12⟩; have B12 := Lib.hid hb12; clear hb12)
                | (go_at_call 14; refine (sameBytes_any _ _ _ _ _ _ _ _ _ _ _ (S9.out.kept (Kept.of_below (fun _ => False) B10.out) (fun _ _ _ h => h)) S10.out).mono ?_; rintro e w11 ⟨rfl, rfl⟩)
                | (go_at_call 16; refine (HCw.out _ B9.out).mono ?_; rintro e w10 ⟨v10, rfl, h10⟩; obtain ⟨a10, c10, rfl, hs10⟩ := h10.bs; obtain ⟨-, -, -, hb10⟩ := h10; have S10 := Lib.hid hs10; have B10 := Lib.hid hb10; clear hs10 hb10)
                | (go_at_call 15; refine (done_any gw k1 L _ HWr.out (by omega)).mono ?_; rintro e w9 ⟨v9, rfl, h9⟩; obtain ⟨a9, c9, rfl, hs9⟩ := h9.bs; obtain ⟨-, -, -, hb9⟩ := h9; have S9 := Lib.hid hs9; have B9 := Lib.hid hb9; clear hs9 hb9)
                | (go_at_call 25; refine HE.out.mono ?_; rintro e w8 ⟨rfl, rfl⟩))
              go_ret
              have s1 := HBr.out.size
              have s2 := B9.out.size
              have s3 := B10.out.size
              exact ⟨rfl, ((HBr.out.trans (B9.out.mono s1)).trans (B10.out.mono (by omega))).trans (B12.out.mono (by omega))⟩
end Go.Proofs.Ytgmidhngchjoaaa

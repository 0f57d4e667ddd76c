/-
  The law WireCanonical: its walk.
-/
import Derived.Test.YtgmidhngchjoaaaM5
namespace Go.Proofs.Ytgmidhngchjoaaa
open Go.RowKit
set_option linter.unusedSimpArgs false
set_option linter.unusedVariables false
theorem Wr.klt2 {w : World} {g : Nat} {k : Option Nat} {l : List UInt8} (h : Wr w g k l) : ∀ j, k = some j → j < w.heap.size := by
  obtain ⟨v, _, ho, _⟩ := h
  exact ho.lt
/-- where the loop of WireCanonical stands: a reader in block g, a writer in block gw; as long as there is no error, what was written and what is left are the whole -/
structure CanAt (L : List UInt8) (g : Nat) (k3 : Option Nat) (gw : Nat) (w4 wr : World) (l : List UInt8) (e : Nat) (k1 : Option Nat) (P : List UInt8) : Prop where
  rd : Rd wr g k3 l e
  wri : Wr wr gw k1 P
  f1 : ∀ j, k1 = some j → w4.heap.size ≤ j
  eq : e = 0 → L = P ++ l
  len : l.length ≤ L.length
  kept : Kept (fun b => b = g ∨ b = gw) w4 wr
set_option maxRecDepth 100000 in
set_option maxHeartbeats 2000000 in
theorem canonical_any (a : Option Addr) (n c : Nat) (l : List UInt8) (a2 : Option Addr) (n2 c2 : Nat) (ms : List VM) (most : Int) (w : World) (hB : Bs (Old w) w a n c l) (hV : Vs (Old w) w a2 n2 c2 ms)
    (hm1 : -9223372036854775808 ≤ most) (hm2 : most ≤ 9223372036854775807) :
    Calls Try.prog 7 #[.slice a n c, .slice a2 n2 c2, .int .i64 most] w fun x w' => x = .returned (.bool true) ∧ Below w.heap.size w w' := by
  have HV := Lib.hid hV
  have nc1 : n2 ≤ c2 := hV.2.1.2.1
  have nc2 : c2 ≤ 9223372036854775807 := hV.2.1.2.2.1
  have hlt : (l.take 40).length ≤ 40 := by rw [List.length_take]; omega
  obtain ⟨L, hL⟩ : ∃ L, L = l.take 40 := ⟨_, rfl⟩
  have hFew := few_any _ a n c 40 l w hB (by decide)
  rw [← hL] at hFew hlt
  have HFew := Lib.hid hFew
  have HLt := Lib.hid hlt
  clear hB hV hFew hlt hL
  go_enter Try.func7, Try.ntmps7
  go_upto_region 6 with (first
    | (go_at_call 20; refine (newReader_any _ _ _ _ _ _ S2.out (by have := HLt.out; omega)).mono ?_; rintro e w3 ⟨g, rfl, k3, hr3, hg3, hf3, hb3⟩; have R3 := Lib.hid hr3; have G3 := Lib.hid hg3; have F3 := Lib.hid hf3; have B3 := Lib.hid hb3; clear hr3 hg3 hf3 hb3)
    | (go_at_call 19; refine HFew.out.mono ?_; rintro e w2 ⟨v2, rfl, hm2⟩; obtain ⟨k2, ho2, hf2, hb2⟩ := hm2; obtain ⟨b2, d2, rfl, hs2⟩ := Own.bs ho2; have S2 := Lib.hid (hs2.dom (D' := fun b => w.heap.size ≤ b ∧ b < w2.heap.size) (fun b hb => ⟨hf2 b hb, ho2.lt b hb⟩)); have B2 := Lib.hid hb2; clear hs2 hb2 ho2 hf2))
  go_wp2_with fail
  obtain ⟨w4, hw4⟩ : ∃ w4, w4 = w3.alloc (.cells #[.slice none 0 0] 27) := ⟨_, rfl⟩
  have hb4 : Below w3.heap.size w3 w4 := by rw [hw4]; exact (Below.refl _ _).alloc (Nat.le_refl _) _
  have hz4 : w4.heap.size = w3.heap.size + 1 := by rw [hw4, size_alloc1]
  have hN : Wr w4 w3.heap.size none [] := by rw [hw4]; exact Wr.new w3
  rw [← hw4]
  obtain ⟨gw, hgw⟩ : ∃ gw, gw = w3.heap.size := ⟨_, rfl⟩
  have hR4 : Rd w4 g k3 L 0 := R3.out.kept (Kept.of_below (fun _ => False) hb4) (fun h => h) (fun _ _ h => h)
  have hg2 : w2.heap.size ≤ g := G3.out
  have hggw : g < w3.heap.size := R3.out.lt
  have hs23 : w2.heap.size ≤ w3.heap.size := B3.out.size
  have hB14 : Below w.heap.size w w4 := (B2.out.trans (B3.out.mono B2.out.size)).trans (hb4.mono (Nat.le_trans B2.out.size B3.out.size))
  have hs12 : w.heap.size ≤ w2.heap.size := B2.out.size
  have hS4 : Bs (fun b => w.heap.size ≤ b ∧ b < w2.heap.size) w4 b2 L.length d2 L := (S2.out.kept (Kept.of_below (fun _ => False) B3.out) (fun _ _ _ h => h)).kept (Kept.of_below (fun _ => False) hb4) (fun _ _ _ h => h)
  have hk3 : ∀ j, k3 = some j → w2.heap.size ≤ j ∧ j < w3.heap.size := F3.out
  rw [← hgw] at hz4 hN hggw hk3 hs23 ⊢
  have hA0 : CanAt L g k3 gw w4 w4 L 0 none [] := ⟨hR4, hN, (fun _ h => by cases h), fun _ => rfl, Nat.le_refl _, Kept.refl _ _⟩
  have HA0 := Lib.hid hA0
  have HB14 := Lib.hid hB14
  have HS4 := Lib.hid hS4
  have HK3 := Lib.hid hk3
  have HZ4 := Lib.hid hz4
  clear hw4 hb4 hz4 hN hR4 hB14 hS4 hk3 hA0 R3 G3 F3 B3 S2 B2 hgw
  go_loopw [10] (fun t wr => ∃ i : Nat, i ≤ n2 ∧ i ≤ 12 ∧ t = .int .i64 (i : Int) ∧ ∃ l e k1 P, CanAt L g k3 gw w4 wr l e k1 P ∧ P.length ≤ 20000000 * i) (fun t _ => 12 - (intOf t).toNat)
  case atStart => exact ⟨0, Nat.zero_le _, by omega, rfl, L, 0, none, [], HA0.out, Nat.zero_le _⟩
  case round =>
    obtain ⟨i, hi, hi12, rfl, l', e, k1, P, hA, hPl⟩ := hrel
    have HA := Lib.hid hA
    have HPl := Lib.hid hPl
    clear hA HA0 hPl
    by_cases hlt : i < n2 ∧ i < 12
    · obtain ⟨hlt1, hlt2⟩ := hlt
      have him : i < ms.length := by have := HV.out.1; omega
      have hVr : Vs (fun b => b < w.heap.size) wr a2 n2 c2 ms := (HV.out.below HB14.out).kept HA.out.kept (fun b _ hd e => by have hd2 : b < w.heap.size := hd; omega)
      obtain ⟨b, off, hDb, hbw, rfl, hr⟩ := hVr.at (by omega)
      have hr2 := hr i him
      have hOk := hVr.2.2 ms[i] (List.getElem_mem him)
      generalize ms[i] = m at *
      have hsz := HA.out.kept.size
      have hCr := read_any g k3 l' e m most wr HA.out.rd (fun j hj => by have := HK3.out j hj; have := HZ4.out; omega) hOk.k (by have := HLt.out; have := HA.out.len; omega) hm1 hm2
      have hdec := rVal_dec m.k ⟨l', e⟩ most
      have hvl := rVal_len m.k ⟨l', e⟩ most
      have hsz2 := rVal_sz m.k ⟨l', e⟩ most
      simp only at hdec hvl hsz2
      generalize rVal m.k ⟨l', e⟩ most = R at *
      obtain ⟨p, l2, e2⟩ := R
      simp only at hCr hdec hvl hsz2
      have HCr := Lib.hid hCr
      have Hr2 := Lib.hid hr2
      have Hdec := Lib.hid hdec
      have Hvl := Lib.hid hvl
      have Hsz2 := Lib.hid hsz2
      clear hr hr2 hOk hCr hVr hDb hbw hdec hvl hsz2
      go_wp2_with (first
        | (go_at_call 12; refine H5.out.mono ?_; rintro e w6 ⟨rfl, k6, hw6, hl6⟩; have W6 := Lib.hid hw6; have L6 := Lib.hid hl6; clear hw6 hl6)
        | (go_at_call 21; refine HCr.out.mono ?_; rintro e w5 ⟨m', rfl, hk5, hp5, ho5, h5⟩; have R5 := Lib.hid h5; have hw5 : Wr w5 gw k1 P := HA.out.wri.kept h5.2 (fun e => by omega) (fun j hj e => by have := HA.out.f1 j hj; have := HZ4.out; omega); have hsh : VShort m' := VShort.of_pv ho5 (by rw [hp5]; have := Hsz2.out.1; have := HA.out.len; have := HLt.out; omega) (by rw [hp5]; have := Hsz2.out.2; have := HA.out.len; have := HLt.out; omega); have H5 := Lib.hid (write_any gw k1 P _ m' w5 hw5 (by have := HPl.out; omega) ho5 hsh (fun b hb => ⟨by have := HZ4.out; omega, fun e => by have := HA.out.wri.klt2 b e; omega⟩)); have E5 : Hid (encV m' = encP m.k p) := Lib.hid (by rw [encV_eq, hk5, hp5]); have X5 := Lib.hid (encV_len _ _ m' ho5 hsh); clear h5 hw5 ho5 hsh hp5 hk5)
        | (refine wpList_load_mid rfl 34 (.tmp 30) rfl b (off + i * 6) rfl _ _ Hr2.out Try.underlying34 rfl (by rw [VM.cells_len]; kernel_rfl) ?_; rw [VM.cells_arr]))
      go_roundw
      case rel =>
        have s5 := R5.out.2.size
        have f1 := HA.out.f1
        have z4 := HZ4.out
        refine ⟨i + 1, by omega, by omega, by go_num, l2, e2, k6, P ++ encV m', ⟨R5.out.1.kept L6.out.kept (fun e => e.elim (by omega) (fun e => by have := f1 g e; omega)) (fun j hj e => ?_), W6.out, fun j hj => (L6.out.fresh j hj).elim (f1 j) (fun h => by omega), fun he => ?_, Nat.le_trans Hvl.out HA.out.len, ?_⟩, ?_⟩
        · have := HK3.out j hj
          rcases e with e | e
          · omega
          · have := f1 j e; omega
        · obtain ⟨h1, h2⟩ := Hdec.out he
          rw [HA.out.eq h1, h2, E5.out, List.append_assoc]
        · refine (HA.out.kept.trans R5.out.2 (fun _ _ h => .inl h)).trans L6.out.kept (fun j hj e => ?_)
          rcases e with e | e
          · exact .inr e
          · have := f1 j e; omega
        · rw [List.length_append]; have := HPl.out; have := X5.out; omega
      case measure => simp [intOf]; omega
    · have hkb : Below w.heap.size w wr := HB14.out.trans (HA.out.kept.below HB14.out.size (fun j hj e => by omega))
      have HKB := Lib.hid hkb
      have hSr : Bs (fun b => w.heap.size ≤ b ∧ b < w2.heap.size) wr b2 L.length d2 L := HS4.out.kept HA.out.kept (fun b _ hd e => by omega)
      have HSr := Lib.hid hSr
      clear hkb hSr
      by_cases hin : i < n2
      · obtain rfl : i = 12 := by omega
        by_cases hend : e = 0 ∧ l'.length = 0
        · obtain ⟨he0, hl0⟩ := hend
          have hE := end_any g k3 l' e wr HA.out.rd
          have e0 : endE e l'.length = 0 := by unfold endE; rw [if_neg (by omega)]; exact he0
          rw [e0] at hE
          have HE := Lib.hid hE
          have HLP : Hid (L = P) := Lib.hid (by have := HA.out.eq he0; rw [List.eq_nil_of_length_eq_zero hl0, List.append_nil] at this; exact this)
          clear hE e0
          go_wp2_with (first
            | (go_at_call 25; refine HE.out.mono ?_; rintro e w6 ⟨rfl, rfl⟩)
            | (go_at_call 15; refine (done_any gw k1 P _ HA.out.wri (by have := HPl.out; omega)).mono ?_; rintro e w6 ⟨v6, rfl, h6⟩; obtain ⟨a6, c6, rfl, hs6⟩ := h6.bs; obtain ⟨-, -, -, hb6⟩ := h6; have S6 := Lib.hid hs6; have B6 := Lib.hid hb6; have hsb := sameBytes_any _ _ _ _ _ _ _ _ _ _ w6 hs6 (HSr.out.kept (Kept.of_below (fun _ => False) hb6) (fun _ _ _ h => h)); rw [show (P == L) = true from (by rw [HLP.out]; exact beq_self_eq_true _)] at hsb; have HSb := Lib.hid hsb; clear hs6 hb6 hsb)
            | (go_at_call 14; refine HSb.out.mono ?_; rintro e w7 ⟨rfl, rfl⟩)
            | (go_at_call 17; refine (lives_any _).mono ?_; rintro e w7 ⟨rfl, hb7⟩; have B7 := Lib.hid hb7; clear hb7))
          go_ret
          exact ⟨rfl, (HKB.out.trans (B6.out.mono HKB.out.size)).trans (B7.out.mono (Nat.le_trans HKB.out.size B6.out.size))⟩
        · have hE := end_any g k3 l' e wr HA.out.rd
          obtain ⟨E, hE2⟩ : ∃ E, E = endE e l'.length := ⟨_, rfl⟩
          have hne : E ≠ 0 := by rw [hE2]; unfold endE; split <;> omega
          rw [← hE2] at hE
          have HE := Lib.hid hE
          have hne2 : ((E : Int) == 0) = false := by rw [beq_eq_false_iff_ne]; omega
          have hne3 : ((E : Int) != 0) = true := by rw [bne_iff_ne]; omega
          clear hE hE2
          go_wp2_with (first
            | (go_at_call 25; refine HE.out.mono ?_; rintro e w6 ⟨rfl, rfl⟩)
            | (go_at_call 17; refine (lives_any _).mono ?_; rintro e w7 ⟨rfl, hb7⟩; have B7 := Lib.hid hb7; clear hb7))
          go_ret
          exact ⟨rfl, HKB.out.trans (B7.out.mono HKB.out.size)⟩
      · skip
        by_cases hend : e = 0 ∧ l'.length = 0
        · obtain ⟨he0, hl0⟩ := hend
          have hE := end_any g k3 l' e wr HA.out.rd
          have e0 : endE e l'.length = 0 := by unfold endE; rw [if_neg (by omega)]; exact he0
          rw [e0] at hE
          have HE := Lib.hid hE
          have HLP : Hid (L = P) := Lib.hid (by have := HA.out.eq he0; rw [List.eq_nil_of_length_eq_zero hl0, List.append_nil] at this; exact this)
          clear hE e0
          go_wp2_with (first
            | (go_at_call 25; refine HE.out.mono ?_; rintro e w6 ⟨rfl, rfl⟩)
            | (go_at_call 15; refine (done_any gw k1 P _ HA.out.wri (by have := HPl.out; omega)).mono ?_; rintro e w6 ⟨v6, rfl, h6⟩; obtain ⟨a6, c6, rfl, hs6⟩ := h6.bs; obtain ⟨-, -, -, hb6⟩ := h6; have S6 := Lib.hid hs6; have B6 := Lib.hid hb6; have hsb := sameBytes_any _ _ _ _ _ _ _ _ _ _ w6 hs6 (HSr.out.kept (Kept.of_below (fun _ => False) hb6) (fun _ _ _ h => h)); rw [show (P == L) = true from (by rw [HLP.out]; exact beq_self_eq_true _)] at hsb; have HSb := Lib.hid hsb; clear hs6 hb6 hsb)
            | (go_at_call 14; refine HSb.out.mono ?_; rintro e w7 ⟨rfl, rfl⟩)
            | (go_at_call 17; refine (lives_any _).mono ?_; rintro e w7 ⟨rfl, hb7⟩; have B7 := Lib.hid hb7; clear hb7))
          go_ret
          exact ⟨rfl, (HKB.out.trans (B6.out.mono HKB.out.size)).trans (B7.out.mono (Nat.le_trans HKB.out.size B6.out.size))⟩
        · have hE := end_any g k3 l' e wr HA.out.rd
          obtain ⟨E, hE2⟩ : ∃ E, E = endE e l'.length := ⟨_, rfl⟩
          have hne : E ≠ 0 := by rw [hE2]; unfold endE; split <;> omega
          rw [← hE2] at hE
          have HE := Lib.hid hE
          have hne2 : ((E : Int) == 0) = false := by rw [beq_eq_false_iff_ne]; omega
          have hne3 : ((E : Int) != 0) = true := by rw [bne_iff_ne]; omega
          clear hE hE2
          go_wp2_with (first
            | (go_at_call 25; refine HE.out.mono ?_; rintro e w6 ⟨rfl, rfl⟩)
            | (go_at_call 17; refine (lives_any _).mono ?_; rintro e w7 ⟨rfl, hb7⟩; have B7 := Lib.hid hb7; clear hb7))
          go_ret
          exact ⟨rfl, HKB.out.trans (B7.out.mono HKB.out.size)⟩
end Go.Proofs.Ytgmidhngchjoaaa

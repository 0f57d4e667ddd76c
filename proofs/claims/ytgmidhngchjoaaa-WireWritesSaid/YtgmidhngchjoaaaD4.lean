/-
  The law WireWrites: its walk.
-/
import Derived.Test.YtgmidhngchjoaaaE0
namespace Go.Proofs.Ytgmidhngchjoaaa
open Go.RowKit
set_option linter.unusedSimpArgs false
set_option linter.unusedVariables false
theorem Made.of_alloc {w w' : World} {o : Obj} {v : Value} {l : List UInt8} (h : Made (w.alloc o) v l w') : Made w v l w' := by
  obtain ⟨k, h1, h2, h3⟩ := h
  rw [size_alloc1] at h2 h3
  exact ⟨k, h1, fun j hj => Nat.le_of_succ_le (h2 j hj), ((Below.refl _ _).alloc (Nat.le_refl _) o).trans (h3.mono (Nat.le_succ _))⟩
set_option maxRecDepth 100000 in
set_option maxHeartbeats 800000 in
theorem encoding_any (D : Nat → Prop) (m : VM) (w : World) (hm : VOk D w m) (hs : VShort m) :
    Calls Try.prog 13 #[m.val] w fun e w' => ∃ v, e = .returned v ∧ Made w v (encV m) w' := by
  obtain ⟨mk, mu, mn, mb, ms, ma, ml, mc, mz⟩ := m
  simp only [VM.val]
  have HM := Lib.hid hm
  have HS := Lib.hid hs
  have k1 : mk < 256 := hm.k
  clear hm hs
  have h5 : mk % 5 = 0 ∨ mk % 5 = 1 ∨ mk % 5 = 2 ∨ mk % 5 = 3 ∨ mk % 5 = 4 := by omega
  rcases h5 with h0 | h0 | h0 | h0 | h0
  · have HE : Hid (encV ⟨mk, mu, mn, mb, ms, ma, ml, mc, mz⟩ = encU mu) := Lib.hid (by simp [encV, h0])
    go_enter Try.func13, Try.ntmps13
    go_wp2_with (go_at_call 35; refine (refUint_any mu _ _ HM.out.u rfl).mono ?_; rintro e w2 ⟨v, rfl, h2⟩; have H2 := Lib.hid h2; clear h2)
    go_ret
    exact ⟨_, rfl, by rw [HE.out]; exact H2.out.of_alloc⟩
  · have HE : Hid (encV ⟨mk, mu, mn, mb, ms, ma, ml, mc, mz⟩ = encI mn) := Lib.hid (by simp [encV, h0])
    go_enter Try.func13, Try.ntmps13
    go_wp2_with (go_at_call 36; refine (refInt_any mn _ HM.out.n1 HM.out.n2).mono ?_; rintro e w2 ⟨v, rfl, h2⟩; have H2 := Lib.hid h2; clear h2)
    go_ret
    exact ⟨_, rfl, by rw [HE.out]; exact H2.out.of_alloc⟩
  · have HE : Hid (encV ⟨mk, mu, mn, mb, ms, ma, ml, mc, mz⟩ = encB mb) := Lib.hid (by simp [encV, h0])
    go_enter Try.func13, Try.ntmps13
    go_wp2_with (go_at_call 37; refine (refBool_any mb _).mono ?_; rintro e w2 ⟨v, rfl, h2⟩; have H2 := Lib.hid h2; clear h2)
    go_ret
    exact ⟨_, rfl, by rw [HE.out]; exact H2.out.of_alloc⟩
  · have HE : Hid (encV ⟨mk, mu, mn, mb, ms, ma, ml, mc, mz⟩ = encT ms.data.toList) := Lib.hid (by simp [encV, h0])
    go_enter Try.func13, Try.ntmps13
    go_wp2_with (go_at_call 38; refine (refText_any ms _ (by have := HS.out.1; simp only at this; omega)).mono ?_; rintro e w2 ⟨v, rfl, h2⟩; have H2 := Lib.hid h2; clear h2)
    go_ret
    exact ⟨_, rfl, by rw [HE.out]; exact H2.out.of_alloc⟩
  · have HE : Hid (encV ⟨mk, mu, mn, mb, ms, ma, ml, mc, mz⟩ = encL mz) := Lib.hid (by simp [encV, h0])
    go_enter Try.func13, Try.ntmps13
    go_wp2_with (go_at_call 39; refine (refInts_any D ma ml mc mz _ (HM.out.l.kept ((Kept.refl (fun _ => False) w).alloc _) (fun _ _ _ h => h)) HM.out.l64 (by have := HS.out.2; simp only at this; omega)).mono ?_; rintro e w2 ⟨v, rfl, h2⟩; have H2 := Lib.hid h2; clear h2)
    go_ret
    exact ⟨_, rfl, by rw [HE.out]; exact H2.out.of_alloc⟩
/-- where the loop of WireWrites stands: the writer and the row 'want' hold the same bytes, in blocks apart -/
structure WAt (g : Nat) (w1 : World) (l : List UInt8) (v : Value) (wr : World) (k1 kw : Option Nat) : Prop where
  wri : Wr wr g k1 l
  f1 : ∀ j, k1 = some j → w1.heap.size ≤ j
  own : OwnB wr kw v l
  fw : ∀ j, kw = some j → w1.heap.size ≤ j ∧ k1 ≠ some j
  kept : Kept (fun b => b = g) w1 wr
theorem Wr.klt {w : World} {g : Nat} {k : Option Nat} {l : List UInt8} (h : Wr w g k l) : ∀ j, k = some j → j < w.heap.size := by
  obtain ⟨v, _, ho, _⟩ := h
  exact ho.lt
theorem WAt.later {g : Nat} {w1 wr w2 : World} {l : List UInt8} {v : Value} {k1 kw : Option Nat} (h : WAt g w1 l v wr k1 kw) (hb : Below wr.heap.size wr w2) : WAt g w1 l v w2 k1 kw :=
  ⟨h.wri.kept (Kept.of_below (fun _ => False) hb) (fun h => h) (fun _ _ h => h), h.f1, Own.kept h.own (Kept.of_below (fun _ => False) hb) (fun _ _ h => h), h.fw, h.kept.trans (Kept.of_below _ hb) (fun _ _ h => h)⟩
/-- want is still there when the writer has written -/
theorem WAt.want {g : Nat} {w1 wr w3 w4 : World} {l : List UInt8} {v : Value} {k1 kw k3 : Option Nat} (h : WAt g w1 l v wr k1 kw) (hg : g < w1.heap.size) (hl : Link g k1 wr k3 w3) (hb : Below w3.heap.size w3 w4) : OwnB w4 kw v l := by
  refine Own.kept (Own.kept h.own hl.kept (fun j hj e => ?_)) (Kept.of_below (fun _ => False) hb) (fun _ _ h => h)
  rcases e with e | e
  · have := (h.fw j hj).1; omega
  · exact (h.fw j hj).2 e
theorem WAt.write {g : Nat} {w1 wr w3 w4 w5 : World} {l l2 : List UInt8} {v v5 : Value} {k1 kw k3 k5 : Option Nat} (h : WAt g w1 l v wr k1 kw) (hg : g < w1.heap.size) (hw3 : Wr w3 g k3 (l ++ l2)) (hl3 : Link g k1 wr k3 w3)
    (h4 : Below w3.heap.size w3 w4) (h5 : OwnB w5 k5 v5 (l ++ l2)) (hf5 : ∀ j, k5 = some j → kw = some j ∨ w4.heap.size ≤ j) (hk5 : Kept (fun j => kw = some j) w4 w5) :
    WAt g w1 (l ++ l2) v5 w5 k3 k5 := by
  have lkw := Own.lt h.own
  have s1 := h.kept.size
  have s3 := hl3.kept.size
  have s4 := h4.size
  have kw3 : ∀ j, kw = some j → k3 ≠ some j := fun j hj e => by
    rcases hl3.fresh j e with h' | h'
    · exact (h.fw j hj).2 h'
    · have := lkw j hj; omega
  have hw4 : Wr w4 g k3 (l ++ l2) := hw3.kept (Kept.of_below (fun _ => False) h4) (fun h => h) (fun _ _ h => h)
  have hw5 : Wr w5 g k3 (l ++ l2) := hw4.kept hk5 (fun e => by have := (h.fw g e).1; omega) (fun j hj e => kw3 j e hj)
  refine ⟨hw5, fun j hj => (hl3.fresh j hj).elim (h.f1 j) (fun h' => by omega), h5, fun j hj => ?_, ?_⟩
  · rcases hf5 j hj with h' | h'
    · exact ⟨(h.fw j h').1, kw3 j h'⟩
    · exact ⟨by omega, fun e => by have := hw3.klt j e; omega⟩
  · refine (h.kept.trans hl3.kept (fun j hj e => ?_)).trans ((Kept.of_below (fun j => kw = some j) h4).trans hk5 (fun _ _ h => h)) (fun j hj e => ?_)
    · rcases e with e | e
      · exact e
      · have := h.f1 j e; omega
    · have := (h.fw j e).1; omega
set_option maxRecDepth 100000 in
set_option maxHeartbeats 2000000 in
theorem writes_any (a : Option Addr) (n c : Nat) (ms : List VM) (w : World) (hV : Vs (Old w) w a n c ms) :
    Calls Try.prog 3 #[.slice a n c] w fun x w' => x = .returned (.bool true) ∧ Below w.heap.size w w' := by
  have HV := Lib.hid hV
  clear hV
  go_enter Try.func3, Try.ntmps3
  go_upto_region 3 with (fail)
  obtain ⟨w0, hw0⟩ : ∃ w0, w0 = w.alloc (.cells #[.slice none 0 0] 27) := ⟨_, rfl⟩
  have hb0 : Below w.heap.size w w0 := by rw [hw0]; exact (Below.refl _ _).alloc (Nat.le_refl _) _
  have hz0 : w0.heap.size = w.heap.size + 1 := by rw [hw0, size_alloc1]
  have hN : Wr w0 w.heap.size none [] := by rw [hw0]; exact Wr.new w
  have hV0 : Vs (fun b => b < w0.heap.size) w0 a n c ms := (HV.out.below hb0).dom (fun b hb => by have hb2 : b < w.heap.size := hb; omega)
  have HN := Lib.hid hN
  have HB0 := Lib.hid hb0
  have HZ0 := Lib.hid hz0
  have HV0 := Lib.hid hV0
  rw [← hw0]
  clear hw0 hb0 hz0 hN hV0
  go_wp2_with (go_at_call 11; refine (few_vals _ a n c ms _ HV0.out (fun b h => h)).mono ?_; rintro e w1 ⟨v1, rfl, hf1⟩; obtain ⟨va, vc, ns, rfl, he1, -⟩ := hf1.few12; obtain ⟨L, hL, hL2, hW⟩ := written_L _ _ _ _ _ he1; have E1 := Lib.hid he1; have HL := Lib.hid hL; have HL2 := Lib.hid hL2; have HW := Lib.hid hW; clear hf1 he1 hL hL2 hW)
  have hN1 : Wr w1 w.heap.size none [] := HN.out.kept (Kept.of_below (fun _ => False) E1.out.bel) (fun h => h) (fun _ _ h => h)
  have hg : w.heap.size < w1.heap.size := hN1.lt
  have hA0 : WAt w.heap.size w1 [] (.slice none 0 0) w1 none none := ⟨hN1, (fun _ h => by cases h), Own.nil _ _ _, (fun _ h => by cases h), Kept.refl _ _⟩
  have HA0 := Lib.hid hA0
  have nle : ns.length ≤ 12 := E1.out.len
  have nc1 : ns.length ≤ vc := E1.out.vs.2.1.2.1
  have nc2 : vc ≤ 9223372036854775807 := E1.out.vs.2.1.2.2.1
  clear hN1 hA0 HN
  go_loopw [4, 6] (fun v t wr => ∃ i : Nat, i ≤ ns.length ∧ t = .int .i64 (i : Int) ∧ ∃ k1 kw, WAt w.heap.size w1 ((ns.take i).flatMap encV) v wr k1 kw) (fun _ t _ => ns.length - (intOf t).toNat)
  case atStart => exact ⟨0, Nat.zero_le _, rfl, none, none, HA0.out⟩
  case round =>
    obtain ⟨i, hi, rfl, k1, kw, hA⟩ := hrel
    clear HA0
    by_cases hlt : i < ns.length
    · have hVr : Vs (fun b => w0.heap.size ≤ b ∧ b < w1.heap.size) wr va ns.length vc ns := E1.out.vs.kept hA.kept (fun b _ hd e => by have := HZ0.out; omega)
      obtain ⟨b, off, hDb, hbw, rfl, hr⟩ := hVr.at (by omega)
      have hr2 := hr i hlt
      have hOk := hVr.2.2 ns[i] (List.getElem_mem hlt)
      have hSh := (E1.out.fit ns[i] (List.getElem_mem hlt)).2
      have htk := take_encV ns i hlt
      have hlen : ((ns.take i).flatMap encV).length ≤ 1000000000 := by
        have e : ((ns.take i).flatMap encV).length ≤ L.length := by
          rw [HL.out, ← List.take_append_drop i ns, List.flatMap_append, List.length_append]
          simp
        have := HL2.out
        omega
      have hln := encV_len _ _ _ hOk hSh
      have hdis : ∀ b, (w0.heap.size ≤ b ∧ b < w1.heap.size) → b ≠ w.heap.size ∧ k1 ≠ some b := fun b hb => ⟨by have := HZ0.out; omega, fun e => by have := hA.f1 b e; omega⟩
      obtain ⟨P, hP⟩ : ∃ P, P = (ns.take i).flatMap encV := ⟨_, rfl⟩
      rw [← hP] at hA hlen htk
      generalize ns[i] = m at *
      obtain ⟨X, hX⟩ : ∃ X, X = encV m := ⟨_, rfl⟩
      have hCw := write_any w.heap.size k1 P _ m wr hA.wri (by omega) hOk hSh hdis
      rw [← hX] at hCw htk hln
      obtain ⟨va2, vc2, rfl, -⟩ := hA.own.bs
      have HA := Lib.hid hA
      have HCw := Lib.hid hCw
      have Hr2 := Lib.hid hr2
      have HOk := Lib.hid hOk
      have HSh := Lib.hid hSh
      have Htk := Lib.hid htk
      have Hlen := Lib.hid hlen
      have HX := Lib.hid hX
      have HDb := Lib.hid hDb
      have Hdis := Lib.hid hdis
      have HBw := Lib.hid hbw
      clear hA hCw hr hr2 hOk hSh htk hlen hdis hVr hP hX hDb hbw
      go_upto_region 8 with (first
        | (go_at_call 12; refine HCw.out.mono ?_; rintro e w3 ⟨rfl, k3, hw3, hl3⟩; have W3 := Lib.hid hw3; have L3 := Lib.hid hl3; clear hw3 hl3)
        | (refine wpList_load_mid rfl 34 (.tmp 17) rfl b (off + i * 6) rfl _ _ Hr2.out Try.underlying34 rfl (by rw [VM.cells_len]; kernel_rfl) ?_; rw [VM.cells_arr]))
      have hnb : ¬ (b = w.heap.size ∨ k1 = some b) := fun e => e.elim (Hdis.out b HDb.out).1 (Hdis.out b HDb.out).2
      have hr3 := range_kept Hr2.out HBw.out L3.out.kept hnb
      have hOk3 : VOk (fun b => w0.heap.size ≤ b ∧ b < w1.heap.size) w3 m := HOk.out.kept L3.out.kept (fun b' _ hd e => e.elim (Hdis.out b' hd).1 (Hdis.out b' hd).2)
      have hCe := encoding_any _ m w3 hOk3 HSh.out
      rw [← HX.out] at hCe
      have HCe := Lib.hid hCe
      have Hr3 := Lib.hid hr3
      clear hr3 hOk3 hCe hnb
      go_upto_region 9 with (first
        | (at_builtin; refine append_bs rfl (.tmp 20) (.tmp 25) rfl kw _ P rfl (HA.out.want hg L3.out B4.out) _ a4 _ c4 X rfl S4.out (by have := Hlen.out; omega) ?_; intro k5 v5 w5 h5 hf5 hk5; have A5 := Lib.hid (HA.out.write hg W3.out L3.out B4.out h5 hf5 hk5); clear h5 hf5 hk5)
        | (go_at_call 13; refine HCe.out.mono ?_; rintro e w4 ⟨v4, rfl, h4⟩; obtain ⟨a4, c4, rfl, hs4⟩ := h4.bs; obtain ⟨-, -, -, hb4⟩ := h4; have S4 := Lib.hid hs4; have B4 := Lib.hid hb4; clear hs4 hb4)
        | (refine wpList_load_mid rfl 34 (.tmp 23) rfl b (off + i * 6) rfl _ _ Hr3.out Try.underlying34 rfl (by rw [VM.cells_len]; kernel_rfl) ?_; rw [VM.cells_arr]))
      obtain ⟨P2, hP2⟩ : ∃ P2, P2 = P ++ X := ⟨_, rfl⟩
      have hA5 := A5.out
      rw [← hP2] at hA5
      have hPl2 : P2.length ≤ 100000000000 := by have := Hlen.out; rw [hP2, List.length_append]; omega
      obtain ⟨va5, vc5, rfl, hs5⟩ := Own.bs hA5.own
      have HA5 := Lib.hid hA5
      have HP2 := Lib.hid hP2
      have S5 := Lib.hid hs5
      clear hA5 hP2 A5 hs5
      go_wp2_with (first
        | (go_at_call 14; refine (sameBytes_any _ _ _ _ _ _ _ _ _ _ _ S6.out (S5.out.kept (Kept.of_below (fun _ => False) B6.out) (fun _ _ _ h => h))).mono ?_; rintro e w7 ⟨rfl, rfl⟩)
        | (go_at_call 15; refine (done_any w.heap.size _ P2 _ HA5.out.wri (by omega)).mono ?_; rintro e w6 ⟨v6, rfl, h6⟩; obtain ⟨a6, c6, rfl, hs6⟩ := h6.bs; obtain ⟨-, -, -, hb6⟩ := h6; have S6 := Lib.hid hs6; have B6 := Lib.hid hb6; clear hs6 hb6))
      go_roundw
      case rel => exact ⟨i + 1, by omega, by go_num, _, _, by rw [Htk.out, ← HP2.out]; exact HA5.out.later B6.out⟩
      case measure => simp [intOf]; omega
    · obtain rfl : i = ns.length := by omega
      rw [List.take_length, ← HL.out] at hA
      have hWr := written_any _ va _ vc ns wr (E1.out.vs.kept hA.kept (fun b _ hd e => by have := HZ0.out; omega)) (fun m hm => (E1.out.fit m hm).2) (by omega)
      rw [← HL.out] at hWr
      obtain ⟨va2, vc2, rfl, hs2⟩ := Own.bs hA.own
      have HWr := Lib.hid hWr
      have S2 := Lib.hid hs2
      have hkb : Below w.heap.size w wr := (HB0.out.trans (E1.out.bel.mono (by have := HZ0.out; omega))).trans (hA.kept.below (by omega) (fun j hj e => by omega))
      have HKB := Lib.hid hkb
      clear hWr hs2 hkb hA
      go_wp2_with (first
        | (go_at_call 17; refine (lives_any _).mono ?_; rintro e w7 ⟨rfl, hb7⟩; have B7 := Lib.hid hb7; clear hb7)
        | (go_at_call 14; refine (sameBytes_any _ _ _ _ _ _ _ _ _ _ _ S6.out (S2.out.kept (Kept.of_below (fun _ => False) B6.out) (fun _ _ _ h => h))).mono ?_; rintro e w7 ⟨rfl, rfl⟩)
        | (go_at_call 16; refine HWr.out.mono ?_; rintro e w6 ⟨v6, rfl, h6⟩; obtain ⟨a6, c6, rfl, hs6⟩ := h6.bs; obtain ⟨-, -, -, hb6⟩ := h6; have S6 := Lib.hid hs6; have B6 := Lib.hid hb6; clear hs6 hb6))
      go_ret
      exact ⟨rfl, (HKB.out.trans (B6.out.mono HKB.out.size)).trans (B7.out.mono (Nat.le_trans HKB.out.size B6.out.size))⟩
end Go.Proofs.Ytgmidhngchjoaaa

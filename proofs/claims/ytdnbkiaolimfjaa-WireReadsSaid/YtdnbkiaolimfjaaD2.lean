/-
  The law WireSticks: its walk.
-/
import Derived.Test.YtdnbkiaolimfjaaC1
import Derived.Deep.Cut
namespace Go.Proofs.Ytdnbkiaolimfjaa
open Go.RowKit
set_option linter.unusedSimpArgs false
set_option linter.unusedVariables false
def pzero : PV := ⟨0, 0, false, [], []⟩
theorem rVal_err (k : Nat) (l : List UInt8) (e : Nat) (he : e ≠ 0) (most : Int) : rVal k ⟨l, e⟩ most = (pzero, ⟨l, e⟩) := by
  have h1 := rUint_err ⟨l, e⟩ he
  have z0 : zag 0 = 0 := by decide
  have h2 : rInt ⟨l, e⟩ = (0, ⟨l, e⟩) := by unfold rInt; rw [h1]; simp only [z0]
  have h3 : rBool ⟨l, e⟩ = (false, ⟨l, e⟩) := by unfold rBool; rw [if_neg he]
  have h4 : rLen ⟨l, e⟩ most = (0, ⟨l, e⟩) := by
    unfold rLen
    rw [h1]
    split
    · simp only [RS.fail, if_neg he]
    · rfl
  have h5 : rText ⟨l, e⟩ most = ([], ⟨l, e⟩) := by
    unfold rText
    rw [h4]
    simp
  have h6 : rInts ⟨l, e⟩ most = ([], ⟨l, e⟩) := by
    unfold rInts
    rw [h4]
    rfl
  unfold rVal pzero
  rw [h1, h2, h3, h5, h6]
  split
  · rfl
  · split
    · rfl
    · split
      · rfl
      · split <;> rfl
theorem psame_refl (k : Nat) (p : PV) : psame k p p = true := by
  unfold psame
  split
  · simp
  · split
    · simp
    · split
      · simp
      · split <;> simp
theorem rVal_sizes (k : Nat) (s : RS) (most : Int) : True := trivial
/-- a Value with its kind alone -/
def kindVM (k : Nat) : VM := ⟨k, 0, 0, false, ⟨#[]⟩, none, 0, 0, []⟩
theorem kind_ok (D : Nat → Prop) (w : World) (k : Nat) (h : k < 256) : VOk D w (kindVM k) := rOk_nil D w k h 0 (by omega) 0 (by omega) (by omega) false ⟨#[]⟩ (Nat.zero_le _)
/-- a Value in a block of its own -/
theorem box_val (w : World) (m : VM) : (w.alloc (.cells m.cells.toArray 34)).heap[w.heap.size]? = some (.cells m.cells.toArray 34 (0, 0)) := heap_new rfl
set_option maxRecDepth 100000 in
set_option maxHeartbeats 2000000 in
theorem sticks_any (a : Option Addr) (n c : Nat) (l : List UInt8) (a2 : Option Addr) (n2 c2 : Nat) (ms : List VM) (e f : Int) (w : World) (hB : Bs (Old w) w a n c l) (hV : Vs (Old w) w a2 n2 c2 ms)
    (he1 : -9223372036854775808 ≤ e) (he2 : e ≤ 9223372036854775807) (hf1 : -9223372036854775808 ≤ f) (hf2 : f ≤ 9223372036854775807) :
    Calls Try.prog 9 #[.slice a n c, .slice a2 n2 c2, .int .i64 e, .int .i64 f] w fun x w' => x = .returned (.bool true) ∧ Below w.heap.size w w' := by
  have HB := Lib.hid hB
  have HV := Lib.hid hV
  have b1 := around_bd e 50 (by decide)
  have b2 := around_bd f 50 (by decide)
  obtain ⟨E, hE⟩ : ∃ E : Nat, (E : Int) = around e 50 := ⟨(around e 50).toNat, by omega⟩
  obtain ⟨F, hF⟩ : ∃ F : Nat, (F : Int) = around f 50 := ⟨(around f 50).toNat, by omega⟩
  have nc1 : n2 ≤ c2 := hV.2.1.2.1
  have nc2 : c2 ≤ 9223372036854775807 := hV.2.1.2.2.1
  have hA1 := fun w' => around_any e 50 w' he1 he2 (by decide) (by decide)
  have hA2 := fun w' => around_any f 50 w' hf1 hf2 (by decide) (by decide)
  simp only [← hE, ← hF] at hA1 hA2 b1 b2
  have HA1 := Lib.hid hA1
  have HA2 := Lib.hid hA2
  have hlt : (l.take 40).length ≤ 40 := by rw [List.length_take]; omega
  obtain ⟨L, hL⟩ : ∃ L, L = l.take 40 := ⟨_, rfl⟩
  have hFew := few_any _ a n c 40 l w hB (by decide)
  rw [← hL] at hFew hlt
  have HFew := Lib.hid hFew
  have HLt := Lib.hid hlt
  clear hB hV hE hF hA1 hA2 hFew hlt hL
  go_enter Try.func9, Try.ntmps9
  go_upto_region 4 with (first
    | (go_at_call 20; refine (newReader_any _ _ _ _ _ _ S2.out (by have := HLt.out; omega)).mono ?_; rintro e w3 ⟨g, rfl, k3, hr3, hg3, hf3, hb3⟩; have R3 := Lib.hid hr3; have G3 := Lib.hid hg3; have F3 := Lib.hid hf3; have B3 := Lib.hid hb3; clear hr3 hg3 hf3 hb3)
    | (go_at_call 19; refine HFew.out.mono ?_; rintro e w2 ⟨v2, rfl, hm2⟩; obtain ⟨b2, d2, rfl, hs2⟩ := hm2.bs; obtain ⟨-, -, -, hb2⟩ := hm2; have S2 := Lib.hid hs2; have B2 := Lib.hid hb2; clear hs2 hb2))
  go_upto_region 5 with (first
    | (go_at_call 27; refine (fail_any g k3 _ 0 0 _ _ R3.out rfl).mono ?_; rintro e w4 ⟨rfl, h4⟩; have K4 := Lib.hid h4.2; have hr4 := h4.1; have R4 : Hid (Rd w4 g k3 L 0) := Lib.hid hr4; clear h4 hr4))
  go_upto_region 7 with (first
    | (go_at_call 24; refine (err_any g k3 _ 0 _ R4.out).mono ?_; rintro e w5 ⟨rfl, rfl⟩))
  go_upto_region 8 with (first
    | (go_at_call 18; refine (HA1.out _).mono ?_; rintro e w5 ⟨rfl, rfl⟩))
  go_upto_region 9 with (first
    | (go_at_call 27; refine (fail_any g k3 _ 0 (1 + E) _ _ R4.out (by omega)).mono ?_; rintro e w6 ⟨rfl, h6⟩; have K6 := Lib.hid h6.2; have hr6 := h6.1; rw [failed, if_pos rfl] at hr6; have R7 := Lib.hid hr6; clear h6 hr6))
  go_upto_region 10 with (first
    | (go_at_call 27; refine (fail_any g k3 _ (1 + E) F _ _ R7.out rfl).mono ?_; rintro e w8 ⟨rfl, h8⟩; have K8 := Lib.hid h8.2; have hr8 := h8.1; rw [failed, if_neg (by omega)] at hr8; have R8 := Lib.hid hr8; clear h8 hr8)
    | (go_at_call 18; refine (HA2.out _).mono ?_; rintro e w7 ⟨rfl, rfl⟩))
  go_wp2_with fail
  obtain ⟨w9, hw9⟩ : ∃ w9, w9 = w8 := ⟨_, rfl⟩
  have hK9 : Kept (fun b => b = g) w3 w9 := by rw [hw9]; exact (K4.out.trans K6.out (fun _ _ h => h)).trans K8.out (fun _ _ h => h)
  have hR9 : Rd w9 g k3 L (1 + E) := by rw [hw9]; exact R8.out
  rw [← hw9]
  have hB13 : Below w.heap.size w w3 := B2.out.trans (B3.out.mono B2.out.size)
  have hwg : w.heap.size ≤ g := Nat.le_trans B2.out.size G3.out
  have hk1 : ∀ j, k3 = some j → j < w3.heap.size := fun j hj => (F3.out j hj).2
  have HB13 := Lib.hid hB13
  have HR9 := Lib.hid hR9
  have HK9 := Lib.hid hK9
  have HK1 := Lib.hid hk1
  clear hw9 hK9 hR9 hB13 hk1 K4 K6 K8 R3 R4 R7 R8 G3 F3 B3 S2 B2
  go_loopw [11] (fun t wr => ∃ i : Nat, i ≤ n2 ∧ i ≤ 12 ∧ t = .int .i64 (i : Int) ∧ Rd wr g k3 L (1 + E) ∧ Kept (fun b => b = g) w3 wr) (fun t _ => 12 - (intOf t).toNat)
  case atStart => exact ⟨0, Nat.zero_le _, by omega, rfl, HR9.out, HK9.out⟩
  case round =>
    obtain ⟨i, hi, hi12, rfl, hrd, hkp⟩ := hrel
    have HRd := Lib.hid hrd
    have HKp := Lib.hid hkp
    clear hrd hkp HR9 HK9
    by_cases hlt : i < n2 ∧ i < 12
    · obtain ⟨hlt1, hlt2⟩ := hlt
      have him : i < ms.length := by have := HV.out.1; omega
      have hVr : Vs (fun b => b < w.heap.size) wr a2 n2 c2 ms := (HV.out.below HB13.out).kept HKp.out (fun b _ hd e => by have hd2 : b < w.heap.size := hd; omega)
      obtain ⟨b, off, hDb, hbw, rfl, hr⟩ := hVr.at (by omega)
      have hr2 := hr i him
      have hOk := hVr.2.2 ms[i] (List.getElem_mem him)
      generalize ms[i] = m at *
      have hCr := read_any g k3 L (1 + E) m 20 wr HRd.out (fun j hj => Nat.lt_of_lt_of_le (HK1.out j hj) HKp.out.size) hOk.k (by have := HLt.out; omega) (by decide) (by decide)
      rw [rVal_err m.k L (1 + E) (by omega) 20] at hCr
      have hmk := hOk.k
      have HCr := Lib.hid hCr
      have Hr2 := Lib.hid hr2
      clear hr hr2 hOk hCr hVr HRd hDb hbw
      go_wp2_with (first
        | (go_at_call 24; refine (err_any g k3 _ (1 + E) _ ((H4.out.1.kept ((Kept.refl (fun _ => False) w4).alloc _) (fun h => h) (fun _ _ h => h)).kept (Kept.of_below (fun _ => False) B5.out) (fun h => h) (fun _ _ h => h))).mono ?_; rintro e w6 ⟨rfl, rfl⟩)
        | (go_at_call 23; refine (C4.out _).mono ?_; rintro e w5 ⟨rfl, hb5⟩; have B5 := Lib.hid hb5; clear hb5)
        | (go_at_call 21; refine HCr.out.mono ?_; rintro e w4 ⟨m', rfl, hk4, hp4, ho4, h4⟩; have H4 := Lib.hid h4; have hc4 := fun o => same_any _ _ m' (kindVM m'.k) (w4.alloc o) (ho4.kept ((Kept.refl (fun _ => False) w4).alloc o) (fun _ _ _ h => h)) (kind_ok (fun _ => True) _ m'.k ho4.k); have hps : psame m'.k m'.pv (kindVM m'.k).pv = true := (by rw [hp4]; exact psame_refl _ _); simp only [hps] at hc4; clear hps; obtain ⟨mk', mu', mn', mb', msx', ma', ml', mc', mz'⟩ := m'; simp only [VM.val]; simp only at hk4 hc4; subst hk4; have C4 := Lib.hid hc4; clear hc4 ho4 h4 hp4)
        | (refine wpList_load_mid rfl 34 (.tmp 46) rfl b (off + i * 6) rfl _ _ Hr2.out Try.underlying34 rfl (by rw [VM.cells_len]; kernel_rfl) ?_; rw [VM.cells_arr]))
      go_roundw
      case rel =>
        have kB : Kept (fun b => b = g) wr w5 := (H4.out.2.alloc _).trans (Kept.of_below _ B5.out) (fun _ _ h => h)
        exact ⟨i + 1, by omega, by omega, by go_num, (H4.out.1.kept ((Kept.refl (fun _ => False) w4).alloc _) (fun h => h) (fun _ _ h => h)).kept (Kept.of_below (fun _ => False) B5.out) (fun h => h) (fun _ _ h => h), HKp.out.trans kB (fun _ _ h => h)⟩
      case measure => simp [intOf]; omega
    · have hE := end_any g k3 L (1 + E) wr HRd.out
      have e0 : endE (1 + E) L.length = 1 + E := by unfold endE; rw [if_neg (by omega)]
      rw [e0] at hE
      have HE := Lib.hid hE
      have hkb : Below w.heap.size w wr := HB13.out.trans (HKp.out.below HB13.out.size (fun j hj e => by omega))
      have HKB := Lib.hid hkb
      clear hE e0 hkb
      by_cases hin : i < n2
      · obtain rfl : i = 12 := by omega
        go_wp2_with (first
          | (go_at_call 25; refine HE.out.mono ?_; rintro e w6 ⟨rfl, rfl⟩)
          | (go_at_call 17; refine (lives_any _).mono ?_; rintro e w7 ⟨rfl, hb7⟩; have B7 := Lib.hid hb7; clear hb7))
        go_ret
        exact ⟨rfl, HKB.out.trans (B7.out.mono HKB.out.size)⟩
      · go_wp2_with (first
          | (go_at_call 25; refine HE.out.mono ?_; rintro e w6 ⟨rfl, rfl⟩)
          | (go_at_call 17; refine (lives_any _).mono ?_; rintro e w7 ⟨rfl, hb7⟩; have B7 := Lib.hid hb7; clear hb7))
        go_ret
        exact ⟨rfl, HKB.out.trans (B7.out.mono HKB.out.size)⟩
end Go.Proofs.Ytdnbkiaolimfjaa

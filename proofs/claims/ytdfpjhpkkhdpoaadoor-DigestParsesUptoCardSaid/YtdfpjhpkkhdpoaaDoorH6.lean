/-
  The reference's Parse.
-/
import Derived.Test.YtdfpjhpkkhdpoaaDoorH2
namespace Go.Proofs.YtdfpjhpkkhdpoaaDoor
open Go.RowKit
set_option linter.unusedSimpArgs false
set_option linter.unusedVariables false
/-- what the reference reads out of a digit -/
def rv (b : Int) : Int := if 48 ≤ b ∧ b ≤ 57 then b - 48 else if 97 ≤ b ∧ b ≤ 102 then b - 97 + 10 else -1
theorem rv_dv (b : UInt8) : rv (bi b) = dv b := by
  have h : ∀ n : Fin 256, rv (bi (UInt8.ofNat n.val)) = dv (UInt8.ofNat n.val) := by decide +kernel
  have e : UInt8.ofNat b.toNat = b := by simp
  have := h ⟨b.toNat, b.toNat_lt⟩
  rwa [e] at this
theorem rv_at {s : ByteArray} {l : List UInt8} (hl : l = s.data.toList) {i : Nat} (h : i < s.size) : rv (((s[i]'h).toNat : Nat) : Int) = dv (byteAt l i) := by
  have h2 : i < s.data.toList.length := by rw [Array.length_toList]; exact h
  have e : byteAt l i = s[i]'h := by
    subst hl
    rw [byteAt_lt _ _ h2]
    rfl
  rw [e, ← rv_dv]
  rfl
set_option maxRecDepth 100000 in
theorem value_any (b : Int) (w : World) (h0 : 0 ≤ b) (h1 : b < 256) :
    Calls Tryd.prog 40 #[.int .u8 b] w fun e w' => e = .returned (.int .i64 (rv b)) ∧ w = w' := by
  have h2 : b ≤ 255 := by omega
  by_cases c1 : 48 ≤ b
  · have d1 : decide (48 ≤ b) = true := decide_eq_true c1
    by_cases c2 : b ≤ 57
    · have r : rv b = b - 48 := if_pos ⟨c1, c2⟩
      have d2 : decide (b ≤ 57) = true := decide_eq_true c2
      rw [r]
      clear r
      go_enter Tryd.func40, Tryd.ntmps40
      go_wp2_with fail
      go_ret
      exact ⟨rfl, rfl⟩
    · have d2 : decide (b ≤ 57) = false := decide_eq_false c2
      by_cases c3 : 97 ≤ b ∧ b ≤ 102
      · obtain ⟨c3, c4⟩ := c3
        have r : rv b = b - 97 + 10 := by unfold rv; rw [if_neg (by omega), if_pos (by omega)]
        have d3 : decide (97 ≤ b) = true := decide_eq_true c3
        have d4 : decide (b ≤ 102) = true := decide_eq_true c4
        rw [r]
        clear r
        go_enter Tryd.func40, Tryd.ntmps40
        go_wp2_with fail
        go_ret
        exact ⟨rfl, rfl⟩
      · have r : rv b = -1 := by unfold rv; rw [if_neg (by omega), if_neg c3]
        rw [r]
        clear r
        by_cases c4 : 97 ≤ b
        · have d3 : decide (97 ≤ b) = true := decide_eq_true c4
          have d4 : decide (b ≤ 102) = false := decide_eq_false (by omega)
          go_enter Tryd.func40, Tryd.ntmps40
          go_wp2_with fail
          go_ret
          exact ⟨rfl, rfl⟩
        · have d3 : decide (97 ≤ b) = false := decide_eq_false c4
          go_enter Tryd.func40, Tryd.ntmps40
          go_wp2_with fail
          go_ret
          exact ⟨rfl, rfl⟩
  · have d1 : decide (48 ≤ b) = false := decide_eq_false c1
    have d3 : decide (97 ≤ b) = false := decide_eq_false (by omega)
    have r : rv b = -1 := by unfold rv; rw [if_neg (by omega), if_neg (by omega)]
    rw [r]
    clear r
    go_enter Tryd.func40, Tryd.ntmps40
    go_wp2_with fail
    go_ret
    exact ⟨rfl, rfl⟩
attribute [local go_sem ↓] exec_build0
attribute [local go_sem] run_build0A
set_option maxRecDepth 100000 in
set_option maxHeartbeats 1000000 in
theorem rparse_any (s : ByteArray) (w : World) (hs : s.size = 64) :
    Calls Tryd.prog 32 #[.string s] w fun e w' => e = .returned (parseOut s.data.toList) ∧ Below w.heap.size w w' := by
  obtain ⟨l, hl⟩ : ∃ l, l = s.data.toList := ⟨_, rfl⟩
  rw [← hl]
  have Hs := Lib.hid hs
  have HL := Lib.hid hl
  have hs2 : (s.size : Int) = 64 := by omega
  clear hs hl
  go_enter Tryd.func32, Tryd.ntmps32
  go_upto_region 4 with (fail)
  rw [zeros32, show List.replicate 32 (0 : UInt8) = Z32 from rfl]
  have sp : SP w l 0 ((w.alloc (.cells (bcells Z32) 24)).alloc (.cells (bcells Z32) 24)) :=
    ⟨heap_old (heap_new rfl), by rw [firstB_zero]; exact heap_new (by simp only [size_alloc1]), fun i hi => by omega, ((Below.refl _ _).alloc (Nat.le_refl _) _).alloc (by simp) _⟩
  generalize ((w.alloc (.cells (bcells Z32) 24)).alloc (.cells (bcells Z32) 24)) = w1 at *
  have S0 := Lib.hid sp
  clear sp
  go_wp2
  go_loopw [5] (fun i wr => ∃ k : Nat, k ≤ 32 ∧ i = .int .i64 (k : Int) ∧ SP w l k wr) (fun i _ => 32 - (intOf i).toNat)
  case atStart => exact ⟨0, by omega, rfl, S0.out⟩
  case round =>
    clear S0
    obtain ⟨k, hk, rfl, sp⟩ := hrel
    have N := Lib.hid sp
    clear sp
    by_cases hlt : k < 32
    · have dlt : decide ((k : Int) < 32) = true := by simp; omega
      obtain ⟨E, hE⟩ : ∃ E, E = 2 * k := ⟨_, rfl⟩
      have hE2 : 2 * (k : Int) = (E : Int) := by omega
      have hE3 : IntKind.i64.wrap (2 * (k : Int)) = (E : Int) := by rw [hE2]; exact i64_id _ (by omega) (by omega)
      have hE4 : IntKind.i64.wrap ((E : Int) + 1) = (E : Int) + 1 := i64_id _ (by omega) (by omega)
      have z0 : (0 : Int) ≤ (E : Int) := by omega
      have z1 : (E : Int) < 64 := by omega
      have z2 : (0 : Int) ≤ (E : Int) + 1 := by omega
      have z3 : (E : Int) + 1 < 64 := by omega
      have z4 : E < s.size := by have := Hs.out; omega
      have z5 : E + 1 < s.size := by have := Hs.out; omega
      have HE := Lib.hid hE
      clear hE
      have hE5 : IntKind.i64.wrap (E : Int) = (E : Int) := i64_id _ (by omega) (by omega)
      have hA0 : rv (((s[E]'z4).toNat : Nat) : Int) = dv (byteAt l E) := rv_at HL.out z4
      have hB0 : rv (((s[E + 1]'z5).toNat : Nat) : Int) = dv (byteAt l (E + 1)) := rv_at HL.out z5
      have u1 := (s[E]'z4).toNat_lt
      have u2 := (s[E + 1]'z5).toNat_lt
      have bA := dv_bd (byteAt l E)
      have bB := dv_bd (byteAt l (E + 1))
      obtain ⟨A, hA⟩ : ∃ A, A = dv (byteAt l E) := ⟨_, rfl⟩
      obtain ⟨B, hB⟩ : ∃ B, B = dv (byteAt l (E + 1)) := ⟨_, rfl⟩
      rw [← hA] at hA0 bA
      rw [← hB] at hB0 bB
      have HA := Lib.hid hA
      have HB := Lib.hid hB
      have HA0 := Lib.hid hA0
      have HB0 := Lib.hid hB0
      have z6 : ((E : Int) + 1).toNat = E + 1 := by omega
      clear hA hB hA0 hB0
      go_upto_region 7 with (fail)
      have U1 : Hid ((0 : Int) ≤ (((s[E]'z4).toNat : Nat) : Int) ∧ (((s[E]'z4).toNat : Nat) : Int) < 256) := Lib.hid (by omega)
      have U2 : Hid ((0 : Int) ≤ (((s[E + 1]'z5).toNat : Nat) : Int) ∧ (((s[E + 1]'z5).toNat : Nat) : Int) < 256) := Lib.hid (by omega)
      clear u1 u2
      go_upto_region 9 with (go_at_call 40; refine (value_any _ _ (by first | exact U1.out.1 | exact U2.out.1) (by first | exact U1.out.2 | exact U2.out.2)).mono ?_; (first | rw [HA0.out] | rw [HB0.out]); rintro e w2 ⟨rfl, rfl⟩)
      · skip
        clear HA0 HB0
        by_cases hA : A < 0
        · have dA : decide (A < 0) = true := decide_eq_true hA
          go_wp2_with (refine wpList_store_row rfl 24 (.tmp 2) (.tmp 33) rfl w.heap.size _ rfl rfl 24 _ N.out.z (by rw [bcells_size, Z32_len]; exact size32b) rfl (bcells_one _) ?_)
          refine bodyPost_ret (v := .tuple #[.agg (bcells Z32), .int .i64 7]) ?_ rfl ⟨congrArg Ending.returned (parseOut_bad (i := E) (by have := HE.out; omega) (by rw [← HA.out]; exact hA)).symm, Below_setRow N.out.bel (Nat.le_refl _) _⟩
          have hld := run_loadVar_row (P := Tryd.prog) (wr.setRow w.heap.size (bcells Z32)) w.heap.size 24 24 (bcells Z32) (0, 0) _ (setRow_heap _ _ _ _ _ _ N.out.z) Tryd.underlying24 rfl (by rw [bcells_size, Z32_len]; exact size32b)
          rw [results_cell_tmp rfl]
          simp [asAddr, Result.andThen, hld]
        · have dA : decide (A < 0) = false := decide_eq_false hA
          by_cases hB : B < 0
          · have dB : decide (B < 0) = true := decide_eq_true hB
            go_wp2_with (refine wpList_store_row rfl 24 (.tmp 2) (.tmp 33) rfl w.heap.size _ rfl rfl 24 _ N.out.z (by rw [bcells_size, Z32_len]; exact size32b) rfl (bcells_one _) ?_)
            refine bodyPost_ret (v := .tuple #[.agg (bcells Z32), .int .i64 7]) ?_ rfl ⟨congrArg Ending.returned (parseOut_bad (i := E + 1) (by have := HE.out; omega) (by rw [← HB.out]; exact hB)).symm, Below_setRow N.out.bel (Nat.le_refl _) _⟩
            have hld := run_loadVar_row (P := Tryd.prog) (wr.setRow w.heap.size (bcells Z32)) w.heap.size 24 24 (bcells Z32) (0, 0) _ (setRow_heap _ _ _ _ _ _ N.out.z) Tryd.underlying24 rfl (by rw [bcells_size, Z32_len]; exact size32b)
            rw [results_cell_tmp rfl]
            simp [asAddr, Result.andThen, hld]
          · have dB : decide (B < 0) = false := decide_eq_false hB
            obtain ⟨a, rfl⟩ := Int.eq_ofNat_of_zero_le (by omega : 0 ≤ A)
            obtain ⟨b, rfl⟩ := Int.eq_ofNat_of_zero_le (by omega : 0 ≤ B)
            have ha : a < 16 := by omega
            have hb : b < 16 := by omega
            have w1 : IntKind.i64.wrap (16 * (a : Int)) = 16 * (a : Int) := i64_id _ (by omega) (by omega)
            have w2 : IntKind.i64.wrap (16 * (a : Int) + (b : Int)) = 16 * (a : Int) + (b : Int) := i64_id _ (by omega) (by omega)
            have w3 : (16 * (a : Int) + (b : Int)) % 256 = 16 * (a : Int) + (b : Int) := by omega
            go_upto_region 11 with (fail)
            have c1 := cell_bytes N.out.o k (by rw [firstB_len]; exact hlt)
            have f1 := frozen_of_row wr (w.heap.size + 1) k _ _ N.out.o
            go_wp2
            go_roundw
            case rel =>
              have hv : 16 * (a : Int) + (b : Int) = bi (UInt8.ofNat (16 * a + b)) := by unfold bi; rw [UInt8.toNat_ofNat']; omega
              have hp : pv l k = UInt8.ofNat (16 * a + b) := by
                unfold pv
                rw [← HE.out, ← HA.out, ← HB.out]; simp
              rw [hv, ← hp]
              refine ⟨k + 1, by omega, by go_num, (heap_setCell_other _ _ _ _ (by simp)).trans N.out.z, ?_, ?_, ((N.out.bel).setCell (by simp) _)⟩
              · refine (heap_setCell_same _ _ _ _ _ _ N.out.o).trans ?_
                rw [bcells_set]
                exact congrArg (fun l => some (Obj.cells (bcells l) 24 (0, 0))) (firstB_set (pv l) 32 k)
              · intro i hi
                have hE' := HE.out
                by_cases h1 : i < 2 * k
                · exact N.out.good i h1
                · by_cases h2 : i = E
                  · rw [h2, ← HA.out]; omega
                  · rw [show i = E + 1 by omega, ← HB.out]; omega
            case measure => simp [intOf]; omega
    · obtain rfl : k = 32 := by omega
      have dlt : decide ((32 : Int) < 32) = false := by simp
      go_wp2_with (first | (refine wpList_load_row rfl 24 (.tmp 4) rfl (w.heap.size + 1) rfl 24 _ (0, 0) _ N.out.o Tryd.underlying24 rfl (by rw [bcells_size, firstB_len]; exact size32b) ?_) | (refine wpList_store_row rfl 24 (.tmp 2) (.tmp 41) rfl w.heap.size _ rfl rfl 24 _ N.out.z (by rw [bcells_size, firstB_len]; exact size32b) (by rw [bcells_size, bcells_size, firstB_len, Z32_len]) (bcells_one _) ?_))
      refine bodyPost_ret (v := .tuple #[.agg (bcells (firstB (pv l) 32 32)), .int .i64 0]) ?_ rfl ⟨congrArg Ending.returned (parseOut_good N.out.good).symm, Below_setRow N.out.bel (Nat.le_refl _) _⟩
      have hld := run_loadVar_row (P := Tryd.prog) (wr.setRow w.heap.size (bcells (firstB (pv l) 32 32))) w.heap.size 24 24 (bcells (firstB (pv l) 32 32)) (0, 0) _ (setRow_heap _ _ _ _ _ _ N.out.z) Tryd.underlying24 rfl (by rw [bcells_size, firstB_len]; exact size32b)
      rw [results_cell_tmp rfl]
      simp [asAddr, Result.andThen, hld]
end Go.Proofs.YtdfpjhpkkhdpoaaDoor

/-
  Parse of a text of 64 bytes.
-/
import Derived.Test.YtdfpjhpkkhdpoaaDoorH1
import Derived.Test.YtdfpjhpkkhdpoaaDoorF5
namespace Go.Proofs.YtdfpjhpkkhdpoaaDoor
open Go.RowKit
set_option linter.unusedSimpArgs false
set_option linter.unusedVariables false
def dv (b : UInt8) : Int := Go.Lib.indexByte DG b
def pv (l : List UInt8) (k : Nat) : UInt8 := UInt8.ofNat (16 * (dv (byteAt l (2 * k))).toNat + (dv (byteAt l (2 * k + 1))).toNat)
def goodTo (l : List UInt8) (k : Nat) : Prop := ∀ i, i < 2 * k → 0 ≤ dv (byteAt l i)
open Classical in
noncomputable def parseOut (l : List UInt8) : Value := if goodTo l 32 then .tuple #[.agg (bcells (firstB (pv l) 32 32)), .int .i64 0] else .tuple #[.agg (bcells Z32), .int .i64 7]
theorem parseOut_good {l : List UInt8} (h : goodTo l 32) : parseOut l = .tuple #[.agg (bcells (firstB (pv l) 32 32)), .int .i64 0] := if_pos h
theorem parseOut_bad {l : List UInt8} {i : Nat} (h : i < 64) (hb : dv (byteAt l i) < 0) : parseOut l = .tuple #[.agg (bcells Z32), .int .i64 7] := if_neg (fun hg => by have := hg i (by omega); omega)
theorem dv_bd (b : UInt8) : -1 ≤ dv b ∧ dv b < 16 := by
  have h : ∀ n : Fin 256, -1 ≤ dv (UInt8.ofNat n.val) ∧ dv (UInt8.ofNat n.val) < 16 := by decide +kernel
  have e : UInt8.ofNat b.toNat = b := by simp
  have := h ⟨b.toNat, b.toNat_lt⟩
  rwa [e] at this
theorem dv_at {s : ByteArray} {l : List UInt8} (hl : l = s.data.toList) {i : Nat} (h : i < s.size) :
    Go.Lib.indexByte (ByteArray.mk #[48, 49, 50, 51, 52, 53, 54, 55, 56, 57, 97, 98, 99, 100, 101, 102]).data.toList (((s[i]'h).toNat : Nat) : Int).toNat.toUInt8 = dv (byteAt l i) := by
  have h2 : i < s.data.toList.length := by rw [Array.length_toList]; exact h
  have e : byteAt l i = s[i]'h := by
    subst hl
    rw [byteAt_lt _ _ h2]
    rfl
  rw [e]
  unfold dv
  congr 1
  simp
theorem or_dig (a b : Nat) (ha : a < 16) (hb : b < 16) : bits BinOp.or IntKind.i64 ((a : Int) * 16) (b : Int) % 256 = bi (UInt8.ofNat (16 * a + b)) := by
  have h : ∀ a b : Fin 16, bits BinOp.or IntKind.i64 ((a.val : Int) * 16) (b.val : Int) % 256 = bi (UInt8.ofNat (16 * a.val + b.val)) := by decide +kernel
  exact h ⟨a, ha⟩ ⟨b, hb⟩
attribute [local go_sem ↓] exec_build0
attribute [local go_sem] run_build0A
structure SP (w : World) (l : List UInt8) (k : Nat) (p : World) : Prop where
  z : p.heap[w.heap.size]? = some (.cells (bcells Z32) 24 (0, 0))
  o : p.heap[w.heap.size + 1]? = some (.cells (bcells (firstB (pv l) 32 k)) 24 (0, 0))
  good : goodTo l k
  bel : Below w.heap.size w p
set_option maxRecDepth 100000 in
set_option maxHeartbeats 1000000 in
theorem parse_any (s : ByteArray) (w : World) (hs : s.size = 64) :
    Calls Tryd.prog 30 #[.string s] w fun e w' => e = .returned (parseOut s.data.toList) ∧ Below w.heap.size w w' := by
  obtain ⟨l, hl⟩ : ∃ l, l = s.data.toList := ⟨_, rfl⟩
  rw [← hl]
  have Hs := Lib.hid hs
  have HL := Lib.hid hl
  have hs2 : (s.size : Int) = 64 := by omega
  clear hs hl
  go_enter Tryd.func30, Tryd.ntmps30
  go_upto_region 2 with (fail)
  rw [zeros32, show List.replicate 32 (0 : UInt8) = Z32 from rfl]
  have sp : SP w l 0 ((w.alloc (.cells (bcells Z32) 24)).alloc (.cells (bcells Z32) 24)) :=
    ⟨heap_old (heap_new rfl), by rw [firstB_zero]; exact heap_new (by simp only [size_alloc1]), fun i hi => by omega, ((Below.refl _ _).alloc (Nat.le_refl _) _).alloc (by simp) _⟩
  generalize ((w.alloc (.cells (bcells Z32) 24)).alloc (.cells (bcells Z32) 24)) = w1 at *
  have S0 := Lib.hid sp
  clear sp
  go_wp2
  go_loopw [12] (fun i wr => ∃ k : Nat, k ≤ 32 ∧ i = .int .i64 (k : Int) ∧ SP w l k wr) (fun i _ => 32 - (intOf i).toNat)
  case atStart => exact ⟨0, by omega, rfl, S0.out⟩
  case round =>
    clear S0
    obtain ⟨k, hk, rfl, sp⟩ := hrel
    have N := Lib.hid sp
    clear sp
    by_cases hlt : k < 32
    · have dlt : decide ((k : Int) < 32) = true := by simp; omega
      obtain ⟨E, hE⟩ : ∃ E, E = 2 * k := ⟨_, rfl⟩
      have hE2 : 2 * (k : Int) = (E : Int) := by omega
      have hE3 : IntKind.i64.wrap (2 * (k : Int)) = (E : Int) := by rw [hE2]; exact i64_id _ (by omega) (by omega)
      have hE4 : IntKind.i64.wrap ((E : Int) + 1) = (E : Int) + 1 := i64_id _ (by omega) (by omega)
      have z0 : (0 : Int) ≤ (E : Int) := by omega
      have z1 : (E : Int) < 64 := by omega
      have z2 : (0 : Int) ≤ (E : Int) + 1 := by omega
      have z3 : (E : Int) + 1 < 64 := by omega
      have z4 : E < s.size := by have := Hs.out; omega
      have z5 : E + 1 < s.size := by have := Hs.out; omega
      have HE := Lib.hid hE
      have Nd : Hid (SP w l k wr.drew) := Lib.hid ⟨N.out.z, N.out.o, N.out.good, N.out.bel.drew⟩
      clear hE
      have hE5 : IntKind.i64.wrap (E : Int) = (E : Int) := i64_id _ (by omega) (by omega)
      have hA0 : Go.Lib.indexByte (ByteArray.mk #[48, 49, 50, 51, 52, 53, 54, 55, 56, 57, 97, 98, 99, 100, 101, 102]).data.toList (((s[E]'z4).toNat : Nat) : Int).toNat.toUInt8 = dv (byteAt l E) := dv_at HL.out z4
      have hB0 : Go.Lib.indexByte (ByteArray.mk #[48, 49, 50, 51, 52, 53, 54, 55, 56, 57, 97, 98, 99, 100, 101, 102]).data.toList (((s[E + 1]'z5).toNat : Nat) : Int).toNat.toUInt8 = dv (byteAt l (E + 1)) := dv_at HL.out z5
      have bA := dv_bd (byteAt l E)
      have bB := dv_bd (byteAt l (E + 1))
      obtain ⟨A, hA⟩ : ∃ A, A = dv (byteAt l E) := ⟨_, rfl⟩
      obtain ⟨B, hB⟩ : ∃ B, B = dv (byteAt l (E + 1)) := ⟨_, rfl⟩
      rw [← hA] at hA0 bA
      rw [← hB] at hB0 bB
      have HA := Lib.hid hA
      have HB := Lib.hid hB
      have HA0 := Lib.hid hA0
      have HB0 := Lib.hid hB0
      have z6 : ((E : Int) + 1).toNat = E + 1 := by omega
      clear hA hB hA0 hB0
      go_upto_region 7 with (fail)
      go_cut [6, 7] (fun x6 x7 wx => x6 = .int .i64 A ∧ x7 = .int .i64 B ∧ wr.drew = wx)
      case first =>
        go_region_with (go_at_call 39; refine (index_any _ _ _).mono ?_; (first | rw [HA0.out] | rw [HB0.out]); rintro e w2 ⟨rfl, rfl⟩)
        all_goals
          go_wp2_with fail
          go_meet
          exact ⟨rfl, rfl, rfl⟩
      case rest =>
        obtain ⟨rfl, rfl, rfl⟩ := hcut
        clear HA0 HB0
        by_cases hA : A < 0
        · have dA : decide (A < 0) = true := decide_eq_true hA
          go_wp2_with (refine wpList_store_row rfl 24 (.tmp 2) (.tmp 32) rfl w.heap.size _ rfl rfl 24 _ Nd.out.z (by rw [bcells_size, Z32_len]; exact size32b) rfl (bcells_one _) ?_)
          refine bodyPost_ret (v := .tuple #[.agg (bcells Z32), .int .i64 7]) ?_ rfl ⟨congrArg Ending.returned (parseOut_bad (i := E) (by have := HE.out; omega) (by rw [← HA.out]; exact hA)).symm, Below_setRow Nd.out.bel (Nat.le_refl _) _⟩
          have hld := run_loadVar_row (P := Tryd.prog) (wr.drew.setRow w.heap.size (bcells Z32)) w.heap.size 24 24 (bcells Z32) (0, 0) _ (setRow_heap _ _ _ _ _ _ Nd.out.z) Tryd.underlying24 rfl (by rw [bcells_size, Z32_len]; exact size32b)
          rw [results_cell_tmp rfl]
          simp [asAddr, Result.andThen, hld]
        · have dA : decide (A < 0) = false := decide_eq_false hA
          by_cases hB : B < 0
          · have dB : decide (B < 0) = true := decide_eq_true hB
            go_wp2_with (refine wpList_store_row rfl 24 (.tmp 2) (.tmp 32) rfl w.heap.size _ rfl rfl 24 _ Nd.out.z (by rw [bcells_size, Z32_len]; exact size32b) rfl (bcells_one _) ?_)
            refine bodyPost_ret (v := .tuple #[.agg (bcells Z32), .int .i64 7]) ?_ rfl ⟨congrArg Ending.returned (parseOut_bad (i := E + 1) (by have := HE.out; omega) (by rw [← HB.out]; exact hB)).symm, Below_setRow Nd.out.bel (Nat.le_refl _) _⟩
            have hld := run_loadVar_row (P := Tryd.prog) (wr.drew.setRow w.heap.size (bcells Z32)) w.heap.size 24 24 (bcells Z32) (0, 0) _ (setRow_heap _ _ _ _ _ _ Nd.out.z) Tryd.underlying24 rfl (by rw [bcells_size, Z32_len]; exact size32b)
            rw [results_cell_tmp rfl]
            simp [asAddr, Result.andThen, hld]
          · have dB : decide (B < 0) = false := decide_eq_false hB
            obtain ⟨a, rfl⟩ := Int.eq_ofNat_of_zero_le (by omega : 0 ≤ A)
            obtain ⟨b, rfl⟩ := Int.eq_ofNat_of_zero_le (by omega : 0 ≤ B)
            have ha : a < 16 := by omega
            have hb : b < 16 := by omega
            go_upto_region 10 with (fail)
            have c1 := cell_bytes Nd.out.o k (by rw [firstB_len]; exact hlt)
            have f1 := frozen_of_row wr.drew (w.heap.size + 1) k _ _ Nd.out.o
            go_wp2
            go_roundw
            case rel =>
              have hv := or_dig a b ha hb
              have hp : pv l k = UInt8.ofNat (16 * a + b) := by
                unfold pv
                rw [← HE.out, ← HA.out, ← HB.out]; simp
              rw [hv, ← hp]
              refine ⟨k + 1, by omega, by go_num, (heap_setCell_other _ _ _ _ (by simp)).trans N.out.z, ?_, ?_, ((N.out.bel).setCell (by simp) _).drew⟩
              · refine (heap_setCell_same _ _ _ _ _ _ N.out.o).trans ?_
                rw [bcells_set]
                exact congrArg (fun l => some (Obj.cells (bcells l) 24 (0, 0))) (firstB_set (pv l) 32 k)
              · intro i hi
                have hE' := HE.out
                by_cases h1 : i < 2 * k
                · exact N.out.good i h1
                · by_cases h2 : i = E
                  · rw [h2, ← HA.out]; omega
                  · rw [show i = E + 1 by omega, ← HB.out]; omega
            case measure => simp [intOf]; omega
    · obtain rfl : k = 32 := by omega
      have dlt : decide ((32 : Int) < 32) = false := by simp
      go_wp2_with (first | (refine wpList_load_row rfl 24 (.tmp 4) rfl (w.heap.size + 1) rfl 24 _ (0, 0) _ N.out.o Tryd.underlying24 rfl (by rw [bcells_size, firstB_len]; exact size32b) ?_) | (refine wpList_store_row rfl 24 (.tmp 2) (.tmp 41) rfl w.heap.size _ rfl rfl 24 _ N.out.z (by rw [bcells_size, firstB_len]; exact size32b) (by rw [bcells_size, bcells_size, firstB_len, Z32_len]) (bcells_one _) ?_))
      refine bodyPost_ret (v := .tuple #[.agg (bcells (firstB (pv l) 32 32)), .int .i64 0]) ?_ rfl ⟨congrArg Ending.returned (parseOut_good N.out.good).symm, Below_setRow N.out.bel (Nat.le_refl _) _⟩
      have hld := run_loadVar_row (P := Tryd.prog) (wr.setRow w.heap.size (bcells (firstB (pv l) 32 32))) w.heap.size 24 24 (bcells (firstB (pv l) 32 32)) (0, 0) _ (setRow_heap _ _ _ _ _ _ N.out.z) Tryd.underlying24 rfl (by rw [bcells_size, firstB_len]; exact size32b)
      rw [results_cell_tmp rfl]
      simp [asAddr, Result.andThen, hld]
end Go.Proofs.YtdfpjhpkkhdpoaaDoor

/-
  Walks over the digest seat: the words of a block.
-/
import Derived.Test.YtdfpjhpkkhdpoaaDoorA1
import Derived.Deep.WholeRow
import Derived.StillTailTactics
namespace Go.Proofs.YtdfpjhpkkhdpoaaDoor
open Go.RowKit
theorem zeros16 : (#[.int .u32 0, .int .u32 0, .int .u32 0, .int .u32 0, .int .u32 0, .int .u32 0, .int .u32 0, .int .u32 0, .int .u32 0, .int .u32 0, .int .u32 0, .int .u32 0, .int .u32 0, .int .u32 0, .int .u32 0, .int .u32 0] : Array Value) = wcells (List.replicate 16 0) := by
  simp [wcells, wi, List.replicate]
set_option maxHeartbeats 400000 in
theorem split_any (b : List UInt8) (w : World) (hb : b.length = 64) :
    Calls Tryd.prog 44 #[.agg (bcells b)] w fun e w' => e = .returned (.agg (wcells (wordsOf b))) ∧ Below w.heap.size w w' := by
  go_enter Tryd.func44, Tryd.ntmps44
  go_wp2
  rw [zeros16]
  go_loopw [4, 5] (fun _ i wr => ∃ k : Nat, k ≤ 16 ∧ i = .int .i64 k ∧ wr.heap[w.heap.size]? = some (.cells (bcells b) 72 (0, 0)) ∧
      wr.heap[w.heap.size + 1]? = some (.cells (wcells (List.replicate 16 0)) 70 (0, 0)) ∧ wr.heap[w.heap.size + 2]? = some (.cells (wcells (firstW (wordAt b) 16 k)) 70 (0, 0)) ∧ Below w.heap.size w wr)
    (fun _ i _ => 16 - (intOf i).toNat)
  case atStart =>
    refine ⟨0, by omega, rfl, ?_, ?_, ?_, ?_⟩
    · exact heap_old (heap_old (heap_new rfl))
    · exact heap_old (heap_new (by simp only [size_alloc1]))
    · rw [firstW_zero]; exact heap_new (by simp only [size_alloc1])
    · exact (((Below.refl _ _).alloc (Nat.le_refl _) _).alloc (by simp) _).alloc (by simp; omega) _
  case round =>
    obtain ⟨k, hk, rfl, hB0, hB1, hB2, hbel⟩ := hrel
    by_cases hlt : k < 16
    · have c0 := cell_bytes hB0 (4 * k) (by omega)
      have c1 := cell_bytes hB0 (4 * k + 1) (by omega)
      have c2 := cell_bytes hB0 (4 * k + 2) (by omega)
      have c3 := cell_bytes hB0 (4 * k + 3) (by omega)
      have c4 := cell_words hB2 k (by rw [firstW_len]; omega)
      have f4 := frozen_of_row wr (w.heap.size + 2) k _ _ hB2
      have HB2 := Lib.hid hB2
      have HB1 := Lib.hid hB1
      have HB0 := Lib.hid hB0
      have HB := Lib.hid hbel
      have Hb := Lib.hid hb
      clear hB2 hB1 hB0 hbel hb
      go_wp2
      have e0 : IntKind.i64.wrap (4 * (k : Int)) = 4 * (k : Int) := i64_id _ (by omega) (by omega)
      have e1 : IntKind.i64.wrap (4 * (k : Int) + 1) = 4 * (k : Int) + 1 := i64_id _ (by omega) (by omega)
      have e2 : IntKind.i64.wrap (4 * (k : Int) + 2) = 4 * (k : Int) + 2 := i64_id _ (by omega) (by omega)
      have e3 : IntKind.i64.wrap (4 * (k : Int) + 3) = 4 * (k : Int) + 3 := i64_id _ (by omega) (by omega)
      have n0 : (4 * (k : Int)).toNat = 4 * k := by omega
      have n1 : (4 * (k : Int) + 1).toNat = 4 * k + 1 := by omega
      have n2 : (4 * (k : Int) + 2).toNat = 4 * k + 2 := by omega
      have n3 : (4 * (k : Int) + 3).toNat = 4 * k + 3 := by omega
      have p0 : 0 ≤ 4 * (k : Int) := by omega
      have p1 : 0 ≤ 4 * (k : Int) + 1 := by omega
      have p2 : 0 ≤ 4 * (k : Int) + 2 := by omega
      have p3 : 0 ≤ 4 * (k : Int) + 3 := by omega
      have q0 : 4 * (k : Int) < 64 := by omega
      have q1 : 4 * (k : Int) + 1 < 64 := by omega
      have q2 : 4 * (k : Int) + 2 < 64 := by omega
      have q3 : 4 * (k : Int) + 3 < 64 := by omega
      go_still_tail 31, (by kernel_rfl)
      change wpList _ _ _ _ _ wr.drew
      go_wp2
      go_roundw
      case rel =>
        refine ⟨k + 1, by omega, by go_num, ?_, ?_, ?_, ?_⟩
        · exact (heap_setCell_other _ _ _ _ (by simp only; omega)).trans HB0.out
        · exact (heap_setCell_other _ _ _ _ (by simp only; omega)).trans HB1.out
        · rw [heap_drew]
          refine (heap_setCell_same _ _ _ _ _ _ HB2.out).trans ?_
          rw [wcells_set, ← firstW_set]; rfl
        · exact ((HB.out).setCell (by simp only; omega) _).drew
      case measure => simp [intOf]; omega
    · obtain rfl : k = 16 := by omega
      have HB := Lib.hid hbel
      clear hbel
      go_wp2_with (first | (refine wpList_load_row rfl 70 _ rfl (w.heap.size + 2) rfl 70 _ (0, 0) _ hB2 Tryd.underlying70 rfl (by rw [wcells_size, firstW_len]; exact size16w) ?_) | (refine wpList_store_row rfl 70 _ _ rfl (w.heap.size + 1) _ rfl rfl 70 _ hB1 (by rw [wcells_size, firstW_len]; exact size16w) (by simp only [wcells_size, firstW_len, List.length_replicate]) (wcells_one _) ?_))
      refine bodyPost_ret (v := .agg (wcells (firstW (wordAt b) 16 16))) ?_ rfl ⟨by rw [firstW_all]; rfl, Below_setRow HB.out (by omega) _⟩
      exact results_cell_row rfl _ _ (w.heap.size + 1) 70 _ (0, 0) _ rfl (setRow_heap _ _ _ _ _ _ hB1) Tryd.underlying70 rfl (by rw [wcells_size, firstW_len]; exact size16w)
end Go.Proofs.YtdfpjhpkkhdpoaaDoor

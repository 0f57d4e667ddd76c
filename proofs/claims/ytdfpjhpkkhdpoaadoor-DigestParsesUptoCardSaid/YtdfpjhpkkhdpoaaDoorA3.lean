/-
  Walks over the digest seat: the schedule.
-/
import Derived.Test.YtdfpjhpkkhdpoaaDoorA2
import Derived.Laws.CopyOwn
namespace Go.Proofs.YtdfpjhpkkhdpoaaDoor
open Go.RowKit
theorem size30 : (Tryd.prog.info? 30).map (·.size) = some 1 := by kernel_rfl
set_option maxHeartbeats 400000 in
theorem sched_any (ws : List (BitVec 32)) (w : World) (hb : ws.length = 16) :
    Calls Tryd.prog 50 #[.agg (wcells ws)] w fun e w' => e = .returned (.agg (wcells (sched ws))) ∧ Below w.heap.size w w' := by
  go_enter Tryd.func50, Tryd.ntmps50
  go_wp2
  rw [zeros64]
  have h0 : (((w.alloc (.cells (wcells ws) 70)).alloc (.cells (wcells (List.replicate 64 0)) 74)).alloc (.cells (wcells (List.replicate 64 0)) 74)).heap[w.heap.size]? = some (.cells (wcells ws) 70 (0, 0)) := heap_old (heap_old (heap_new rfl))
  have h1 : (((w.alloc (.cells (wcells ws) 70)).alloc (.cells (wcells (List.replicate 64 0)) 74)).alloc (.cells (wcells (List.replicate 64 0)) 74)).heap[w.heap.size + 1]? = some (.cells (wcells (List.replicate 64 0)) 74 (0, 0)) := heap_old (heap_new (by simp only [size_alloc1]))
  have h2 : (((w.alloc (.cells (wcells ws) 70)).alloc (.cells (wcells (List.replicate 64 0)) 74)).alloc (.cells (wcells (List.replicate 64 0)) 74)).heap[w.heap.size + 2]? = some (.cells (wcells (List.replicate 64 0)) 74 (0, 0)) := heap_new (by simp only [size_alloc1])
  have hbel : Below w.heap.size w (((w.alloc (.cells (wcells ws) 70)).alloc (.cells (wcells (List.replicate 64 0)) 74)).alloc (.cells (wcells (List.replicate 64 0)) 74)) := (((Below.refl _ _).alloc (Nat.le_refl _) _).alloc (by simp) _).alloc (by simp; omega) _
  generalize (((w.alloc (.cells (wcells ws) 70)).alloc (.cells (wcells (List.replicate 64 0)) 74)).alloc (.cells (wcells (List.replicate 64 0)) 74)) = w1 at *
  have H0 := Lib.hid h0
  have H1 := Lib.hid h1
  have H2 := Lib.hid h2
  have HB := Lib.hid hbel
  have Hl := Lib.hid hb
  clear h0 h1 h2 hbel hb
  go_still_tail 2, (by kernel_rfl)
  change wpList _ _ _ _ _ w1.drew
  refine wpList_copy_own rfl _ _ 79 79 rfl 30 Tryd.underlying79 size30 (w.heap.size + 2) 0 64 64 ⟨w.heap.size, 0, none⟩ 16 16 rfl rfl _ _ H2.out (wcells ws).toList ?_ ?_ ?_ ?_ ?_
  · simp [wcells_size, Hl.out]
  · intro j v hv
    have : j < 16 := by
      have := (List.getElem?_eq_some_iff.1 hv).1; simpa [wcells_size, Hl.out] using this
    rw [show (⟨w.heap.size, 0, none⟩ : Addr).add j = ⟨w.heap.size, j, none⟩ by unfold Addr.add; split <;> simp_all]
    exact (cell_of_row w1 _ j _ _ _ H0.out).trans (by simpa using hv)
  · simp [wcells_size, Hl.out]
  · intro v hv; exact (Array.all_eq_true_iff_forall_mem.1 (wcells_one ws)) v (by simpa using hv)
  have e2 : ((wcells (List.replicate 64 0)).toList.take 0 ++ ((wcells ws).toList ++ (wcells (List.replicate 64 0)).toList.drop (0 + (wcells ws).toList.length))).toArray = wcells (schedPad ws 0) := by
    simp [wcells, schedPad, schedTo, Hl.out]
  rw [e2]
  have h0 : (w1.drew.setRow (w.heap.size + 2) (wcells (schedPad ws 0))).heap[w.heap.size]? = some (.cells (wcells ws) 70 (0, 0)) := (setRow_other _ _ _ _ (by omega)).trans H0.out
  have h1 : (w1.drew.setRow (w.heap.size + 2) (wcells (schedPad ws 0))).heap[w.heap.size + 1]? = some (.cells (wcells (List.replicate 64 0)) 74 (0, 0)) := (setRow_other _ _ _ _ (by omega)).trans H1.out
  have h2 : (w1.drew.setRow (w.heap.size + 2) (wcells (schedPad ws 0))).heap[w.heap.size + 2]? = some (.cells (wcells (schedPad ws 0)) 74 (0, 0)) := setRow_heap _ _ _ _ _ _ H2.out
  have hbel : Below w.heap.size w (w1.drew.setRow (w.heap.size + 2) (wcells (schedPad ws 0))) := Below_setRow HB.out.drew (by omega) _
  generalize w1.drew.setRow (w.heap.size + 2) (wcells (schedPad ws 0)) = w2 at *
  clear H0 H1 H2 HB e2
  have H0 := Lib.hid h0
  have H1 := Lib.hid h1
  have H2 := Lib.hid h2
  have HB := Lib.hid hbel
  clear h0 h1 h2 hbel
  go_wp2
  go_loopw [4, 5, 6] (fun i _ _ wr => ∃ k : Nat, k ≤ 48 ∧ i = .int .i64 (16 + k : Nat) ∧ 
      wr.heap[w.heap.size + 1]? = some (.cells (wcells (List.replicate 64 0)) 74 (0, 0)) ∧ wr.heap[w.heap.size + 2]? = some (.cells (wcells (schedPad ws k)) 74 (0, 0)) ∧ Below w.heap.size w wr)
    (fun i _ _ _ => 64 - (intOf i).toNat)
  case atStart => exact ⟨0, by omega, rfl, H1.out, H2.out, HB.out⟩
  case round =>
    clear H1 H2 HB
    obtain ⟨k, hk, rfl, hB1, hB2, hbel⟩ := hrel
    have hp := schedPad_len ws Hl.out k hk
    by_cases hlt : k < 48
    · have c15 := cell_words hB2 (16 + k - 15) (by rw [hp]; omega)
      have c2 := cell_words hB2 (16 + k - 2) (by rw [hp]; omega)
      rw [schedPad_at ws Hl.out k _ (by omega)] at c15 c2
      have HB2 := Lib.hid hB2
      have HB1 := Lib.hid hB1
      have HB := Lib.hid hbel
      have Hp := Lib.hid hp
      clear hB2 hB1 hbel hp
      generalize ht : 16 + k = t at *
      have Ht := Lib.hid ht
      have ht0 : 16 ≤ t := by omega
      have ht1 : t < 64 := by omega
      clear ht
      have e15 : IntKind.i64.wrap ((t : Int) - 15) = (t : Int) - 15 := i64_id _ (by omega) (by omega)
      have e2 : IntKind.i64.wrap ((t : Int) - 2) = (t : Int) - 2 := i64_id _ (by omega) (by omega)
      have e16 : IntKind.i64.wrap ((t : Int) - 16) = (t : Int) - 16 := i64_id _ (by omega) (by omega)
      have e7 : IntKind.i64.wrap ((t : Int) - 7) = (t : Int) - 7 := i64_id _ (by omega) (by omega)
      have n15 : ((t : Int) - 15).toNat = t - 15 := by omega
      have n2 : ((t : Int) - 2).toNat = t - 2 := by omega
      have n16 : ((t : Int) - 16).toNat = t - 16 := by omega
      have n7 : ((t : Int) - 7).toNat = t - 7 := by omega
      have p15 : 15 ≤ (t : Int) := by omega
      have p2 : 2 ≤ (t : Int) := by omega
      have p16 : 16 ≤ (t : Int) := by omega
      have p7 : 7 ≤ (t : Int) := by omega
      have q15 : (t : Int) - 15 < 64 := by omega
      have q2 : (t : Int) - 2 < 64 := by omega
      have q16 : (t : Int) - 16 < 64 := by omega
      have q7 : (t : Int) - 7 < 64 := by omega
      go_wp2
      go_quiet (fail)
      go_wp2
      have HB2d : Hid ((wr.drewN nq).heap[w.heap.size + 2]? = some (.cells (wcells (schedPad ws k)) 74 (0, 0))) := Lib.hid HB2.out
      have HB1d : Hid ((wr.drewN nq).heap[w.heap.size + 1]? = some (.cells (wcells (List.replicate 64 0)) 74 (0, 0))) := Lib.hid HB1.out
      have HBd : Hid (Below w.heap.size w (wr.drewN nq)) := Lib.hid (below_drewN HB.out _)
      clear HB2 HB1 HB c15 c2
      generalize wr.drewN nq = wd at *
      have c16 := cell_words HB2d.out (t - 16) (by rw [Hp.out]; omega)
      have c7 := cell_words HB2d.out (t - 7) (by rw [Hp.out]; omega)
      have c0 := cell_words HB2d.out t (by rw [Hp.out]; omega)
      have f0 := frozen_of_row wd (w.heap.size + 2) t _ _ HB2d.out
      rw [schedPad_at ws Hl.out k _ (by have := Ht.out; omega)] at c16 c7
      go_still_tail 29, (by kernel_rfl)
      still_call (rot_still _ _ _ (by decide) (by decide))
      repeat still_step
      still_call (rot_still _ _ _ (by decide) (by decide))
      repeat still_step
      still_call (rot_still _ _ _ (by decide) (by decide))
      repeat still_step
      still_call (rot_still _ _ _ (by decide) (by decide))
      repeat still_step
      refine wpStill_nil ?_
      change wpList _ _ _ _ _ wd.drew
      go_wp2
      go_roundw
      case rel =>
        refine ⟨k + 1, by omega, by have := Ht.out; simp only [Value.int.injEq, true_and]; omega, ?_, ?_, ?_⟩
        · exact (heap_setCell_other _ _ _ _ (by simp only; omega)).trans HB1d.out
        · rw [heap_drew]
          refine (heap_setCell_same _ _ _ _ _ _ HB2d.out).trans ?_
          rw [wcells_set]
          have := Ht.out
          subst this
          exact congrArg (fun l => some (Obj.cells (wcells l) 74 (0, 0))) (schedPad_next ws Hl.out k (by omega) _ rfl)
        · exact ((HBd.out).setCell (by simp only; omega) _).drew
      case measure => simp [intOf]; omega
    · obtain rfl : k = 48 := by omega
      have HB := Lib.hid hbel
      clear hbel
      go_wp2_with (first | (refine wpList_load_row rfl 74 _ rfl (w.heap.size + 2) rfl 74 _ (0, 0) _ hB2 Tryd.underlying74 rfl (by rw [wcells_size, hp]; exact size64w) ?_) | (refine wpList_store_row rfl 74 _ _ rfl (w.heap.size + 1) _ rfl rfl 74 _ hB1 (by rw [wcells_size, hp]; exact size64w) (by simp only [wcells_size, hp, List.length_replicate]) (wcells_one _) ?_))
      refine bodyPost_ret (v := .agg (wcells (schedPad ws 48))) ?_ rfl ⟨by rw [schedPad_all], Below_setRow HB.out (by omega) _⟩
      exact results_cell_row rfl _ _ (w.heap.size + 1) 74 _ (0, 0) _ rfl (setRow_heap _ _ _ _ _ _ hB1) Tryd.underlying74 rfl (by rw [wcells_size, hp]; exact size64w)
end Go.Proofs.YtdfpjhpkkhdpoaaDoor

/-
  Walks over the digest seat: a block's rounds.
-/
import Derived.Test.YtdfpjhpkkhdpoaaDoorA3
import Derived.Deep.DeepCutAuto
namespace Go.Proofs.YtdfpjhpkkhdpoaaDoor
open Go.RowKit
theorem info30 : (Tryd.prog.info? 30).map (fun i => (i.zero, i.size, i.bytes)) = some (some (.int .u32 0), 1, 4) := by kernel_rfl
theorem agg30 (w : World) : (isAgg 30).run Tryd.prog w = .ok false w := by kernel_rfl
theorem idx_words (t n : Nat) (h : Tryd.prog.underlying t = some (.array n 30)) (vs : List (BitVec 32)) (j : Nat) (hj : j < n) (hl : vs.length = n) (w : World) :
    (Instr.index t (.agg (wcells vs)) (.int .i64 (j : Int))).run Tryd.prog w = .ok (.int .u32 (wi (wAt vs j))) w := by
  have hg := wcells_get vs j (by omega)
  have hz : (sizeOf 30).run Tryd.prog w = .ok 1 w := by kernel_rfl
  have hw : vs[j]'(by omega) = wAt vs j := by simp [wAt, show j < vs.length by omega]
  rw [hw] at hg
  simp [Instr.index, run_underlying h, asIntOf, part, hj, Sem.run_bind, hz, agg30, Result.andThen, hg, go_sem]
theorem cells8 (v : V8) : (#[.int .u32 (wi v.a), .int .u32 (wi v.b), .int .u32 (wi v.c), .int .u32 (wi v.d), .int .u32 (wi v.e), .int .u32 (wi v.f), .int .u32 (wi v.g), .int .u32 (wi v.h)] : Array Value) = wcells v.list := rfl
set_option maxRecDepth 100000 in
set_option maxHeartbeats 1000000 in
theorem mix_any (hs ws : List (BitVec 32)) (w : World) (hT : Tabs w) (hh : hs.length = 8) (hb : ws.length = 16) :
    Calls Tryd.prog 43 #[.agg (wcells hs), .agg (wcells ws)] w fun e w' => e = .returned (.agg (wcells (mixW hs ws))) ∧ Below w.heap.size w w' := by
  have HT := Lib.hid hT
  have Hl := Lib.hid hb
  have Hh := Lib.hid hh
  have hz := hT.2.2
  clear hT hb hh
  go_enter Tryd.func43, Tryd.ntmps43
  go_upto_region 1 with (fail)
  rw [zeros8]
  have h0 : (((w.alloc (.cells (wcells hs) 31)).alloc (.cells (wcells ws) 70)).alloc (.cells (wcells (List.replicate 8 0)) 31)).heap[w.heap.size]? = some (.cells (wcells hs) 31 (0, 0)) := heap_old (heap_old (heap_new rfl))
  have h1 : (((w.alloc (.cells (wcells hs) 31)).alloc (.cells (wcells ws) 70)).alloc (.cells (wcells (List.replicate 8 0)) 31)).heap[w.heap.size + 1]? = some (.cells (wcells ws) 70 (0, 0)) := heap_old (heap_new (by simp only [size_alloc1]))
  have h2 : (((w.alloc (.cells (wcells hs) 31)).alloc (.cells (wcells ws) 70)).alloc (.cells (wcells (List.replicate 8 0)) 31)).heap[w.heap.size + 2]? = some (.cells (wcells (List.replicate 8 0)) 31 (0, 0)) := heap_new (by simp only [size_alloc1])
  have hs3 : (((w.alloc (.cells (wcells hs) 31)).alloc (.cells (wcells ws) 70)).alloc (.cells (wcells (List.replicate 8 0)) 31)).heap.size = w.heap.size + 3 := by simp only [size_alloc1]
  have hbel : Below w.heap.size w (((w.alloc (.cells (wcells hs) 31)).alloc (.cells (wcells ws) 70)).alloc (.cells (wcells (List.replicate 8 0)) 31)) := (((Below.refl _ _).alloc (Nat.le_refl _) _).alloc (by simp) _).alloc (by simp; omega) _
  generalize (((w.alloc (.cells (wcells hs) 31)).alloc (.cells (wcells ws) 70)).alloc (.cells (wcells (List.replicate 8 0)) 31)) = w3 at *
  have H0 := Lib.hid h0
  have H1 := Lib.hid h1
  have H2 := Lib.hid h2
  have HB := Lib.hid hbel
  have Hs := Lib.hid hs3
  clear h0 h1 h2 hbel hs3
  go_wp2_with (first | (refine wpList_load_row rfl 70 (.tmp 3) rfl (w.heap.size + 1) rfl 70 _ (0, 0) _ H1.out Tryd.underlying70 rfl (by rw [wcells_size, Hl.out]; exact size16w) ?_) | (go_at_call 50; refine (sched_any _ _ Hl.out).mono ?_; rintro e w1 ⟨rfl, hb1⟩; have HB1 := Lib.hid hb1; clear hb1) | (refine wpList_store_row rfl 74 (.tmp 5) (.tmp 20) rfl _ _ rfl rfl 74 _ (heap_new rfl) (by rw [wcells_size, sched_len _ Hl.out]; exact size64w) (by rw [wcells_size, sched_len _ Hl.out]; rfl) (wcells_one _) ?_))
  rw [World.setRow_alloc_new]
  have hz1 : w.heap.size + 3 ≤ w1.heap.size := by have := HB1.out.size; have := Hs.out; omega
  have g0 : (w1.alloc (.cells (wcells (sched ws)) 74)).heap[w.heap.size]? = some (.cells (wcells hs) 31 (0, 0)) := heap_old ((HB1.out.block _ (by have := Hs.out; omega)).trans H0.out)
  have g2 : (w1.alloc (.cells (wcells (sched ws)) 74)).heap[w.heap.size + 2]? = some (.cells (wcells (List.replicate 8 0)) 31 (0, 0)) := heap_old ((HB1.out.block _ (by have := Hs.out; omega)).trans H2.out)
  have g3 : (w1.alloc (.cells (wcells (sched ws)) 74)).heap[w1.heap.size]? = some (.cells (wcells (sched ws)) 74 (0, 0)) := heap_new rfl
  have gb : Below w.heap.size w (w1.alloc (.cells (wcells (sched ws)) 74)) := (HB.out.trans (HB1.out.mono (by have := Hs.out; omega))).alloc (by omega) _
  have gT : Tabs (w1.alloc (.cells (wcells (sched ws)) 74)) := HT.out.below gb hz
  generalize w1.alloc (.cells (wcells (sched ws)) 74) = wm at *
  clear H0 H1 H2 HB1 HB
  have c0 := cell_words g0 0 (by rw [Hh.out]; omega)
  have c1 := cell_words g0 1 (by rw [Hh.out]; omega)
  have c2 := cell_words g0 2 (by rw [Hh.out]; omega)
  have c3 := cell_words g0 3 (by rw [Hh.out]; omega)
  have c4 := cell_words g0 4 (by rw [Hh.out]; omega)
  have c5 := cell_words g0 5 (by rw [Hh.out]; omega)
  have c6 := cell_words g0 6 (by rw [Hh.out]; omega)
  have c7 := cell_words g0 7 (by rw [Hh.out]; omega)
  have G0 := Lib.hid g0
  have G2 := Lib.hid g2
  have G3 := Lib.hid g3
  have GB := Lib.hid gb
  have GT := Lib.hid gT
  clear g0 g2 g3 gb gT
  go_quiet (fail)
  go_wp2
  obtain ⟨Wb, hWb⟩ : ∃ Wb, Wb = w1.heap.size := ⟨_, rfl⟩
  rw [← hWb] at G3 hz1 ⊢
  have HWb := Lib.hid hWb
  clear hWb
  go_loopw [6, 7, 8, 9, 10, 11, 12, 13, 37] (fun a b c d e f g h i wr => ∃ k : Nat, k ≤ 64 ∧ i = .int .i64 k ∧ 
      a = .int .u32 (wi (runTo (V8.of hs) (sched ws) k).a) ∧ b = .int .u32 (wi (runTo (V8.of hs) (sched ws) k).b) ∧ c = .int .u32 (wi (runTo (V8.of hs) (sched ws) k).c) ∧ d = .int .u32 (wi (runTo (V8.of hs) (sched ws) k).d) ∧ 
      e = .int .u32 (wi (runTo (V8.of hs) (sched ws) k).e) ∧ f = .int .u32 (wi (runTo (V8.of hs) (sched ws) k).f) ∧ g = .int .u32 (wi (runTo (V8.of hs) (sched ws) k).g) ∧ h = .int .u32 (wi (runTo (V8.of hs) (sched ws) k).h) ∧ 
      wr.heap[w.heap.size]? = some (.cells (wcells hs) 31 (0, 0)) ∧ wr.heap[w.heap.size + 2]? = some (.cells (wcells (List.replicate 8 0)) 31 (0, 0)) ∧
      wr.heap[Wb]? = some (.cells (wcells (sched ws)) 74 (0, 0)) ∧ Below w.heap.size w wr ∧ Tabs wr)
    (fun _ _ _ _ _ _ _ _ i _ => 64 - (intOf i).toNat)
  case atStart => exact ⟨0, by omega, rfl, rfl, rfl, rfl, rfl, rfl, rfl, rfl, rfl, G0.out, G2.out, G3.out, below_drewN GB.out _, GT.out⟩
  case round =>
    clear G0 G2 G3 GB GT c0 c1 c2 c3 c4 c5 c6 c7
    obtain ⟨k, hk, rfl, rfl, rfl, rfl, rfl, rfl, rfl, rfl, rfl, g0, g2, g3, gb, gT⟩ := hrel
    by_cases hlt : k < 64
    · have cW := cell_words g3 k (by rw [sched_len _ Hl.out]; omega)
      have cK := gT.1 k hlt
      have G0 := Lib.hid g0
      have G2 := Lib.hid g2
      have G3 := Lib.hid g3
      have GB := Lib.hid gb
      have GT := Lib.hid gT
      clear g0 g2 g3 gb gT
      generalize hv : runTo (V8.of hs) (sched ws) k = v at *
      have Hv := Lib.hid hv
      clear hv
      go_wp2
      go_quiet ((go_at_call 51; exact Calls.quiet_of_same (rot_still _ _ _ (by decide) (by decide))))
      go_wp2_with (go_at_call 51; refine (rot_any _ _ _ (by decide) (by decide)).mono ?_; rintro e w' ⟨rfl, rfl⟩)
      go_roundw
      case rel => 
        refine ⟨k + 1, by omega, by go_num, ?_, ?_, ?_, ?_, ?_, ?_, ?_, ?_, G0.out, G2.out, G3.out, below_drewN GB.out _, GT.out⟩
        all_goals
          simp only [runTo]
          rw [Hv.out]
          rfl
      case measure => simp [intOf]; omega
    · obtain rfl : k = 64 := by omega
      have G0 := Lib.hid g0
      have G2 := Lib.hid g2
      have G3 := Lib.hid g3
      have GB := Lib.hid gb
      have GT := Lib.hid gT
      clear g0 g2 g3 gb gT
      generalize hv : runTo (V8.of hs) (sched ws) 64 = v at *
      have Hv := Lib.hid hv
      clear hv
      go_wp2
      rw [cells8]
      obtain ⟨vs, hvs⟩ : ∃ vs, vs = v.list := ⟨_, rfl⟩
      rw [← hvs]
      have Hvl : Hid (vs.length = 8) := Lib.hid (by rw [hvs]; rfl)
      have Hvs := Lib.hid hvs
      clear hvs G3 GT
      go_loopw [17, 18, 109] (fun _ _ i wx => ∃ j : Nat, j ≤ 8 ∧ i = .int .i64 j ∧ wx.heap[w.heap.size]? = some (.cells (wcells (addTo hs vs j)) 31 (0, 0)) ∧
          wx.heap[w.heap.size + 2]? = some (.cells (wcells (List.replicate 8 0)) 31 (0, 0)) ∧ Below w.heap.size w wx)
        (fun _ _ i _ => 8 - (intOf i).toNat)
      case atStart => exact ⟨0, by omega, rfl, by rw [addTo_zero]; exact G0.out, G2.out, GB.out⟩
      case round =>
        clear G0 G2 GB
        obtain ⟨j, hj, rfl, g0, g2, gb⟩ := hrel
        have gl := addTo_len hs vs Hh.out Hvl.out j hj
        by_cases hlj : j < 8
        · have hix := idx_words 31 8 Tryd.underlying31 vs j hlj Hvl.out
          have c0 := cell_words g0 j (by rw [gl]; omega)
          have f0 := frozen_of_row wr w.heap.size j _ _ g0
          rw [addTo_at hs vs Hh.out Hvl.out j hlj] at c0
          have G0 := Lib.hid g0
          have G2 := Lib.hid g2
          have GB := Lib.hid gb
          have Gl := Lib.hid gl
          clear g0 g2 gb gl
          go_wp2
          go_roundw
          case rel =>
            refine ⟨j + 1, by omega, by go_num, ?_, (heap_setCell_other _ _ _ _ (by simp only; omega)).trans G2.out, (GB.out).setCell (by simp only; omega) _⟩
            refine (heap_setCell_same _ _ _ _ _ _ G0.out).trans ?_
            rw [wcells_set]
            exact congrArg (fun l => some (Obj.cells (wcells l) 31 (0, 0))) (addTo_set hs vs Hh.out Hvl.out j hlj)
          case measure => simp [intOf]; omega
        · obtain rfl : j = 8 := by omega
          have GB := Lib.hid gb
          clear gb
          go_wp2_with (first | (refine wpList_load_row rfl 31 (.tmp 2) rfl w.heap.size rfl 31 _ (0, 0) _ g0 Tryd.underlying31 rfl (by rw [wcells_size, gl]; exact size8w) ?_) | (refine wpList_store_row rfl 31 (.tmp 4) (.tmp 120) rfl (w.heap.size + 2) _ rfl rfl 31 _ g2 (by rw [wcells_size, gl]; exact size8w) (by simp only [wcells_size, gl, List.length_replicate]) (wcells_one _) ?_))
          refine bodyPost_ret (v := .agg (wcells (addTo hs vs 8))) ?_ rfl ⟨by rw [addTo_all _ _ Hh.out Hvl.out, Hvs.out, ← Hv.out]; rfl, Below_setRow GB.out (by omega) _⟩
          exact results_cell_row rfl _ _ (w.heap.size + 2) 31 _ (0, 0) _ rfl (setRow_heap _ _ _ _ _ _ g2) Tryd.underlying31 rfl (by rw [wcells_size, gl]; exact size8w)
end Go.Proofs.YtdfpjhpkkhdpoaaDoor

/-
  Walks over the digest seat: New, Close.
-/
import Derived.Test.YtdfpjhpkkhdpoaaDoorB1
namespace Go.Proofs.YtdfpjhpkkhdpoaaDoor
open Go.RowKit
theorem Tabs.range0 {w : World} (h : Tabs w) : w.rangeAt 0 0 (wvals H8) := by
  intro j v hv
  have hj : j < 8 := by have := (List.getElem?_eq_some_iff.1 hv).1; rw [wvals_len, H8_len] at this; exact this
  rw [Nat.zero_add, h.2.1 j hj]
  have hj2 : j < H8.length := hj
  rw [← hv]
  simp [wvals, wAt, hj2]
theorem run_build1 (w : World) (x0 x1 x2 x3 x4 x5 x6 x7 : BitVec 32) :
    (Instr.build 33 #[(0, .agg (wcells [x0, x1, x2, x3, x4, x5, x6, x7]))]).run Tryd.prog w = .ok (.agg (dcells [x0, x1, x2, x3, x4, x5, x6, x7] none 0 0 0)) w := by kernel_rfl
theorem run_build1' (w : World) (hs : List (BitVec 32)) (h : hs.length = 8) : (Instr.build 33 #[(0, .agg (wcells hs))]).run Tryd.prog w = .ok (.agg (dcells hs none 0 0 0)) w := by
  obtain ⟨x0, x1, x2, x3, x4, x5, x6, x7, rfl⟩ := words8 h
  exact run_build1 ..
def build1A (x : Value) : Sem Next := do pure (.value (← Instr.build 33 #[(0, x)]))
theorem exec_build1 (ρ : Operand → Value) (d : Option Tmp) (x : Operand) (ty : TypeId) (pos : String) (af : Array Edge) (gd : Option (Nat × Bool)) :
    execOp ρ { dst := d, op := .build 33 #[(0, x)], type := ty, pos := pos, after := af, guard := gd } = build1A (ρ x) := by
  unfold execOp build1A
  simp
theorem run_build1A (w : World) (hs : List (BitVec 32)) (h : hs.length = 8) : (build1A (.agg (wcells hs))).run Tryd.prog w = .ok (.value (.agg (dcells hs none 0 0 0))) w := by
  unfold build1A
  simp only [Sem.run_bind, Sem.run_pure, run_build1' w hs h, Result.andThen_ok]
attribute [local go_sem ↓] exec_build1
attribute [local go_sem] run_build1A
set_option maxRecDepth 100000 in
set_option maxHeartbeats 1000000 in
theorem new_any (w : World) (hT : Tabs w) :
    Calls Tryd.prog 18 #[] w fun e w' => ∃ v, e = .returned v ∧ St w' v [] ∧ Below w.heap.size w w' := by
  obtain ⟨hs, hhs⟩ : ∃ hs, hs = H8 := ⟨_, rfl⟩
  have hl : hs.length = 8 := by rw [hhs]; rfl
  have hr := hT.range0
  have h2 := hT.2.2
  rw [← hhs] at hr
  have Hhs := Lib.hid hhs
  clear hhs hT
  go_enter Tryd.func18, Tryd.ntmps18
  go_upto_region 1 with (fail)
  rw [zeros33]
  have hr2 := range_below hr ((Below.refl _ _).alloc (Nat.le_refl _) (.cells (dcells (List.replicate 8 0) none 0 0 0) 33))
  have hg : (w.alloc (.cells (dcells (List.replicate 8 0) none 0 0 0) 33)).heap[w.heap.size]? = some (.cells (dcells (List.replicate 8 0) none 0 0 0) 33 (0, 0)) := heap_new rfl
  have hb : Below w.heap.size w (w.alloc (.cells (dcells (List.replicate 8 0) none 0 0 0) 33)) := (Below.refl _ _).alloc (Nat.le_refl _) _
  generalize w.alloc (.cells (dcells (List.replicate 8 0) none 0 0 0) 33) = w1 at *
  go_wp2_with (first | (refine wpList_load_mid rfl 31 (.global 0) rfl 0 0 rfl (wvals hs) _ hr2 Tryd.underlying31 rfl (by rw [wvals_len, hl]; exact size8w) ?_; rw [wvals_arr]) | (refine wpList_store_row rfl 33 (.tmp 0) (.tmp 2) rfl w.heap.size _ rfl rfl 33 _ hg (by rw [dcells_size _ _ _ _ _ hl]; exact size33) (by rw [dcells_size _ _ _ _ _ hl, dcells_size _ _ _ _ _ (by simp)]) (dcells_one _ _ _ _ _) ?_))
  refine bodyPost_ret (v := .agg (dcells hs none 0 0 0)) ?_ rfl ⟨_, rfl, ⟨none, 0, by rw [Hhs.out]; rfl, Bs_empty _ _ _ (Nat.zero_le _) (fun _ => rfl)⟩, Below_setRow hb (Nat.le_refl _) _⟩
  exact results_cell_row rfl _ _ w.heap.size 33 _ (0, 0) _ rfl (setRow_heap _ _ _ _ _ _ hg) Tryd.underlying33 rfl (by rw [dcells_size _ _ _ _ _ hl]; exact size33)
end Go.Proofs.YtdfpjhpkkhdpoaaDoor

/-
  The reference: its tables, its schedule.
-/
import Derived.Test.YtdfpjhpkkhdpoaaDoorA9
import Derived.Test.YtdfpjhpkkhdpoaaDoorR0
namespace Go.Proofs.YtdfpjhpkkhdpoaaDoor
open Go.RowKit
set_option linter.unusedSimpArgs false
set_option linter.unusedVariables false
theorem first_any (w : World) : Calls Tryd.prog 41 #[] w fun e w' => e = .returned (.agg (wcells H8)) ∧ Below w.heap.size w w' := by
  have hb : ∀ x, (Instr.build 31 #[(0, .int .u32 1779033703), (1, .int .u32 3144134277), (2, .int .u32 1013904242), (3, .int .u32 2773480762), (4, .int .u32 1359893119), (5, .int .u32 2600822924), (6, .int .u32 528734635), (7, .int .u32 1541459225)]).run Tryd.prog x = .ok (.agg (wcells H8)) x := fun x => by kernel_rfl
  go_enter Tryd.func41, Tryd.ntmps41
  go_wp2_with (refine wpList_store_row rfl 31 (.tmp 0) (.tmp 1) rfl _ _ rfl rfl 31 _ (heap_new rfl) (by kernel_rfl) rfl (wcells_one H8) ?_)
  rw [World.setRow_alloc_new]
  refine bodyPost_ret (v := .agg (wcells H8)) ?_ rfl ⟨rfl, (Below.refl _ _).alloc (Nat.le_refl _) _⟩
  exact results_cell_row rfl _ _ w.heap.size 31 _ (0, 0) _ rfl (heap_new rfl) Tryd.underlying31 rfl (by kernel_rfl)
set_option maxRecDepth 100000 in
set_option maxHeartbeats 4000000 in
theorem round_any (w : World) : Calls Tryd.prog 48 #[] w fun e w' => e = .returned (.agg (wcells K64)) ∧ Below w.heap.size w w' := by
  have hb : ∀ x, (Instr.build 74 #[(0, .int .u32 1116352408), (1, .int .u32 1899447441), (2, .int .u32 3049323471), (3, .int .u32 3921009573), (4, .int .u32 961987163), (5, .int .u32 1508970993), (6, .int .u32 2453635748), (7, .int .u32 2870763221), (8, .int .u32 3624381080), (9, .int .u32 310598401), (10, .int .u32 607225278), (11, .int .u32 1426881987), (12, .int .u32 1925078388), (13, .int .u32 2162078206), (14, .int .u32 2614888103), (15, .int .u32 3248222580), (16, .int .u32 3835390401), (17, .int .u32 4022224774), (18, .int .u32 264347078), (19, .int .u32 604807628), (20, .int .u32 770255983), (21, .int .u32 1249150122), (22, .int .u32 1555081692), (23, .int .u32 1996064986), (24, .int .u32 2554220882), (25, .int .u32 2821834349), (26, .int .u32 2952996808), (27, .int .u32 3210313671), (28, .int .u32 3336571891), (29, .int .u32 3584528711), (30, .int .u32 113926993), (31, .int .u32 338241895), (32, .int .u32 666307205), (33, .int .u32 773529912), (34, .int .u32 1294757372), (35, .int .u32 1396182291), (36, .int .u32 1695183700), (37, .int .u32 1986661051), (38, .int .u32 2177026350), (39, .int .u32 2456956037), (40, .int .u32 2730485921), (41, .int .u32 2820302411), (42, .int .u32 3259730800), (43, .int .u32 3345764771), (44, .int .u32 3516065817), (45, .int .u32 3600352804), (46, .int .u32 4094571909), (47, .int .u32 275423344), (48, .int .u32 430227734), (49, .int .u32 506948616), (50, .int .u32 659060556), (51, .int .u32 883997877), (52, .int .u32 958139571), (53, .int .u32 1322822218), (54, .int .u32 1537002063), (55, .int .u32 1747873779), (56, .int .u32 1955562222), (57, .int .u32 2024104815), (58, .int .u32 2227730452), (59, .int .u32 2361852424), (60, .int .u32 2428436474), (61, .int .u32 2756734187), (62, .int .u32 3204031479), (63, .int .u32 3329325298)]).run Tryd.prog x = .ok (.agg (wcells K64)) x := fun x => by kernel_rfl
  go_enter Tryd.func48, Tryd.ntmps48
  go_wp2_with (refine wpList_store_row rfl 74 (.tmp 0) (.tmp 1) rfl _ _ rfl rfl 74 _ (heap_new rfl) (by kernel_rfl) rfl (wcells_one K64) ?_)
  rw [World.setRow_alloc_new]
  refine bodyPost_ret (v := .agg (wcells K64)) ?_ rfl ⟨rfl, (Below.refl _ _).alloc (Nat.le_refl _) _⟩
  exact results_cell_row rfl _ _ w.heap.size 74 _ (0, 0) _ rfl (heap_new rfl) Tryd.underlying74 rfl (by kernel_rfl)
end Go.Proofs.YtdfpjhpkkhdpoaaDoor

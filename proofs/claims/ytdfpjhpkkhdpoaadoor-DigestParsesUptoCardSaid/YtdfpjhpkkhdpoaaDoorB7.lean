/-
  The examples of the chapter.
-/
import Derived.Test.YtdfpjhpkkhdpoaaDoorB6
import Derived.Lib.SlBytesConst
namespace Go.Proofs.YtdfpjhpkkhdpoaaDoor
open Go.RowKit
set_option maxRecDepth 100000 in
theorem ex_none : hexOf (Hv []) = [101, 51, 98, 48, 99, 52, 52, 50, 57, 56, 102, 99, 49, 99, 49, 52, 57, 97, 102, 98, 102, 52, 99, 56, 57, 57, 54, 102, 98, 57, 50, 52, 50, 55, 97, 101, 52, 49, 101, 52, 54, 52, 57, 98, 57, 51, 52, 99, 97, 52, 57, 53, 57, 57, 49, 98, 55, 56, 53, 50, 98, 56, 53, 53] := by decide +kernel
theorem ex_abc : hexOf (Hv [97, 98, 99]) = [98, 97, 55, 56, 49, 54, 98, 102, 56, 102, 48, 49, 99, 102, 101, 97, 52, 49, 52, 49, 52, 48, 100, 101, 53, 100, 97, 101, 50, 50, 50, 51, 98, 48, 48, 51, 54, 49, 97, 51, 57, 54, 49, 55, 55, 97, 57, 99, 98, 52, 49, 48, 102, 102, 54, 49, 102, 50, 48, 48, 49, 53, 97, 100] := by decide +kernel
theorem ex_leaf : hexOf (leafV [97, 98, 99]) = [54, 48, 57, 102, 54, 101, 51, 54, 100, 50, 52, 48, 53, 53, 56, 53, 49, 56, 56, 100, 53, 99, 102, 100, 55, 54, 49, 102, 52, 48, 55, 99, 55, 99, 99, 52, 54, 97, 55, 100, 51, 102, 51, 49, 52, 99, 56, 56, 50, 55, 48, 52, 54, 57, 100, 100, 101, 51, 49, 53, 102, 99, 100, 49] := by decide +kernel
theorem ex_node : hexOf (nodeV Z32 Z32) = [97, 101, 48, 55, 57, 56, 100, 48, 101, 99, 97, 101, 100, 50, 98, 55, 55, 56, 101, 100, 100, 101, 98, 102, 49, 56, 102, 48, 55, 49, 97, 53, 54, 49, 99, 53, 51, 54, 53, 56, 99, 48, 53, 101, 55, 54, 99, 101, 100, 101, 99, 99, 50, 55, 99, 97, 102, 98, 100, 98, 99, 53, 55, 55] := by decide +kernel
theorem Bel_step {w p w' : World} (h : Hid (Below w.heap.size w p)) (hb : Below p.heap.size p w') : Hid (Below w.heap.size w w') := Lib.hid (h.out.trans (hb.mono h.out.size))
theorem Tab_step {p w' : World} (h : Hid (Tabs p)) (hb : Below p.heap.size p w') : Hid (Tabs w') := Lib.hid (tabs_below h.out hb)
theorem Bel_al {w p : World} {o : Obj} (h : Hid (Below w.heap.size w p)) : Hid (Below w.heap.size w (p.alloc o)) := Lib.hid (h.out.alloc h.out.size _)
theorem Tab_al {p : World} {o : Obj} (h : Hid (Tabs p)) : Hid (Tabs (p.alloc o)) := Lib.hid (tabs_below h.out ((Below.refl _ _).alloc (Nat.le_refl _) _))
theorem conv_abc (w : World) : (convert 22 22 (.slice (some ⟨w.heap.size, 0, none⟩) 3 3)).run Tryd.prog (w.alloc (.cells #[.int .u8 97, .int .u8 98, .int .u8 99] 5)) =
    .ok (.slice (some ⟨w.heap.size, 0, none⟩) 3 3) (w.alloc (.cells #[.int .u8 97, .int .u8 98, .int .u8 99] 5 (3, 4))) :=
  Lib.run_convert_bytes_const w 22 5 #[.int .u8 97, .int .u8 98, .int .u8 99] 3 3 Tryd.underlying22 u8_under
theorem Bs_abc (w : World) (g : Nat) (hg : g = w.heap.size) : Bs (w.alloc (.cells #[.int .u8 97, .int .u8 98, .int .u8 99] 5 (3, 4))) (some ⟨g, 0, none⟩) 3 3 [97, 98, 99] :=
  Bs_cells (l := [97, 98, 99]) (heap_new hg) (by simp) (by unfold maxLen; simp)
attribute [local go_sem ↓] exec_build0
attribute [local go_sem] conv_abc run_build0A
set_option maxRecDepth 100000 in
set_option maxHeartbeats 1000000 in
theorem lives_any (w : World) (hT : Tabs w) : Calls Tryd.prog 14 #[] w fun e w' => e = .returned (.bool true) ∧ Below w.heap.size w w' := by
  have T0 := Lib.hid hT
  have B0 : Hid (Below w.heap.size w w) := Lib.hid (Below.refl _ _)
  clear hT
  go_enter Tryd.func14, Tryd.ntmps14
  go_upto_region 2 with (first
    | (go_at_call 12; refine (sum_any none 0 0 [] _ T0.out (Bs_empty _ _ _ (Nat.zero_le _) (fun _ => rfl)) (by omega)).mono ?_; rintro e w1 ⟨rfl, hb⟩; have T1 := Tab_step T0 hb; have B1 := Bel_step B0 hb; clear hb)
    | (go_at_call 29; refine (hex_any (Hv []) _ (Hv_len _)).mono ?_; rw [ex_none]; rintro e w2 ⟨rfl, hb⟩; have T2 := Tab_step T1 hb; have B2 := Bel_step B1 hb; clear hb))
  go_upto_region 3 with (first
    | (go_at_call 12; refine (sum_any _ 3 3 [97, 98, 99] _ (Tab_al T2).out (Bs_abc _ _ rfl) (by omega)).mono ?_; rintro e w3 ⟨rfl, hb⟩; have T3 := Tab_step (Tab_al T2) hb; have B3 := Bel_step (Bel_al B2) hb; clear hb)
    | (go_at_call 29; refine (hex_any (Hv [97, 98, 99]) _ (Hv_len _)).mono ?_; rw [ex_abc]; rintro e w4 ⟨rfl, hb⟩; have T4 := Tab_step T3 hb; have B4 := Bel_step B3 hb; clear hb))
  go_upto_region 4 with (first
    | (go_at_call 25; refine (leaf_any _ 3 3 [97, 98, 99] _ (Tab_al T4).out (Bs_abc _ _ rfl) (by omega)).mono ?_; rintro e w5 ⟨rfl, hb⟩; have T5 := Tab_step (Tab_al T4) hb; have B5 := Bel_step (Bel_al B4) hb; clear hb)
    | (go_at_call 29; refine (hex_any (leafV [97, 98, 99]) _ (Hv_len _)).mono ?_; rw [ex_leaf]; rintro e w6 ⟨rfl, hb⟩; have T6 := Tab_step T5 hb; have B6 := Bel_step B5 hb; clear hb))
  have hb0 : bcells (List.replicate 32 (0 : UInt8)) = bcells Z32 := rfl
  go_upto_region 5 with (first
    | (go_at_call 27; refine (node_any Z32 Z32 _ T6.out Z32_len Z32_len).mono ?_; rintro e w7 ⟨rfl, hb⟩; have T7 := Tab_step T6 hb; have B7 := Bel_step B6 hb; clear hb)
    | (go_at_call 29; refine (hex_any (nodeV Z32 Z32) _ (Hv_len _)).mono ?_; rw [ex_node]; rintro e w8 ⟨rfl, hb⟩; have T8 := Tab_step T7 hb; have B8 := Bel_step B7 hb; clear hb))
  go_wp2_with (first | (refine wpList_store_row rfl 24 (.tmp 5) (.tmp 27) rfl w9.heap.size _ rfl rfl 24 _ (heap_new rfl) (by rw [bcells_size, Z32_len]; exact size32b) (by rw [bcells_size, Z32_len]; rfl) (bcells_one _) ?_) | (go_at_call 30; refine (parse_short _ _ (by decide)).mono ?_; rintro e w9 ⟨rfl, hb⟩; have T9 := Tab_step T8 hb; have B9 := Bel_step B8 hb; clear hb))
  go_ret
  exact ⟨rfl, Below_setRow (B9.out.alloc B9.out.size _) B9.out.size _⟩
end Go.Proofs.YtdfpjhpkkhdpoaaDoor

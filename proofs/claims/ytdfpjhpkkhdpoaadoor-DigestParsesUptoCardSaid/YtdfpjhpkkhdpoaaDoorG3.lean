/-
  The law DigestLengths: its walk.
-/
import Derived.Test.YtdfpjhpkkhdpoaaDoorF5
import Derived.Test.YtdfpjhpkkhdpoaaDoorF7
import Derived.Test.YtdfpjhpkkhdpoaaDoorF8
import Derived.Test.YtdfpjhpkkhdpoaaDoorC2
import Derived.Test.YtdfpjhpkkhdpoaaDoorE1
namespace Go.Proofs.YtdfpjhpkkhdpoaaDoor
open Go.RowKit
set_option linter.unusedSimpArgs false
set_option linter.unusedVariables false
theorem SB.stB {p : World} {g : Nat} {l : List UInt8} (h : SB p g l) : ∃ v, (∀ W, Below p.heap.size p W → (load33A (.pointer (some ⟨g, 0, none⟩))).run Tryd.prog W = .ok (.value v) W) ∧ St p v l := by
  obtain ⟨a, c, hg, hB⟩ := h
  exact ⟨_, fun W hW => run_load33 (absH_len l) ((hW.block g (heap_lt hg)).trans hg), a, c, rfl, hB⟩
attribute [local go_sem ↓] exec_load33 exec_load24
attribute [local go_sem] run_eq24 Hv_len eqg24
attribute [local go_sem ↓] exec_at_zero exec_at_succ Go.wp_at_zero Go.wp_at_succ
set_option maxRecDepth 100000 in
set_option maxHeartbeats 1000000 in
theorem lengths_any (x s : Int) (w : World) (hT : Tabs w) (hx1 : -9223372036854775808 ≤ x) (hx2 : x ≤ 9223372036854775807) :
    Calls Tryd.prog 4 #[.int .i64 x, .int .i64 s] w fun e w' => e = .returned (.bool true) ∧ Below w.heap.size w w' := by
  have N0 := Lib.hid (Now.start hT)
  clear hT
  go_enter Tryd.func4, Tryd.ntmps4
  go_upto_region 2 with (first
    | (go_at_call 16; refine (around_any x 301 _ hx1 hx2 (by omega) (by omega)).mono ?_; rintro e w1 ⟨⟨r, hr, rfl⟩, rfl⟩)
    | (go_at_call 15; refine (bytes_any r s _ (by omega)).mono ?_; rintro e w2 ⟨ba, bc, l, hl, rfl, hB, hb⟩; have N2 := Lib.hid (N0.out.step hb); have HB := Lib.hid hB; have Hl := Lib.hid hl; clear hb hB hl))
  have Hr : Hid (r < 301) := Lib.hid (by omega)
  go_upto_region 3 with (first
    | (go_at_call 18; refine (new_any _ N2.out.tabs).mono ?_; rintro e w3 ⟨v3, rfl, S3, hb⟩; have N3 := Lib.hid (N2.out.step hb); have B3 := Lib.hid (HB.out.below hb); have HS3 := Lib.hid S3; clear hb S3)
    | (go_at_call 17; refine (write_any v3 [] ba r bc l _ N3.out.tabs HS3.out B3.out (by have := Hl.out; have := Hr.out; rw [List.length_nil]; omega)).mono ?_; rintro e w4 ⟨v4, rfl, ⟨ua, uc, rfl, hu⟩, hb⟩; rw [List.nil_append] at hu ⊢; have N4 := Lib.hid (N3.out.step hb); have B4 := Lib.hid (B3.out.below hb); have U4 := Lib.hid hu; clear hb hu)
    | (refine wpList_store_row rfl 33 (.tmp 6) (.tmp 13) rfl w4.heap.size _ rfl rfl 33 _ (heap_new rfl) (size33n _ _ _ _ _) (by rw [dcells_size _ _ _ _ _ (absH_len _)]; rfl) (dcells_one _ _ _ _ _) ?_; have B5 := Lib.hid (B4.out.below (stepAR w4 (.cells #[.int .u32 0, .int .u32 0, .int .u32 0, .int .u32 0, .int .u32 0, .int .u32 0, .int .u32 0, .int .u32 0, .slice none 0 0, .int .i64 0] 33) (dcells (absH H8 l) ua (absR l).length uc l.length))); obtain ⟨w5, hw5, hN, hz5⟩ := N4.out.put33 U4.out; rw [hw5] at B5 ⊢; have N5 := Lib.hid hN; clear hw5 hN hz5))
  generalize w4.heap.size = g at *
  clear N2 N3 N4 HS3 B3 B4 U4 HB
  go_region_with (first
    | (go_at_call 12; refine (sum_any ba r bc l _ N5.out.drew.tabs (Bs_drew B5.out) (by have := Hr.out; omega)).mono ?_; rintro e w6 ⟨rfl, hb⟩; have N6 := Lib.hid (N5.out.drew.step hb); have B6 := Lib.hid ((Bs_drew B5.out).below hb); clear hb)
    | (go_at_call 13; refine (rsum_any ba r bc l _ B6.out (by have := Hr.out; omega)).mono ?_; rintro e w7 ⟨rfl, hb⟩; have N7 := Lib.hid (N6.out.step hb); have B7 := Lib.hid (B6.out.below hb); obtain ⟨v7, L7, S7⟩ := (N7.out.sb (g, l) (by simp)).stB; have LD := Lib.hid L7; have HS7 := Lib.hid S7; have ld7 := L7 _ (Below.refl _ _); (try simp only at ld7); clear hb L7 S7)
    | (go_at_call 20; refine (state_any ba r bc l _ B7.out (by have := Hr.out; omega)).mono ?_; rintro e w8 ⟨v8, rfl, S8, hb⟩; have N8 := Lib.hid (N7.out.step hb); have HS8 := Lib.hid S8; have HS78 := Lib.hid (HS7.out.below hb); have ld8 := LD.out _ hb; (try simp only at ld8); clear hb S8)
    | (go_at_call 19; refine (same_any v7 v8 l _ HS78.out HS8.out).mono ?_; rintro e w9 ⟨rfl, hb⟩; have N9 := Lib.hid (N8.out.step hb); clear hb)
    | (go_at_call 14; refine (lives_any _ N9.out.tabs).mono ?_; rintro e w10 ⟨rfl, hb⟩; have N10 := Lib.hid (N9.out.step hb); clear hb))
  all_goals
    go_wp2_with fail
    go_ret
    exact ⟨rfl, N10.out.bel⟩
end Go.Proofs.YtdfpjhpkkhdpoaaDoor

/-
  Walks over the digest seat: Leaf, Node.
-/
import Derived.Test.YtdfpjhpkkhdpoaaDoorB3
namespace Go.Proofs.YtdfpjhpkkhdpoaaDoor
open Go.RowKit
attribute [local go_sem ↓] exec_at_zero exec_at_succ Go.wp_at_zero Go.wp_at_succ
theorem Bs_cells {w : World} {g c : Nat} {l : List UInt8} {t : TypeId} {fr : Nat × Nat} (hg : w.heap[g]? = some (.cells (bcells l) t fr)) (hc : l.length ≤ c) (hm : c ≤ maxLen) : Bs w (some ⟨g, 0, none⟩) l.length c l := by
  refine ⟨rfl, hc, hm, (fun h => by cases h), fun _ => ⟨g, 0, rfl, fun i hi => ?_⟩⟩
  rw [Nat.zero_add, cell_of_row w g i _ _ _ hg, bcells_get l i hi]
  simp [byteAt, hi]
theorem Bs_32 {w : World} {g : Nat} {l : List UInt8} {t : TypeId} {fr : Nat × Nat} (hg : w.heap[g]? = some (.cells (bcells l) t fr)) (hl : l.length = 32) : Bs w (some ⟨g, 0, none⟩) 32 32 l := by
  have := Bs_cells (c := 32) hg (by omega) (by unfold maxLen; simp)
  rw [hl] at this; exact this
def leafV (l : List UInt8) : List UInt8 := Hv (0 :: l)
def nodeV (x y : List UInt8) : List UInt8 := Hv (1 :: (x ++ y))
set_option maxRecDepth 100000 in
set_option maxHeartbeats 1000000 in
theorem leaf_any (a : Option Addr) (n c : Nat) (l : List UInt8) (w : World) (hT : Tabs w) (hB : Bs w a n c l) (hn : n ≤ 35184372088000) :
    Calls Tryd.prog 25 #[.slice a n c] w fun e w' => e = .returned (.agg (bcells (leafV l))) ∧ Below w.heap.size w w' := by
  have hz := hT.2.2
  have hl := hB.1
  have HT := Lib.hid hT
  have HB := Lib.hid hB
  clear hT hB
  go_enter Tryd.func25, Tryd.ntmps25
  go_upto_region 1 with (fail)
  rw [zeros32]
  have hg : (w.alloc (.cells (bcells (List.replicate 32 0)) 24)).heap[w.heap.size]? = some (.cells (bcells (List.replicate 32 0)) 24 (0, 0)) := heap_new rfl
  have hb : Below w.heap.size w (w.alloc (.cells (bcells (List.replicate 32 0)) 24)) := (Below.refl _ _).alloc (Nat.le_refl _) _
  have hs1 : (w.alloc (.cells (bcells (List.replicate 32 0)) 24)).heap.size = w.heap.size + 1 := by simp only [size_alloc1]
  generalize w.alloc (.cells (bcells (List.replicate 32 0)) 24) = w1 at *
  have T1 := Lib.hid (HT.out.below hb hz)
  have B1 := Lib.hid (HB.out.below hb)
  have Hb := Lib.hid hb
  have Hg := Lib.hid hg
  clear hb hg
  go_wp2_with (first
    | (go_at_call 18; refine (new_any _ T1.out).mono ?_; rintro e w2 ⟨v, rfl, hS, hb2⟩; have T2 := Lib.hid (tabs_below T1.out hb2); have B2 := Lib.hid (B1.out.below hb2); have S2 := Lib.hid hS; have Hb2 := Lib.hid hb2; clear hS hb2)
    | (go_at_call 17; refine (write_any _ ([] ++ [0]) a n c l _ T3.out S3.out B3.out (by simp; omega)).mono ?_; rintro e w4 ⟨v', rfl, hS, hb4⟩; have T4 := Lib.hid (tabs_below T3.out hb4); rw [show ([] ++ [0] ++ l : List UInt8) = 0 :: l from rfl] at hS; have S4 := Lib.hid hS; have Hb4 := Lib.hid hb4; clear hS hb4)
    | (go_at_call 17; refine (write_any _ [] _ 1 1 [0] _ (tabs_below T2.out ((Below.refl _ _).alloc (Nat.le_refl _) _)) (S2.out.below ((Below.refl _ _).alloc (Nat.le_refl _) _)) (Bs_cells (l := [0]) (heap_new rfl) (by simp) (by unfold maxLen; simp)) (by simp)).mono ?_; rintro e w3 ⟨v', rfl, hS, hb3'⟩; have hb3 : Below w2.heap.size w2 w3 := ((Below.refl _ _).alloc (Nat.le_refl _) _).trans (hb3'.mono (by simp)); have T3 := Lib.hid (tabs_below T2.out hb3); have B3 := Lib.hid (B2.out.below hb3); have S3 := Lib.hid hS; have Hb3 := Lib.hid hb3; clear hS hb3 hb3')
    | (go_at_call 22; refine (close_any _ (0 :: l) _ T4.out S4.out (by simp; omega)).mono ?_; rintro e w5 ⟨rfl, hb5⟩; have hbb := Lib.hid ((Hb2.out.trans (Hb3.out.trans (Hb4.out.trans (hb5.mono Hb4.out.size) |>.mono Hb3.out.size) |>.mono Hb2.out.size))); have hw5 := (hbb.out.block _ (heap_lt Hg.out)).trans Hg.out; clear hb5)
    | (refine wpList_store_row rfl 24 (.tmp 2) (.tmp 8) rfl w.heap.size _ rfl rfl 24 _ hw5 (by rw [bcells_size, Hv_len]; exact size32b) (by simp only [bcells_size, Hv_len, List.length_replicate]) (bcells_one _) ?_))
  refine bodyPost_ret (v := .agg (bcells (Hv (0 :: l)))) ?_ rfl ⟨rfl, Below_setRow (Hb.out.trans (hbb.out.mono (by omega))) (by omega) _⟩
  exact results_cell_row rfl _ _ w.heap.size 24 _ (0, 0) _ rfl (setRow_heap _ _ _ _ _ _ hw5) Tryd.underlying24 rfl (by rw [bcells_size, Hv_len]; exact size32b)
/-- slices.Concat of three pieces -/
theorem concat3_any (a1 : Option Addr) (n1 c1 : Nat) (l1 : List UInt8) (a2 : Option Addr) (n2 c2 : Nat) (l2 : List UInt8) (a3 : Option Addr) (n3 c3 : Nat) (l3 : List UInt8) (S : Nat) (t : TypeId) (w : World)
    (hS : w.heap[S]? = some (.cells #[.slice a1 n1 c1, .slice a2 n2 c2, .slice a3 n3 c3] t (0, 0))) (h1 : Bs w a1 n1 c1 l1) (h2 : Bs w a2 n2 c2 l2) (h3 : Bs w a3 n3 c3 l3) (l : List UInt8) (hl : l = l1 ++ (l2 ++ l3)) (hn : l.length ≤ 140737488355328) :
    Calls Tryd.prog 36 #[.slice (some ⟨S, 0, none⟩) 3 3] w fun e w' => ∃ a c, e = .returned (.slice a l.length c) ∧ Bs w' a l.length c l ∧ Below w.heap.size w w' := by
  subst hl
  have hj : joined [⟨a1, n1, c1, l1⟩, ⟨a2, n2, c2, l2⟩, ⟨a3, n3, c3, l3⟩] = l1 ++ (l2 ++ l3) := by simp [joined]
  have := concat_any [⟨a1, n1, c1, l1⟩, ⟨a2, n2, c2, l2⟩, ⟨a3, n3, c3, l3⟩] S w ⟨?_, ?_⟩ (heap_lt hS) (by simp) (by rw [hj]; exact hn)
  · rw [hj] at this; exact this
  · intro i hi
    rw [cell_of_row w S i _ _ _ hS]
    match i, hi with
    | 0, _ => rfl
    | 1, _ => rfl
    | 2, _ => rfl
  · intro p hp
    simp only [List.mem_cons, List.not_mem_nil, or_false] at hp
    rcases hp with rfl | rfl | rfl
    · exact h1
    · exact h2
    · exact h3
attribute [local go_sem ↓] exec_store24
attribute [local go_sem] run_store24 Blk32_drew Hv_len
set_option maxRecDepth 100000 in
set_option maxHeartbeats 1000000 in
theorem node_any (x y : List UInt8) (w : World) (hT : Tabs w) (hx : x.length = 32) (hy : y.length = 32) :
    Calls Tryd.prog 27 #[.agg (bcells x), .agg (bcells y)] w fun e w' => e = .returned (.agg (bcells (nodeV x y))) ∧ Below w.heap.size w w' := by
  have hz := hT.2.2
  have HT := Lib.hid hT
  have Hx := Lib.hid hx
  have Hy := Lib.hid hy
  clear hT hx hy
  go_enter Tryd.func27, Tryd.ntmps27
  go_upto_region 1 with (fail)
  rw [zeros32]
  have hg : (((w.alloc (.cells (bcells x) 24)).alloc (.cells (bcells y) 24)).alloc (.cells (bcells (List.replicate 32 0)) 24)).heap[w.heap.size]? = some (.cells (bcells x) 24 (0, 0)) := heap_old (heap_old (heap_new rfl))
  have hg1 : (((w.alloc (.cells (bcells x) 24)).alloc (.cells (bcells y) 24)).alloc (.cells (bcells (List.replicate 32 0)) 24)).heap[w.heap.size + 1]? = some (.cells (bcells y) 24 (0, 0)) := heap_old (heap_new (by simp only [size_alloc1]))
  have hg2 : Blk32 (((w.alloc (.cells (bcells x) 24)).alloc (.cells (bcells y) 24)).alloc (.cells (bcells (List.replicate 32 0)) 24)) (w.heap.size + 2) := ⟨_, by simp, heap_new (by simp only [size_alloc1])⟩
  have hb : Below w.heap.size w (((w.alloc (.cells (bcells x) 24)).alloc (.cells (bcells y) 24)).alloc (.cells (bcells (List.replicate 32 0)) 24)) := (((Below.refl _ _).alloc (Nat.le_refl _) _).alloc (by simp) _).alloc (by simp; omega) _
  have hs1 : (((w.alloc (.cells (bcells x) 24)).alloc (.cells (bcells y) 24)).alloc (.cells (bcells (List.replicate 32 0)) 24)).heap.size = w.heap.size + 3 := by simp only [size_alloc1]
  generalize (((w.alloc (.cells (bcells x) 24)).alloc (.cells (bcells y) 24)).alloc (.cells (bcells (List.replicate 32 0)) 24)) = w1 at *
  have T1 := Lib.hid (HT.out.below hb hz)
  have Hb := Lib.hid hb
  have Hg := Lib.hid hg
  have Hg1 := Lib.hid hg1
  have Hs1 := Lib.hid hs1
  clear hb hg hg1 hs1
  go_region_with (first
    | (go_at_call 36; refine (concat3_any (some ⟨w1.heap.size, 0, none⟩) 1 1 [1] (some ⟨w.heap.size, 0, none⟩) 32 32 x (some ⟨w.heap.size + 1, 0, none⟩) 32 32 y _ 22 _ ?_ ?_ ?_ ?_ (1 :: (x ++ y)) rfl ?_).mono ?_; exact heap_new (by simp only [size_alloc1]); exact Bs_drew (Bs_cells (l := [1]) (heap_old (heap_new rfl)) (by simp) (by unfold maxLen; simp)); exact Bs_drew (Bs_32 (heap_old (heap_old Hg.out)) Hx.out); exact Bs_drew (Bs_32 (heap_old (heap_old Hg1.out)) Hy.out); (have := Hx.out; have := Hy.out; simp; omega); rintro e w2 ⟨ca, cc, rfl, hcB, hb2'⟩; rw [show (1 :: (x ++ y)).length = 65 by have := Hx.out; have := Hy.out; simp; omega] at hcB ⊢; have hb2 : Below w1.heap.size w1 w2 := (((Below.refl _ _).alloc (Nat.le_refl _) _).alloc (by simp) _).drew.trans (hb2'.mono (by simp <;> omega)); have T2 := Lib.hid (tabs_below T1.out hb2); have Hb2 := Lib.hid hb2; have HcB := Lib.hid hcB; have q2 := Blk32_keep hb2 _ hg2; clear hb2 hb2' hcB)
    | (go_at_call 12; refine (sum_any _ _ _ _ _ T2.out HcB.out (by omega)).mono ?_; rintro e w3 ⟨rfl, hb3⟩; have Hb3 := Lib.hid hb3; have q3 := Blk32_keep hb3 _ q2; clear hb3))
  all_goals
    go_wp2_with fail
    obtain ⟨old, ho, hg⟩ := id q3
    refine bodyPost_ret (v := .agg (bcells (Hv (1 :: (x ++ y))))) ?_ rfl ⟨rfl, Below_setRow (Hb.out.trans ((Hb2.out.trans (Hb3.out.mono Hb2.out.size)).mono (by have := Hs1.out; omega))) (by omega) _⟩
    exact results_cell_row rfl _ _ (w.heap.size + 2) 24 _ (0, 0) _ rfl (setRow_heap _ _ _ _ _ _ hg) Tryd.underlying24 rfl (by rw [bcells_size, Hv_len]; exact size32b)
end Go.Proofs.YtdfpjhpkkhdpoaaDoor

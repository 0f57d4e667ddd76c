/-
  The reference's Leaf and Node.
-/
import Derived.Test.YtdfpjhpkkhdpoaaDoorF5
import Derived.Test.YtdfpjhpkkhdpoaaDoorB4
namespace Go.Proofs.YtdfpjhpkkhdpoaaDoor
open Go.RowKit
set_option linter.unusedSimpArgs false
set_option linter.unusedVariables false
theorem own_one (p : World) (x : UInt8) (u : Int) (hu : u = bi x) : (p.alloc (.cells #[.int .u8 u] 5)).ownsRow p.heap.size 5 1 (.slice (some ⟨p.heap.size, 0, none⟩) 1 1) 1 (vals [x]) :=
  ⟨rfl, .inr ⟨p.heap.size, 1, #[.int .u8 u], rfl, Nat.le_refl _, heap_new rfl, Nat.le_refl _, by decide, rfl, by rw [hu]; rfl⟩⟩
theorem SQ_start (w : World) (x : UInt8) (u : Int) (hu : u = bi x) : SQ w (.slice (some ⟨w.heap.size + 1, 0, none⟩) 1 1) [x] ((w.alloc (.cells (bcells (List.replicate 32 0)) 24)).alloc (.cells #[.int .u8 u] 5)) := by
  have ho := own_one (w.alloc (.cells (bcells (List.replicate 32 0)) 24)) x u hu
  rw [size_alloc1] at ho
  exact ⟨heap_old (heap_new rfl), ho, ((Below.refl _ _).alloc (Nat.le_refl _) _).alloc (by rw [size_alloc1]; omega) _, by simp only [size_alloc1]; omega⟩
set_option maxRecDepth 100000 in
set_option maxHeartbeats 1000000 in
theorem rleaf_k (K : List UInt8) (a : Option Addr) (n c : Nat) (l : List UInt8) (w : World) (HE : Hid (Hv ([0] ++ l) = K)) (hKl : K.length = 32) (hB : Bs w a n c l) (hn : n ≤ 35184372088000) :
    Calls Tryd.prog 26 #[.slice a n c] w fun e w' => e = .returned (.agg (bcells K)) ∧ Below w.heap.size w w' := by
  have HB := Lib.hid hB
  have HKl := Lib.hid hKl
  clear hB hKl
  go_enter Tryd.func26, Tryd.ntmps26
  go_upto_region 1 with (fail)
  rw [zeros32]
  have sq0 := Lib.hid (SQ_start w 0 0 rfl)
  have ho1 := sq0.out.own
  rw [show vals [(0 : UInt8)] = [.int .u8 0] from rfl] at ho1
  have Ho1 := Lib.hid ho1
  have hRs := fun va vc p (hb : Bs p va ([0] ++ l).length vc ([0] ++ l)) => rsum_any va _ vc ([0] ++ l) p hb (by have := HB.out.1; simp; omega)
  rw [HE.out] at hRs
  have HRs := Lib.hid hRs
  clear ho1 hRs
  go_wp2_with (at_builtin; refine append_bs rfl (.tmp 3) (.tmp 4) rfl (w.heap.size + 1) _ 1 [.int .u8 0] rfl ?o1 a n c l rfl ?o2 ?o3 ?o4 ?_)
  case o1 => exact Ho1.out
  case o2 => exact HB.out.below sq0.out.bel
  case o3 => omega
  case o4 => exact sq0.out.sz
  intro v1 p1 ho hg
  have S1 := Lib.hid (sq0.out.app0 (y := l) (by rw [HB.out.1]; exact ho) hg)
  obtain ⟨va, vc, rfl, hv⟩ := S1.out.slice
  have HV := Lib.hid hv
  clear ho hg hv
  obtain ⟨m, hm⟩ : ∃ m, m = ([0] ++ l).length := ⟨_, rfl⟩
  rw [← hm] at HV HRs ⊢
  clear hm
  go_wp2_with (first
    | (go_at_call 13; refine (HRs.out va vc _ HV.out).mono ?_; rintro e p3 ⟨rfl, hb⟩; have B2 := Lib.hid hb; have hz2 := (hb.block _ (heap_lt S1.out.z)).trans S1.out.z; clear hb)
    | (refine wpList_store_row rfl 24 (.tmp 2) (.tmp 6) rfl w.heap.size _ rfl rfl 24 _ hz2 (by rw [bcells_size, HKl.out]; exact size32b) (by simp only [bcells_size, HKl.out, List.length_replicate]) (bcells_one _) ?_))
  refine bodyPost_ret (v := .agg (bcells K)) ?_ rfl ⟨rfl, Below_setRow (S1.out.bel.trans (B2.out.mono S1.out.bel.size)) (by omega) _⟩
  exact results_cell_row rfl _ _ w.heap.size 24 _ (0, 0) _ rfl (setRow_heap _ _ _ _ _ _ hz2) Tryd.underlying24 rfl (by rw [bcells_size, HKl.out]; exact size32b)
theorem rleaf_any (a : Option Addr) (n c : Nat) (l : List UInt8) (w : World) (hB : Bs w a n c l) (hn : n ≤ 35184372088000) :
    Calls Tryd.prog 26 #[.slice a n c] w fun e w' => e = .returned (.agg (bcells (leafV l))) ∧ Below w.heap.size w w' :=
  rleaf_k (leafV l) a n c l w (Lib.hid rfl) (Hv_len _) hB hn
set_option maxRecDepth 100000 in
set_option maxHeartbeats 1000000 in
theorem rnode_k (K x y : List UInt8) (w : World) (HE : Hid (Hv ([1] ++ x ++ y) = K)) (hKl : K.length = 32) (hx : x.length = 32) (hy : y.length = 32) :
    Calls Tryd.prog 28 #[.agg (bcells x), .agg (bcells y)] w fun e w' => e = .returned (.agg (bcells K)) ∧ Below w.heap.size w w' := by
  have Hx := Lib.hid hx
  have Hy := Lib.hid hy
  have HKl := Lib.hid hKl
  clear hx hy hKl
  go_enter Tryd.func28, Tryd.ntmps28
  go_upto_region 1 with (fail)
  rw [zeros32]
  have g0 : ((w.alloc (.cells (bcells x) 24)).alloc (.cells (bcells y) 24)).heap[w.heap.size]? = some (.cells (bcells x) 24 (0, 0)) := heap_old (heap_new rfl)
  have g1 : ((w.alloc (.cells (bcells x) 24)).alloc (.cells (bcells y) 24)).heap[w.heap.size + 1]? = some (.cells (bcells y) 24 (0, 0)) := heap_new (by simp only [size_alloc1])
  have b0 : Below w.heap.size w ((w.alloc (.cells (bcells x) 24)).alloc (.cells (bcells y) 24)) := ((Below.refl _ _).alloc (Nat.le_refl _) _).alloc (by rw [size_alloc1]; omega) _
  have s0 : ((w.alloc (.cells (bcells x) 24)).alloc (.cells (bcells y) 24)).heap.size = w.heap.size + 2 := by simp only [size_alloc1]
  generalize (w.alloc (.cells (bcells x) 24)).alloc (.cells (bcells y) 24) = q at *
  have sq0 := Lib.hid (SQ_start q 1 1 rfl)
  have ho1 := sq0.out.own
  rw [show vals [(1 : UInt8)] = [.int .u8 1] from rfl] at ho1
  have Ho1 := Lib.hid ho1
  have G0 := Lib.hid g0
  have G1 := Lib.hid g1
  have B0 := Lib.hid b0
  have Hs := Lib.hid s0
  have hRs := fun va vc p (hb : Bs p va ([1] ++ x ++ y).length vc ([1] ++ x ++ y)) => rsum_any va _ vc ([1] ++ x ++ y) p hb (by have := Hx.out; have := Hy.out; simp; omega)
  rw [HE.out] at hRs
  have HRs := Lib.hid hRs
  clear ho1 hRs g0 g1 b0 s0
  have BX : Hid (Bs q (some ⟨w.heap.size, 0, none⟩) 32 32 x) := Lib.hid (Bs_32 G0.out Hx.out)
  have BY : Hid (Bs q (some ⟨w.heap.size + 1, 0, none⟩) 32 32 y) := Lib.hid (Bs_32 G1.out Hy.out)
  go_upto_region 2 with (fail)
  change Code.wp _ _ _ _ ((q.alloc (.cells (bcells (List.replicate 32 0)) 24)).alloc (.cells #[.int .u8 1] 5))
  generalize (q.alloc (.cells (bcells (List.replicate 32 0)) 24)).alloc (.cells #[.int .u8 1] 5) = q1 at *
  go_upto_region 3 with (at_builtin; refine append_bs rfl (.tmp 7) (.tmp 8) rfl (q.heap.size + 1) _ 1 [.int .u8 1] rfl Ho1.out (some ⟨w.heap.size, 0, none⟩) 32 32 x rfl (BX.out.below sq0.out.bel) (by omega) sq0.out.sz ?_; intro v1 p1 ho hg; have S1 := Lib.hid (sq0.out.app0 (y := x) (by rw [Hx.out]; exact ho) hg); clear ho hg)
  obtain ⟨va, vc, rfl, hv⟩ := S1.out.slice
  obtain ⟨m1, hm1⟩ : ∃ m1, m1 = ([1] ++ x).length := ⟨_, rfl⟩
  have hm33 : m1 = 33 := by rw [hm1]; simp [Hx.out]
  have ho2 := S1.out.own
  rw [← hm1] at ho2 ⊢
  have Ho2 := Lib.hid ho2
  have Hm1 := Lib.hid hm1
  clear hv ho2 hm1
  subst hm33
  have S1b : Hid (SQ q (.slice va 33 vc) ([1] ++ x) p1) := Lib.hid (by have h := S1.out; rw [← Hm1.out] at h; exact h)
  go_wp2_with (first
    | (at_builtin; refine append_bs rfl (.tmp 10) (.tmp 11) rfl (q.heap.size + 1) _ 33 _ rfl Ho2.out (some ⟨w.heap.size + 1, 0, none⟩) 32 32 y rfl (BY.out.below S1.out.bel) (by omega) S1.out.sz ?_; intro v2 p2 ho hg; have S2 := Lib.hid (S1b.out.app0 (y := y) (by rw [← Hm1.out, Hy.out]; exact ho) hg); obtain ⟨vb, vd, rfl, hv2⟩ := S2.out.slice; have HV := Lib.hid hv2; clear ho hg hv2; obtain ⟨m, hm⟩ : ∃ m, m = ([1] ++ x ++ y).length := ⟨_, rfl⟩; rw [← hm] at HV HRs ⊢; clear hm)
    | (go_at_call 13; refine (HRs.out vb vd _ HV.out).mono ?_; rintro e p3 ⟨rfl, hb⟩; have B2 := Lib.hid hb; have hz2 := (hb.block _ (heap_lt S2.out.z)).trans S2.out.z; rw [Hs.out] at hz2; clear hb)
    | (refine wpList_store_row rfl 24 (.tmp 4) (.tmp 13) rfl (w.heap.size + 2) _ rfl rfl 24 _ hz2 (by rw [bcells_size, HKl.out]; exact size32b) (by simp only [bcells_size, HKl.out, List.length_replicate]) (bcells_one _) ?_))
  refine bodyPost_ret (v := .agg (bcells K)) ?_ rfl ⟨rfl, Below_setRow (B0.out.trans ((S2.out.bel.trans (B2.out.mono S2.out.bel.size)).mono (by have := Hs.out; omega))) (by omega) _⟩
  exact results_cell_row rfl _ _ (w.heap.size + 2) 24 _ (0, 0) _ rfl (setRow_heap _ _ _ _ _ _ hz2) Tryd.underlying24 rfl (by rw [bcells_size, HKl.out]; exact size32b)
theorem rnode_any (x y : List UInt8) (w : World) (hx : x.length = 32) (hy : y.length = 32) :
    Calls Tryd.prog 28 #[.agg (bcells x), .agg (bcells y)] w fun e w' => e = .returned (.agg (bcells (nodeV x y))) ∧ Below w.heap.size w w' :=
  rnode_k (nodeV x y) x y w (Lib.hid rfl) (Hv_len _) hx hy
end Go.Proofs.YtdfpjhpkkhdpoaaDoor

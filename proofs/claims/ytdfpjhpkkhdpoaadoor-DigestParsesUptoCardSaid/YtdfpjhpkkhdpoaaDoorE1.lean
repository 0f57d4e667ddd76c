/-
  The reference's Around and Same.
-/
import Derived.Test.YtdfpjhpkkhdpoaaDoorD1
import Derived.StillTailTactics
namespace Go.Proofs.YtdfpjhpkkhdpoaaDoor
open Go.RowKit
theorem around_any (n most : Int) (w : World) (h1 : -9223372036854775808 ≤ n) (h2 : n ≤ 9223372036854775807) (h3 : 0 < most) (h4 : most ≤ 9223372036854775807) :
    Calls Tryd.prog 16 #[.int .i64 n, .int .i64 most] w fun e w' => (∃ r : Nat, (r : Int) < most ∧ e = .returned (.int .i64 (r : Int))) ∧ w = w' := by
  by_cases hn : n < 0
  · have hw1 : IntKind.i64.wrap (n + 1) = n + 1 := i64_id _ (by omega) (by omega)
    have hw2 : IntKind.i64.wrap (-(n + 1)) = -(n + 1) := i64_id _ (by omega) (by omega)
    go_enter Tryd.func16, Tryd.ntmps16
    go_wp2
    go_ret
    have e : -(n + 1).tmod most = -(n + 1) % most := by rw [← Int.neg_tmod, Int.tmod_eq_emod_of_nonneg (by omega)]
    have p1 := Int.emod_nonneg (-(n + 1)) (show most ≠ 0 by omega)
    have p2 := Int.emod_lt_of_pos (-(n + 1)) h3
    refine ⟨⟨(-(n + 1) % most).toNat, by omega, ?_⟩, rfl⟩
    rw [Int.toNat_of_nonneg p1, ← e]
    rfl
  · go_enter Tryd.func16, Tryd.ntmps16
    go_wp2
    go_ret
    have p1 := Int.emod_nonneg n (show most ≠ 0 by omega)
    have p2 := Int.emod_lt_of_pos n h3
    refine ⟨⟨(n % most).toNat, by omega, ?_⟩, rfl⟩
    rw [Int.toNat_of_nonneg p1]
    rfl
theorem run_eq31 (w : World) (x : List (BitVec 32)) (h : x.length = 8) : (Op.equalIn 10000 31 (.agg (wcells x)) (.agg (wcells x))).run Tryd.prog w = .ok true w := by
  refine run_eq_array 9998 31 30 8 (wcells x) Tryd.underlying31 (fun w => by kernel_rfl) (fun i w hi => ⟨.int .u32 (wi x[i]), ?_, fun w' => ?_⟩) w
  · have hg := wcells_get x i (by omega)
    have hz : (sizeOf 30).run Tryd.prog w = .ok 1 w := by kernel_rfl
    simp [part, Sem.run_bind, hz, agg30, Result.andThen, hg, go_sem]
  · rw [run_equalIn_int w' 9998 30 .u32 .u32 _ _ Tryd.underlying30]; simp
theorem eqg31 : Tryd.prog.eqGuardType Tryd.prog.depth 31 = false := by kernel_rfl
attribute [local go_sem ↓] exec_load8
attribute [local go_sem] run_eq31 absH_len eqg31
set_option maxRecDepth 100000 in
set_option maxHeartbeats 1000000 in
theorem same_any (v1 v2 : Value) (l : List UInt8) (w : World) (h1 : St w v1 l) (h2 : St w v2 l) :
    Calls Tryd.prog 19 #[v1, v2] w fun e w' => e = .returned (.bool true) ∧ Below w.heap.size w w' := by
  obtain ⟨a1, c1, rfl, hB1⟩ := h1
  obtain ⟨a2, c2, rfl, hB2⟩ := h2
  have hlen := absH_len l
  obtain ⟨hs, hhs⟩ : ∃ hs, hs = absH H8 l := ⟨_, rfl⟩
  obtain ⟨T, hT⟩ : ∃ T, T = absR l := ⟨_, rfl⟩
  obtain ⟨tn, htn⟩ : ∃ tn, tn = T.length := ⟨_, rfl⟩
  obtain ⟨L, hL⟩ : ∃ L, L = l.length := ⟨_, rfl⟩
  rw [← hhs] at hlen ⊢
  rw [← hT, ← htn] at hB1 hB2 ⊢
  rw [← hL]
  have HB1 := Lib.hid hB1
  have HB2 := Lib.hid hB2
  clear hB1 hB2 hhs hT htn hL
  go_enter Tryd.func19, Tryd.ntmps19
  go_upto_region 1 with (fail)
  have g0 : ((w.alloc (.cells (dcells hs a1 tn c1 L) 33)).alloc (.cells (dcells hs a2 tn c2 L) 33)).heap[w.heap.size]? = some (.cells (dcells hs a1 tn c1 L) 33 (0, 0)) := heap_old (heap_new rfl)
  have g1 : ((w.alloc (.cells (dcells hs a1 tn c1 L) 33)).alloc (.cells (dcells hs a2 tn c2 L) 33)).heap[w.heap.size + 1]? = some (.cells (dcells hs a2 tn c2 L) 33 (0, 0)) := heap_new (by simp only [size_alloc1])
  have hb : Below w.heap.size w ((w.alloc (.cells (dcells hs a1 tn c1 L) 33)).alloc (.cells (dcells hs a2 tn c2 L) 33)) := ((Below.refl _ _).alloc (Nat.le_refl _) _).alloc (by simp) _
  generalize ((w.alloc (.cells (dcells hs a1 tn c1 L) 33)).alloc (.cells (dcells hs a2 tn c2 L) 33)) = w1 at *
  have Hb := Lib.hid hb
  clear hb
  obtain ⟨r0, e0, c08, c09⟩ := dblock g0 hlen
  obtain ⟨r1, e1, c18, c19⟩ := dblock g1 hlen
  have l0 : (load8A (.pointer (some ⟨w.heap.size, 0, none⟩))).run Tryd.prog w1 = .ok (.value (.agg (wcells hs))) w1 := by
    have := run_load8 w1 w.heap.size 0 r0
    rw [e0] at this
    exact this
  have l1 : (load8A (.pointer (some ⟨w.heap.size + 1, 0, none⟩))).run Tryd.prog w1 = .ok (.value (.agg (wcells hs))) w1 := by
    have := run_load8 w1 (w.heap.size + 1) 0 r1
    rw [e1] at this
    exact this
  clear g0 g1 r0 r1 e0 e1
  go_wp2_with (go_at_call 24; refine (same_bytes a1 tn c1 a2 tn c2 T w1 (HB1.out.below Hb.out) (HB2.out.below Hb.out)).mono ?_; rintro e w8 ⟨rfl, rfl⟩)
  go_ret
  exact ⟨rfl, Hb.out⟩
end Go.Proofs.YtdfpjhpkkhdpoaaDoor

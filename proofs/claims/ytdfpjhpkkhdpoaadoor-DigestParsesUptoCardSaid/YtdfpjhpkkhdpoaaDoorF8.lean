/-
  The reference's Bytes.
-/
import Derived.Test.YtdfpjhpkkhdpoaaDoorF5
namespace Go.Proofs.YtdfpjhpkkhdpoaaDoor
open Go.RowKit
set_option linter.unusedSimpArgs false
set_option linter.unusedVariables false
theorem byte_of (z : Int) : ∃ y : UInt8, IntKind.u8.wrap z = bi y := by
  refine ⟨UInt8.ofNat (z % 256).toNat, ?_⟩
  rw [IntKind.wrap_u8]; unfold bi; simp; omega
/-- what the walk carries -/
structure BY (w : World) (v : Value) (k : Nat) (x : List UInt8) (p : World) : Prop where
  len : x.length = k
  own : p.ownsRow w.heap.size 5 1 v k (vals x)
  bel : Below w.heap.size w p
theorem BY.app {w : World} {v v' : Value} {k : Nat} {x : List UInt8} {y : UInt8} {p p' : World} {o : Obj} (h : BY w v k x p) (ho : p'.ownsRow w.heap.size 5 1 v' (k + 1) (vals x ++ vals [y])) (hg : (p.alloc o).grownBy p' v.ownBlock) : BY w v' (k + 1) (x ++ [y]) p' := by
  have hr := frozenless h.own
  refine ⟨by simp [h.len], by rw [vals_app]; exact ho, ?_⟩
  exact (h.bel.alloc h.bel.size _).grown hg (by rw [size_alloc1]; have := h.bel.size; omega) (fun k hk => by have := hr k hk; omega)
set_option maxRecDepth 100000 in
set_option maxHeartbeats 1000000 in
theorem bytes_any (n : Nat) (s : Int) (w : World) (hn : n ≤ 1000000) :
    Calls Tryd.prog 15 #[.int .i64 (n : Int), .int .i64 s] w fun e w' => ∃ a c l, l.length = n ∧ e = .returned (.slice a n c) ∧ Bs w' a n c l ∧ Below w.heap.size w w' := by
  go_enter Tryd.func15, Tryd.ntmps15
  go_wp2
  go_loopw [5, 6, 7] (fun v x i wr => ∃ (k : Nat) (l : List UInt8) (X : Int), k ≤ n ∧ x = .int .u32 X ∧ i = .int .i64 (k : Int) ∧ BY w v k l wr) (fun _ _ i _ => n - (intOf i).toNat)
  case atStart => exact ⟨0, [], _, by omega, rfl, rfl, rfl, World.ownsRow_nil _ _ _ _, Below.refl _ _⟩
  case round =>
    obtain ⟨k, l, X, hk, rfl, rfl, by0⟩ := hrel
    have B0 := Lib.hid by0
    clear by0
    by_cases hlt : k < n
    · have dlt : decide ((k : Int) < (n : Int)) = true := by simp; omega
      have hk2 : k ≤ 1000000 := by omega
      go_upto_region 7 with (fail)
      obtain ⟨Y, hY⟩ : ∃ Y, Y = (X * 1664525 % 4294967296 + 1013904223) % 4294967296 := ⟨_, rfl⟩
      have hY0 : 0 ≤ Y := by omega
      have hY1 : Y < 4294967296 := by omega
      rw [← hY]
      clear hY
      obtain ⟨y, hy⟩ := byte_of (Y / 16777216)
      rw [IntKind.wrap_u8, show Y / 16777216 % 256 = Y / 16777216 by omega] at hy
      have HY := Lib.hid hy
      clear hy
      go_wp2_with (at_builtin; refine append_bs rfl (.tmp 19) (.tmp 23) rfl w.heap.size _ k _ rfl (B0.out.own.alloc _) (some ⟨wr.heap.size, 0, none⟩) 1 1 [y] rfl (Bs_one (heap_new rfl) HY.out) (by omega) (by rw [size_alloc1]; have := B0.out.bel.size; omega) ?_; intro v4 p4 ho hg; have B1 := Lib.hid (B0.out.app ho hg); clear ho hg)
      go_roundw
      case rel => exact ⟨k + 1, l ++ [y], Y, by omega, rfl, by go_num, B1.out⟩
      case measure => simp [intOf]; omega
    · obtain rfl : k = n := by omega
      have dlt : decide ((k : Int) < (k : Int)) = false := by simp
      obtain ⟨va, vc, rfl, hvB⟩ := Bs_of_own (by have := B0.out.own; rw [← B0.out.len] at this; exact this)
      have HV := Lib.hid hvB
      clear hvB
      go_wp2_with fail
      go_ret
      exact ⟨va, vc, l, B0.out.len, by rw [B0.out.len]; rfl, by rw [← B0.out.len]; exact HV.out, B0.out.bel⟩
end Go.Proofs.YtdfpjhpkkhdpoaaDoor

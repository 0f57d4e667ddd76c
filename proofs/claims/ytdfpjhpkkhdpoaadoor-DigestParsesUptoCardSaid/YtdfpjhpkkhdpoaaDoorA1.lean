/-
  Walks over the digest seat: rotations.
-/
import Derived.Test.YtdfpjhpkkhdpoaaDoorWords
import Derived.WalkSpells
import Derived.WalkLawsBesides
import Derived.Deep.QuietTactic
import Derived.BigQuiet
namespace Go.Proofs.YtdfpjhpkkhdpoaaDoor
open Go.RowKit
theorem ret_u32 {a b : Int} (h : a = b) : Ending.returned (.int .u32 a) = .returned (.int .u32 b) := by rw [h]
theorem rotl_end (x : BitVec 32) (n : Nat) :
    bits .or .u32 (wi x * 2 ^ (32 - n) % 4294967296) (wi x / 2 ^ n) = wi (rotr x n) := by
  rw [wi_shlm, wi_shr, wi_or]
  unfold rotr
  rw [BitVec.or_comm]
set_option maxHeartbeats 400000 in
theorem rl_any (x : BitVec 32) (n : Nat) (w : World) (h0 : 0 < n) (h1 : n < 32) :
    Calls Tryd.prog 53 #[.int .u32 (wi x), .int .i64 (-(n : Int))] w fun e w' => e = .returned (.int .u32 (wi (rotr x n))) ∧ w = w' := by
  have hm := mask31 n h0 h1
  have hs : IntKind.u64.wrap (32 - ((32 - n : Nat) : Int)) = (n : Int) := by rw [IntKind.wrap_u64]; omega
  have hx := wi_nonneg x
  have hx2 := wi_lt x
  go_enter Tryd.func53, Tryd.ntmps53
  go_wp2
  go_ret
  exact ⟨ret_u32 (rotl_end x n), rfl⟩
set_option maxHeartbeats 400000 in
theorem rot_any (x : BitVec 32) (k : Int) (w : World) (h0 : 0 < k) (h1 : k < 32) :
    Calls Tryd.prog 51 #[.int .u32 (wi x), .int .i64 k] w fun e w' => e = .returned (.int .u32 (wi (rotr x k.toNat))) ∧ w = w' := by
  obtain ⟨n, rfl⟩ := Int.eq_ofNat_of_zero_le (Int.le_of_lt h0)
  rw [Int.toNat_natCast]
  go_enter Tryd.func51, Tryd.ntmps51
  go_wp2_with (go_at_call 53; refine (rl_any _ _ _ (by omega) (by omega)).mono ?_; rintro e w' ⟨rfl, rfl⟩)
  go_ret
  exact ⟨rfl, rfl⟩
theorem refrot_end (x : BitVec 32) (n : Nat) :
    bits .or .u32 (wi x / 2 ^ n) (wi x * 2 ^ (32 - n) % 4294967296) = wi (rotr x n) := by
  rw [wi_shlm, wi_shr, wi_or]
  rfl
set_option maxHeartbeats 400000 in
/-- the specification's own rotation -/
theorem refrot_any (x : BitVec 32) (k : Int) (w : World) (h0 : 0 < k) (h1 : k < 32) :
    Calls Tryd.prog 49 #[.int .u32 (wi x), .int .i64 k] w fun e w' => e = .returned (.int .u32 (wi (rotr x k.toNat))) ∧ ∃ n, w' = w.drewN n := by
  obtain ⟨n, rfl⟩ := Int.eq_ofNat_of_zero_le (Int.le_of_lt h0)
  rw [Int.toNat_natCast]
  have hx := wi_nonneg x
  have hx2 := wi_lt x
  have hs : IntKind.i64.wrap (32 - (n : Int)) = 32 - (n : Int) := by rw [IntKind.wrap_i64]; omega
  have hs2 : (32 - (n : Int)).toNat = 32 - n := by omega
  have hs3 : 0 ≤ 32 - (n : Int) := by omega
  have e1 : min n 32 = n := by omega
  have e2 : min (32 - n) 32 = 32 - n := by omega
  go_enter Tryd.func49, Tryd.ntmps49
  go_wp2
  go_quiet (fail)
  go_wp2
  go_ret
  exact ⟨ret_u32 (refrot_end x n), _, rfl⟩
theorem rot_still (x : BitVec 32) (k : Int) (w : World) (h0 : 0 < k) (h1 : k < 32) :
    Calls Tryd.prog 51 #[.int .u32 (wi x), .int .i64 k] w fun e w' => e = .returned (.int .u32 (wi (rotr x k.toNat))) ∧ w' = w :=
  (rot_any x k w h0 h1).mono fun _ _ h => ⟨h.1, h.2.symm⟩
end Go.Proofs.YtdfpjhpkkhdpoaaDoor

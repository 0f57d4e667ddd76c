/-
  The methods of a Writer.
-/
import Derived.Test.YtbnodhcgdgcebaaW1
namespace Go.Proofs.Ytbnodhcgdgcebaa
open Go.RowKit
theorem vals_u8 (n : Nat) (h : n < 256) : (n : Int) = ((UInt8.ofNat n).toNat : Int) := by rw [toNat_ofNat n h]
theorem encU_tail (l : List UInt8) (m : Nat) (h : ¬ m < 128) : (l ++ [UInt8.ofNat (128 + m % 128)]) ++ encU (m / 128) = l ++ encU m := by
  rw [encU_big h]; simp
theorem encU_end (l : List UInt8) (m : Nat) (h : m < 128) : l ++ [UInt8.ofNat m] = l ++ encU m := by rw [encU_small h]
/-- where the loop of Uint stands -/
def AtU (g : Nat) (k : Option Nat) (w : World) (L : List UInt8) (m : Nat) (wr : World) : Prop := ∃ l1, l1 ++ encU m = L ∧ Wrote g k w l1 wr
set_option maxRecDepth 100000 in
set_option maxHeartbeats 400000 in
theorem wuint_any (g : Nat) (k : Option Nat) (l : List UInt8) (n : Nat) (N : Int) (w : World) (hW : Wr w g k l) (hl : l.length ≤ 500000000000) (hn : n < 18446744073709551616) (hN : N = (n : Int)) :
    Calls Try.prog 56 #[.pointer (some ⟨g, 0, none⟩), .int .u64 N] w fun e w' => e = .returned (.tuple #[]) ∧ Wrote g k w (l ++ encU n) w' := by
  subst hN
  have HW := Lib.hid (Wrote.refl hW)
  have Hlen := Lib.hid (encU_len10 n hn)
  clear hW
  go_enter Try.func56, Try.ntmps56
  go_wp2
  go_loopw [1] (fun t wr => ∃ m : Nat, m < 18446744073709551616 ∧ t = .int .u64 (m : Int) ∧ AtU g k w (l ++ encU n) m wr) (fun t _ => (intOf t).toNat)
  case atStart => exact ⟨n, hn, rfl, l, rfl, HW.out⟩
  case round =>
    obtain ⟨m, hm, rfl, hA⟩ := hrel
    have HA := Lib.hid hA
    clear hA HW hn
    obtain ⟨l1, e1, hw1⟩ := HA.out
    have hlen1 : l1.length ≤ 1000000000000 := by
      have := congrArg List.length e1
      simp only [List.length_append] at this
      have := Hlen.out
      omega
    have He := Lib.hid e1
    have Hw := Lib.hid hw1
    clear e1 hw1 HA
    by_cases hlt : m < 128
    · obtain ⟨k1, hW1, hl1⟩ := Hw.out
      have HW1 := Lib.hid hW1
      have HL1 := Lib.hid hl1
      have Hm := Lib.hid (vals_u8 m (by omega))
      clear hW1 hl1
      go_wp2_with (go_at_call 66; refine (put_any g k1 l1 (UInt8.ofNat m) _ _ HW1.out hlen1 Hm.out).mono ?_; rintro e w2 ⟨rfl, hw2⟩; have H2 := Lib.hid hw2; clear hw2)
      go_end0
      refine ⟨rfl, ?_⟩
      have h2 := H2.out
      rw [encU_end l1 m hlt, He.out] at h2
      exact h2.after HL1.out
    · obtain ⟨k1, hW1, hl1⟩ := Hw.out
      have HW1 := Lib.hid hW1
      have HL1 := Lib.hid hl1
      have Hm := Lib.hid (vals_u8 (128 + m % 128) (by omega))
      clear hW1 hl1
      go_wp2_with (go_at_call 66; refine (put_any g k1 l1 (UInt8.ofNat (128 + m % 128)) _ _ HW1.out hlen1 (by rw [← Hm.out]; omega)).mono ?_; rintro e w2 ⟨rfl, hw2⟩; have H2 := Lib.hid hw2; clear hw2)
      go_roundw
      case rel => exact ⟨m / 128, by omega, by go_num, _, (encU_tail l1 m hlt).trans He.out, H2.out.after HL1.out⟩
      case measure => simp [intOf]; omega
end Go.Proofs.Ytbnodhcgdgcebaa

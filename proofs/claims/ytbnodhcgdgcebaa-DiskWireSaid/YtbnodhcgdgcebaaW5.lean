/-
  Reading a number.
-/
import Derived.Laws.ShiftsVarLaws
import Derived.Laws.BitsAllLaws
import Derived.Test.YtbnodhcgdgcebaaW4
namespace Go.Proofs.Ytbnodhcgdgcebaa
open Go.RowKit
set_option linter.unusedSimpArgs false
set_option linter.unusedVariables false
theorem pow128 (k : Nat) : 128 ^ k = 2 ^ (7 * k) := by rw [Nat.pow_mul]
/-- a group is laid behind those that were read -/
theorem or_step (acc x k : Nat) (ha : acc < 128 ^ k) (hx : x % 128 * 128 ^ k < 18446744073709551616) (h64 : acc < 18446744073709551616) :
    bits .or .u64 (acc : Int) (IntKind.u64.wrap ((x : Int) % 128 * 2 ^ (7 * k))) = ((acc + x % 128 * 128 ^ k : Nat) : Int) := by
  rw [pow128] at ha hx ⊢
  have e : (x : Int) % 128 * 2 ^ (7 * k) = ((x % 128 * 2 ^ (7 * k) : Nat) : Int) := by simp
  have e2 : IntKind.u64.wrap ((x % 128 * 2 ^ (7 * k) : Nat) : Int) = ((x % 128 * 2 ^ (7 * k) : Nat) : Int) := by rw [IntKind.wrap_u64]; omega
  rw [e, e2, u64_or_nat _ _ h64 hx, Nat.or_comm, ← Nat.shiftLeft_eq, ← Nat.shiftLeft_add_eq_or_of_lt ha, Nat.shiftLeft_eq, Nat.add_comm]
theorem acc_next (acc x k : Nat) (ha : acc < 128 ^ k) : acc + x % 128 * 128 ^ k < 128 ^ (k + 1) := by
  rw [Nat.pow_succ, Nat.mul_comm (128 ^ k)]
  have : x % 128 * 128 ^ k ≤ 127 * 128 ^ k := Nat.mul_le_mul_right _ (by omega)
  omega
theorem pow_lt9 {k : Nat} (h : k ≤ 9) : 128 ^ k ≤ 9223372036854775808 := by have := pow_le_pow128 h; rw [pow9] at this; exact this
theorem grp_fits {k : Nat} (x : Nat) (h : k < 9) : x % 128 * 128 ^ k < 18446744073709551616 := by
  have h8 : 128 ^ k ≤ 128 ^ 8 := pow_le_pow128 (by omega)
  have : x % 128 * 128 ^ k ≤ 127 * 128 ^ 8 := Nat.mul_le_mul (by omega) h8
  have e8 : (127 : Nat) * 128 ^ 8 < 18446744073709551616 := by decide
  omega
theorem ret3 {a a' : Int} {b b' c c' : Nat} (h : a = a') (h2 : b = b') (h3 : c = c') : Ending.returned (.tuple #[.int .u64 a, .int .i64 (b : Int), .int .i64 (c : Int)]) = .returned (.tuple #[.int .u64 a', .int .i64 (b' : Int), .int .i64 (c' : Int)]) := by rw [h, h2, h3]
set_option maxRecDepth 100000 in
set_option maxHeartbeats 1000000 in
theorem firstNumber_any (D : Nat → Prop) (a : Option Addr) (n c : Nat) (l : List UInt8) (w : World) (hB : Bs D w a n c l) (hn : n ≤ 100000000000000) :
    Calls Try.prog 70 #[.slice a n c] w fun e w' => e = .returned (.tuple #[.int .u64 ((fnum l 0 0).1 : Int), .int .i64 ((fnum l 0 0).2.1 : Int), .int .i64 ((fnum l 0 0).2.2 : Int)]) ∧ w = w' := by
  have HB := Lib.hid hB
  have HL := Lib.hid hB.1
  clear hB
  obtain ⟨F, hF⟩ : ∃ F, F = fnum l 0 0 := ⟨_, rfl⟩
  rw [← hF]
  have HF := Lib.hid hF
  clear hF
  go_enter Try.func70, Try.ntmps70
  go_wp2
  go_loop [5, 10] (fun t i => ∃ (k acc : Nat), k ≤ n ∧ k ≤ 9 ∧ i = .int .i64 (k : Int) ∧ t = .int .u64 (acc : Int) ∧ acc < 128 ^ k ∧ F = fnum (l.drop k) k acc) (fun _ i => n - (intOf i).toNat)
  case atStart => exact ⟨0, 0, Nat.zero_le _, by omega, rfl, rfl, by simp, HF.out⟩
  case round =>
    obtain ⟨k, acc, hk, hk9, rfl, rfl, hacc, hFk⟩ := hrel
    have HFk := Lib.hid hFk
    have HAcc := Lib.hid hacc
    clear hFk hacc HF
    by_cases hlt : k < n
    · have hkl : k < l.length := by have := HL.out; omega
      obtain ⟨b, off, hDb, hbw, rfl, hc⟩ := HB.out.cells (by omega)
      have hcell := hc k hkl
      have hd : l.drop k = l[k] :: l.drop (k + 1) := List.drop_eq_getElem_cons hkl
      have HD := Lib.hid hd
      have hx := l[k].toNat_lt
      clear hc hd
      generalize l[k] = x at *
      by_cases h9 : k = 9
      · subst h9
        by_cases hb : 1 < x.toNat
        · have e := HFk.out
          rw [HD.out, fnum, if_pos ⟨rfl, hb⟩] at e
          subst e
          go_wp2
          go_ret3
          exact ⟨rfl, rfl⟩
        · by_cases hz : x.toNat = 0
          · have e := HFk.out
            rw [HD.out, fnum, if_neg (by omega), if_neg (by omega), if_pos ⟨hz, by omega⟩] at e
            subst e
            go_wp2
            go_ret3
            exact ⟨rfl, rfl⟩
          · have h1 : x.toNat = 1 := by omega
            have e := HFk.out
            rw [HD.out, fnum, if_neg (by omega), if_neg (by omega), if_neg (by omega)] at e
            have ho := or_step acc x.toNat 9 HAcc.out (by rw [h1, pow9]; decide) (by have := HAcc.out; rw [pow9] at this; omega)
            have ho2 : bits .or .u64 (acc : Int) 9223372036854775808 = (acc : Int) + 9223372036854775808 := by
              have h := or_step acc 1 9 HAcc.out (by decide) (by have := HAcc.out; rw [pow9] at this; omega)
              rw [show IntKind.u64.wrap (((1 : Nat) : Int) % 128 * 2 ^ (7 * 9)) = 9223372036854775808 by decide] at h
              rw [h, pow9]; omega
            have HO := Lib.hid ho2
            subst e
            clear ho ho2
            have hz2 : ((x.toNat : Int) == 0) = false := by rw [beq_eq_false_iff_ne]; omega
            go_wp2
            go_ret3
            exact ⟨ret3 HO.out rfl rfl, rfl⟩
      · by_cases hb : 128 ≤ x.toNat
        · have e := HFk.out
          rw [HD.out, fnum, if_neg (by omega), if_pos hb] at e
          have HE := Lib.hid e
          have HO := Lib.hid (or_step acc x.toNat k HAcc.out (grp_fits _ (by omega)) (by have := HAcc.out; have := pow_lt9 hk9; omega))
          clear e
          go_wp2
          go_round
          case rel => exact ⟨k + 1, _, by omega, by omega, by go_num, by rw [HO.out], acc_next _ _ _ HAcc.out, HE.out⟩
          case measure => simp [intOf]; omega
        · by_cases hz : x.toNat = 0 ∧ 0 < k
          · have e := HFk.out
            rw [HD.out, fnum, if_neg (by omega), if_neg hb, if_pos hz] at e
            subst e
            obtain ⟨hz1, hz2⟩ := hz
            go_wp2
            go_ret3
            exact ⟨rfl, rfl⟩
          · have e := HFk.out
            rw [HD.out, fnum, if_neg (by omega), if_neg hb, if_neg hz] at e
            have HO := Lib.hid (or_step acc x.toNat k HAcc.out (grp_fits _ (by omega)) (by have := HAcc.out; have := pow_lt9 hk9; omega))
            subst e
            by_cases hz1 : x.toNat = 0
            · obtain rfl : k = 0 := by omega
              obtain rfl : acc = 0 := by have := HAcc.out; omega
              have hb0 : bits .or .u64 0 0 = 0 := by decide
              have hcell0 : w.cell? ⟨b, off, none⟩ = some (.int .u8 0) := by simpa [hz1] using hcell
              clear HO hcell
              rw [hz1]
              go_wp2
              go_ret3
              exact ⟨rfl, rfl⟩
            · have hz2 : ((x.toNat : Int) == 0) = false := by rw [beq_eq_false_iff_ne]; omega
              go_wp2
              go_ret3
              exact ⟨ret3 HO.out rfl rfl, rfl⟩
    · have e := HFk.out
      rw [List.drop_of_length_le (by have := HL.out; omega), fnum] at e
      subst e
      go_wp2
      go_ret3
      exact ⟨rfl, rfl⟩
end Go.Proofs.Ytbnodhcgdgcebaa

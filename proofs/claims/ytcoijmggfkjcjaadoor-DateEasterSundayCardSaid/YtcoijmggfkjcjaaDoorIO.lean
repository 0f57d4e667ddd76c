/-
  The law DateEasterSunday (written by gen_IO.py).
-/
import Derived.Test.YtcoijmggfkjcjaaDoorIG
namespace Go.Proofs.YtcoijmggfkjcjaaDoor
open Go.RowKit
set_option linter.unusedSimpArgs false
set_option linter.unusedVariables false
def esB (y : Int) : Bool := decide (easR y % 7 = 6) && decide (dayN y 3 22 ≤ easR y) && decide (easR y ≤ dayN y 4 25)
set_option maxRecDepth 100000 in
theorem es_all : (List.range 8417).all (fun k => esB (1583 + (k : Int))) = true := by decide +kernel
theorem es_year (y : Int) (h1 : 1583 ≤ y) (h2 : y ≤ 9999) : easR y % 7 = 6 ∧ dayN y 3 22 ≤ easR y ∧ easR y ≤ dayN y 4 25 := by
  have h := List.all_eq_true.1 es_all (y - 1583).toNat (List.mem_range.2 (by omega))
  have e : 1583 + (((y - 1583).toNat : Nat) : Int) = y := by omega
  rw [e] at h
  simpa [esB, and_assoc] using h
theorem valid_of {y m d : Int} (h1 : 1 ≤ y) (h2 : y ≤ 9999) (hm1 : 1 ≤ m) (hm2 : m ≤ 12) (hd1 : 1 ≤ d) (hd2 : d ≤ 28) : validD y m d := ⟨h1, h2, hd1, by have := (len_pos y m hm1 hm2).1; omega⟩
set_option maxRecDepth 100000 in
set_option maxHeartbeats 2000000 in
theorem easterSunday_law (n : Int) (w : World) (hT : Tabs w) (n1 : -9223372036854775808 ≤ n) (n2 : n ≤ 9223372036854775807) : Calls Tryd.prog 12 #[.int .i64 n] w fun e w' => e = .returned (.bool true) ∧ Below w.heap.size w w' := by
  have hb := aroundD_bd n 8417 (by omega)
  have HAR := Lib.hid (aroundD_any n 8417 w n1 n2 (by omega) (by omega))
  obtain ⟨x, hx⟩ : ∃ x, x = aroundD n 8417 := ⟨_, rfl⟩
  rw [← hx] at hb HAR
  obtain ⟨Y, hY⟩ : ∃ Y, Y = 1583 + x := ⟨_, rfl⟩
  have hw : IntKind.i64.wrap (1583 + x) = Y := by rw [hY]; exact i64_id _ (by omega) (by omega)
  have hes := es_year Y (by omega) (by omega)
  have v1 : validD Y 3 22 := valid_of (by omega) (by omega) (by omega) (by omega) (by omega) (by omega)
  have v2 : validD Y 4 25 := valid_of (by omega) (by omega) (by omega) (by omega) (by omega) (by omega)
  have r1 := day_rng v1
  have r2 := day_rng v2
  have hok : easOk Y := ⟨by omega, by omega⟩
  obtain ⟨lo, hlo⟩ : ∃ lo, lo = dayN Y 3 22 := ⟨_, rfl⟩
  obtain ⟨hi, hhi⟩ : ∃ hi, hi = dayN Y 4 25 := ⟨_, rfl⟩
  obtain ⟨E, hE⟩ : ∃ E, E = easR Y := ⟨_, rfl⟩
  have D1 : Hid (∀ u, Tabs u → Calls Tryd.prog 16 #[.agg #[.int .i64 Y, .int .i64 3, .int .i64 22]] u fun e w' => e = .returned (.tuple #[.int .i64 lo, .int .i64 0]) ∧ Below u.heap.size u w') := Lib.hid (fun u hu => by
    have h := day_any Y 3 22 u hu
    rw [chk_ok v1, show dayR Y 3 22 = lo by unfold dayR; rw [if_pos v1, hlo]] at h
    exact h)
  have D2 : Hid (∀ u, Tabs u → Calls Tryd.prog 16 #[.agg #[.int .i64 Y, .int .i64 4, .int .i64 25]] u fun e w' => e = .returned (.tuple #[.int .i64 hi, .int .i64 0]) ∧ Below u.heap.size u w') := Lib.hid (fun u hu => by
    have h := day_any Y 4 25 u hu
    rw [chk_ok v2, show dayR Y 4 25 = hi by unfold dayR; rw [if_pos v2, hhi]] at h
    exact h)
  have D3 : Hid (∀ u, Tabs u → Calls Tryd.prog 32 #[.int .i64 Y] u fun e w' => e = .returned (.tuple #[.int .i64 E, .int .i64 0]) ∧ Below u.heap.size u w') := Lib.hid (fun u hu => by
    have h := easter_any Y u hu
    rw [← hE, show easE Y = 0 by unfold easE; rw [if_pos hok]] at h
    exact h)
  rw [← hlo, ← hhi, ← hE] at hes
  rw [← hlo] at r1
  rw [← hhi] at r2
  have HWD : Hid (∀ u, Calls Tryd.prog 26 #[.int .i64 E] u fun e w' => e = .returned (.int .i64 6) ∧ u = w') := Lib.hid (fun u => by
    have h := weekday_any E u (by omega) (by omega)
    rw [hes.1] at h
    exact h)
  obtain ⟨-, hes1, hes2⟩ := hes
  have HTP := Lib.hid hT
  have HBP : Hid (Below w.heap.size w w) := Lib.hid (Below.refl _ _)
  clear hT v1 v2 r1 r2 hok hlo hhi hE hx hY hb
  go_enter Tryd.func12, Tryd.ntmps12
  go_upto_region 2 with (go_at_call 15; refine (HAR.out).mono ?_; rintro e w1 ⟨rfl, rfl⟩)
  go_upto_region 3 with (go_at_call 32; refine (D3.out _ HTP.out).mono ?_; rintro e w1 ⟨rfl, hb⟩; have HTN := Tab_stepD HTP hb; have HBN := Bel_stepD HBP hb; clear HTP HBP hb; have HTP := HTN; have HBP := HBN; clear HTN HBN)
  go_upto_region 4 with (go_at_call 16; refine (D1.out _ HTP.out).mono ?_; rintro e w1 ⟨rfl, hb⟩; have HTN := Tab_stepD HTP hb; have HBN := Bel_stepD HBP hb; clear HTP HBP hb; have HTP := HTN; have HBP := HBN; clear HTN HBN)
  go_upto_region 5 with (go_at_call 16; refine (D2.out _ HTP.out).mono ?_; rintro e w1 ⟨rfl, hb⟩; have HTN := Tab_stepD HTP hb; have HBN := Bel_stepD HBP hb; clear HTP HBP hb; have HTP := HTN; have HBP := HBN; clear HTN HBN)
  go_wp2_with (first
    | (go_at_call 26; refine (HWD.out _).mono ?_; rintro e w1 ⟨rfl, rfl⟩)
    | (go_at_call 19; refine (lives_any _ HTP.out).mono ?_; rintro e w1 ⟨rfl, hb⟩; have HTN := Tab_stepD HTP hb; have HBN := Bel_stepD HBP hb; clear HTP HBP hb; have HTP := HTN; have HBP := HBN; clear HTN HBN))
  go_ret
  exact ⟨rfl, HBP.out⟩
end Go.Proofs.YtcoijmggfkjcjaaDoor

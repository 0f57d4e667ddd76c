/-
  The examples of the chapter, and the laws' days (written by gen_IG.py).
-/
import Derived.Test.YtcoijmggfkjcjaaDoorI8
import Derived.Test.YtcoijmggfkjcjaaDoorIB
import Derived.Test.YtcoijmggfkjcjaaDoorIE
import Derived.Test.YtcoijmggfkjcjaaDoorIF
namespace Go.Proofs.YtcoijmggfkjcjaaDoor
open Go.RowKit
set_option linter.unusedSimpArgs false
set_option linter.unusedVariables false
theorem Bel_stepD {w p w' : World} (h : Hid (Below w.heap.size w p)) (hb : Below p.heap.size p w') : Hid (Below w.heap.size w w') := Lib.hid (h.out.trans (hb.mono h.out.size))
theorem Tab_stepD {p w' : World} (h : Hid (Tabs p)) (hb : Below p.heap.size p w') : Hid (Tabs w') := Lib.hid (h.out.below hb)
/-- a day from any number; a number near the range -/
def dayOfN (n : Int) : Int := aroundD n 3652059
def nearN (n : Int) : Int := aroundD n 3652065 - 3
theorem dayOfN_ok (n : Int) : okN (dayOfN n) := by
  have := aroundD_bd n 3652059 (by omega)
  unfold okN dayOfN
  omega
theorem dayHelp_any (n : Int) (w : World) (h1 : -9223372036854775808 ≤ n) (h2 : n ≤ 9223372036854775807) : Calls Tryd.prog 21 #[.int .i64 n] w fun e w' => e = .returned (.int .i64 (dayOfN n)) ∧ w = w' := by
  have HA := Lib.hid (aroundD_any n 3652059 w h1 h2 (by omega) (by omega))
  go_enter Tryd.func21, Tryd.ntmps21
  go_wp2_with (go_at_call 15; refine HA.out.mono ?_; rintro e w1 ⟨rfl, rfl⟩)
  go_ret
  exact ⟨rfl, rfl⟩
theorem near_any (n : Int) (w : World) (h1 : -9223372036854775808 ≤ n) (h2 : n ≤ 9223372036854775807) : Calls Tryd.prog 20 #[.int .i64 n] w fun e w' => e = .returned (.int .i64 (nearN n)) ∧ w = w' := by
  have HA := Lib.hid (aroundD_any n 3652065 w h1 h2 (by omega) (by omega))
  have hb := aroundD_bd n 3652065 (by omega)
  obtain ⟨x, hx⟩ : ∃ x, x = aroundD n 3652065 := ⟨_, rfl⟩
  have HN : Hid (nearN n = x - 3) := Lib.hid (by unfold nearN; rw [hx])
  rw [← hx] at HA hb
  have hw : IntKind.i64.wrap (x - 3) = x - 3 := i64_id _ (by omega) (by omega)
  clear hx
  go_enter Tryd.func20, Tryd.ntmps20
  go_wp2_with (go_at_call 15; refine HA.out.mono ?_; rintro e w1 ⟨rfl, rfl⟩)
  go_ret
  exact ⟨ret_intD HN.out.symm, rfl⟩
set_option maxRecDepth 100000 in
set_option maxHeartbeats 4000000 in
theorem lives_any (w : World) (hT : Tabs w) : Calls Tryd.prog 19 #[] w fun e w' => e = .returned (.bool true) ∧ Below w.heap.size w w' := by
  have C1 : Hid (∀ u, Tabs u → Calls Tryd.prog 16 #[.agg #[.int .i64 2000, .int .i64 2, .int .i64 29]] u fun e w' => e = .returned (.tuple #[.int .i64 730178, .int .i64 0]) ∧ Below u.heap.size u w') := Lib.hid (fun u hu => by
    have h := day_any 2000 2 29 u hu
    have e1 : dayR 2000 2 29 = 730178 := by decide +kernel
    have e2 : chk 2000 2 29 = 0 := by decide +kernel
    rw [e1, e2] at h
    exact h)
  have C2 : Hid (∀ u, Tabs u → Calls Tryd.prog 16 #[.agg #[.int .i64 9999, .int .i64 12, .int .i64 31]] u fun e w' => e = .returned (.tuple #[.int .i64 3652058, .int .i64 0]) ∧ Below u.heap.size u w') := Lib.hid (fun u hu => by
    have h := day_any 9999 12 31 u hu
    have e1 : dayR 9999 12 31 = 3652058 := by decide +kernel
    have e2 : chk 9999 12 31 = 0 := by decide +kernel
    rw [e1, e2] at h
    exact h)
  have C3 : Hid (∀ u, Tabs u → Calls Tryd.prog 32 #[.int .i64 2026] u fun e w' => e = .returned (.tuple #[.int .i64 739710, .int .i64 0]) ∧ Below u.heap.size u w') := Lib.hid (fun u hu => by
    have h := easter_any 2026 u hu
    have e1 : easR 2026 = 739710 := by decide +kernel
    have e2 : easE 2026 = 0 := by decide +kernel
    rw [e1, e2] at h
    exact h)
  have C4 : Hid (∀ u, Tabs u → Calls Tryd.prog 36 #[.string ⟨#[50, 48, 50, 54, 45, 48, 49, 45, 51, 49]⟩] u fun e w' => e = .returned (.tuple #[.int .i64 739646, .int .i64 0]) ∧ Below u.heap.size u w') := Lib.hid (fun u hu => by
    have h := parse_any ⟨#[50, 48, 50, 54, 45, 48, 49, 45, 51, 49]⟩ u (by decide) hu
    have e1 : prsN ((⟨#[50, 48, 50, 54, 45, 48, 49, 45, 51, 49]⟩ : ByteArray).data.toList) = 739646 := by decide +kernel
    have e2 : prsE ((⟨#[50, 48, 50, 54, 45, 48, 49, 45, 51, 49]⟩ : ByteArray).data.toList) = 0 := by decide +kernel
    rw [e1, e2] at h
    exact h)
  have C5 : Hid (∀ u, Tabs u → Calls Tryd.prog 34 #[.int .i64 739646, .int .i64 1] u fun e w' => e = .returned (.tuple #[.int .i64 739674, .int .i64 0]) ∧ Below u.heap.size u w') := Lib.hid (fun u hu => by
    have h := addMonths_any 739646 (1) u hu
    have e1 : amR 739646 (1) = 739674 := by decide +kernel
    have e2 : amE 739646 (1) = 0 := by decide +kernel
    rw [e1, e2] at h
    exact h)
  have C6 : Hid (∀ u, Tabs u → Calls Tryd.prog 36 #[.string ⟨#[50, 48, 50, 52, 45, 48, 51, 45, 51, 49]⟩] u fun e w' => e = .returned (.tuple #[.int .i64 738975, .int .i64 0]) ∧ Below u.heap.size u w') := Lib.hid (fun u hu => by
    have h := parse_any ⟨#[50, 48, 50, 52, 45, 48, 51, 45, 51, 49]⟩ u (by decide) hu
    have e1 : prsN ((⟨#[50, 48, 50, 52, 45, 48, 51, 45, 51, 49]⟩ : ByteArray).data.toList) = 738975 := by decide +kernel
    have e2 : prsE ((⟨#[50, 48, 50, 52, 45, 48, 51, 45, 51, 49]⟩ : ByteArray).data.toList) = 0 := by decide +kernel
    rw [e1, e2] at h
    exact h)
  have C7 : Hid (∀ u, Tabs u → Calls Tryd.prog 34 #[.int .i64 738975, .int .i64 (-13)] u fun e w' => e = .returned (.tuple #[.int .i64 738578, .int .i64 0]) ∧ Below u.heap.size u w') := Lib.hid (fun u hu => by
    have h := addMonths_any 738975 (-13) u hu
    have e1 : amR 738975 (-13) = 738578 := by decide +kernel
    have e2 : amE 738975 (-13) = 0 := by decide +kernel
    rw [e1, e2] at h
    exact h)
  have C8 : Hid (∀ u, Tabs u → Calls Tryd.prog 36 #[.string ⟨#[50, 48, 50, 54, 45, 48, 50, 45, 50, 57]⟩] u fun e w' => e = .returned (.tuple #[.int .i64 0, .int .i64 5]) ∧ Below u.heap.size u w') := Lib.hid (fun u hu => by
    have h := parse_any ⟨#[50, 48, 50, 54, 45, 48, 50, 45, 50, 57]⟩ u (by decide) hu
    have e1 : prsN ((⟨#[50, 48, 50, 54, 45, 48, 50, 45, 50, 57]⟩ : ByteArray).data.toList) = 0 := by decide +kernel
    have e2 : prsE ((⟨#[50, 48, 50, 54, 45, 48, 50, 45, 50, 57]⟩ : ByteArray).data.toList) = 5 := by decide +kernel
    rw [e1, e2] at h
    exact h)
  have C9 : Hid (∀ u, Tabs u → Calls Tryd.prog 36 #[.string ⟨#[50, 48, 50, 54, 45, 50, 45, 57]⟩] u fun e w' => e = .returned (.tuple #[.int .i64 0, .int .i64 7]) ∧ Below u.heap.size u w') := Lib.hid (fun u hu => by
    have h := parse_any ⟨#[50, 48, 50, 54, 45, 50, 45, 57]⟩ u (by decide) hu
    have e1 : prsN ((⟨#[50, 48, 50, 54, 45, 50, 45, 57]⟩ : ByteArray).data.toList) = 0 := by decide +kernel
    have e2 : prsE ((⟨#[50, 48, 50, 54, 45, 50, 45, 57]⟩ : ByteArray).data.toList) = 7 := by decide +kernel
    rw [e1, e2] at h
    exact h)
  have P0 : Hid (∀ u, Tabs u → Calls Tryd.prog 24 #[.int .i64 739710] u fun e w' => e = .returned (.string ⟨#[50, 48, 50, 54, 45, 48, 52, 45, 48, 53]⟩) ∧ Below u.heap.size u w') := Lib.hid (fun u hu => by
    have h := print_any 739710 u hu
    have e1 : printB 739710 = ⟨#[50, 48, 50, 54, 45, 48, 52, 45, 48, 53]⟩ := by decide +kernel
    rw [e1] at h
    exact h)
  have P1 : Hid (∀ u, Tabs u → Calls Tryd.prog 24 #[.int .i64 739674] u fun e w' => e = .returned (.string ⟨#[50, 48, 50, 54, 45, 48, 50, 45, 50, 56]⟩) ∧ Below u.heap.size u w') := Lib.hid (fun u hu => by
    have h := print_any 739674 u hu
    have e1 : printB 739674 = ⟨#[50, 48, 50, 54, 45, 48, 50, 45, 50, 56]⟩ := by decide +kernel
    rw [e1] at h
    exact h)
  have P2 : Hid (∀ u, Tabs u → Calls Tryd.prog 24 #[.int .i64 738578] u fun e w' => e = .returned (.string ⟨#[50, 48, 50, 51, 45, 48, 50, 45, 50, 56]⟩) ∧ Below u.heap.size u w') := Lib.hid (fun u hu => by
    have h := print_any 738578 u hu
    have e1 : printB 738578 = ⟨#[50, 48, 50, 51, 45, 48, 50, 45, 50, 56]⟩ := by decide +kernel
    rw [e1] at h
    exact h)
  have P3 : Hid (∀ u, Tabs u → Calls Tryd.prog 24 #[.int .i64 0] u fun e w' => e = .returned (.string ⟨#[48, 48, 48, 49, 45, 48, 49, 45, 48, 49]⟩) ∧ Below u.heap.size u w') := Lib.hid (fun u hu => by
    have h := print_any 0 u hu
    have e1 : printB 0 = ⟨#[48, 48, 48, 49, 45, 48, 49, 45, 48, 49]⟩ := by decide +kernel
    rw [e1] at h
    exact h)
  have HTP := Lib.hid hT
  have HBP : Hid (Below w.heap.size w w) := Lib.hid (Below.refl _ _)
  have HWD : Hid (∀ u, Calls Tryd.prog 26 #[.int .i64 730178] u fun e w' => e = .returned (.int .i64 1) ∧ u = w') := Lib.hid (fun u => weekday_any 730178 u (by omega) (by omega))
  clear hT
  go_enter Tryd.func19, Tryd.ntmps19
  go_upto_region 2 with (go_at_call 16; refine (C1.out _ HTP.out).mono ?_; rintro e p1 ⟨rfl, hb⟩; have HTN := Tab_stepD HTP hb; have HBN := Bel_stepD HBP hb; clear HTP HBP hb C1; have HTP := HTN; have HBP := HBN; clear HTN HBN)
  go_upto_region 3 with (go_at_call 16; refine (C2.out _ HTP.out).mono ?_; rintro e p2 ⟨rfl, hb⟩; have HTN := Tab_stepD HTP hb; have HBN := Bel_stepD HBP hb; clear HTP HBP hb C2; have HTP := HTN; have HBP := HBN; clear HTN HBN)
  go_upto_region 4 with (go_at_call 32; refine (C3.out _ HTP.out).mono ?_; rintro e p3 ⟨rfl, hb⟩; have HTN := Tab_stepD HTP hb; have HBN := Bel_stepD HBP hb; clear HTP HBP hb C3; have HTP := HTN; have HBP := HBN; clear HTN HBN)
  go_upto_region 5 with (go_at_call 36; refine (C4.out _ HTP.out).mono ?_; rintro e p4 ⟨rfl, hb⟩; have HTN := Tab_stepD HTP hb; have HBN := Bel_stepD HBP hb; clear HTP HBP hb C4; have HTP := HTN; have HBP := HBN; clear HTN HBN)
  go_upto_region 6 with (go_at_call 34; refine (C5.out _ HTP.out).mono ?_; rintro e p5 ⟨rfl, hb⟩; have HTN := Tab_stepD HTP hb; have HBN := Bel_stepD HBP hb; clear HTP HBP hb C5; have HTP := HTN; have HBP := HBN; clear HTN HBN)
  go_upto_region 7 with (go_at_call 36; refine (C6.out _ HTP.out).mono ?_; rintro e p6 ⟨rfl, hb⟩; have HTN := Tab_stepD HTP hb; have HBN := Bel_stepD HBP hb; clear HTP HBP hb C6; have HTP := HTN; have HBP := HBN; clear HTN HBN)
  go_upto_region 8 with (go_at_call 34; refine (C7.out _ HTP.out).mono ?_; rintro e p7 ⟨rfl, hb⟩; have HTN := Tab_stepD HTP hb; have HBN := Bel_stepD HBP hb; clear HTP HBP hb C7; have HTP := HTN; have HBP := HBN; clear HTN HBN)
  go_upto_region 9 with (go_at_call 36; refine (C8.out _ HTP.out).mono ?_; rintro e p8 ⟨rfl, hb⟩; have HTN := Tab_stepD HTP hb; have HBN := Bel_stepD HBP hb; clear HTP HBP hb C8; have HTP := HTN; have HBP := HBN; clear HTN HBN)
  go_upto_region 10 with (go_at_call 36; refine (C9.out _ HTP.out).mono ?_; rintro e p9 ⟨rfl, hb⟩; have HTN := Tab_stepD HTP hb; have HBN := Bel_stepD HBP hb; clear HTP HBP hb C9; have HTP := HTN; have HBP := HBN; clear HTN HBN)
  go_upto_region 12 with fail
  go_wp2_with (first
    | (go_at_call 26; refine (HWD.out _).mono ?_; rintro e w1 ⟨rfl, rfl⟩)
    | (have _t := P0; go_at_call 24; refine (P0.out _ HTP.out).mono ?_; rintro e q0 ⟨rfl, hb⟩; have HTN := Tab_stepD HTP hb; have HBN := Bel_stepD HBP hb; clear _t HTP HBP hb P0; have HTP := HTN; have HBP := HBN; clear HTN HBN)
    | (have _t := P1; go_at_call 24; refine (P1.out _ HTP.out).mono ?_; rintro e q1 ⟨rfl, hb⟩; have HTN := Tab_stepD HTP hb; have HBN := Bel_stepD HBP hb; clear _t HTP HBP hb P1; have HTP := HTN; have HBP := HBN; clear HTN HBN)
    | (have _t := P2; go_at_call 24; refine (P2.out _ HTP.out).mono ?_; rintro e q2 ⟨rfl, hb⟩; have HTN := Tab_stepD HTP hb; have HBN := Bel_stepD HBP hb; clear _t HTP HBP hb P2; have HTP := HTN; have HBP := HBN; clear HTN HBN)
    | (have _t := P3; go_at_call 24; refine (P3.out _ HTP.out).mono ?_; rintro e q3 ⟨rfl, hb⟩; have HTN := Tab_stepD HTP hb; have HBN := Bel_stepD HBP hb; clear _t HTP HBP hb P3; have HTP := HTN; have HBP := HBN; clear HTN HBN))
  go_ret
  exact ⟨rfl, HBP.out⟩
end Go.Proofs.YtcoijmggfkjcjaaDoor

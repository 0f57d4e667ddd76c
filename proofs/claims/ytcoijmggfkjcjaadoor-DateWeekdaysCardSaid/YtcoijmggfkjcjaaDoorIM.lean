/-
  The law DateWeekdays (written by gen_IM.py).
-/
import Derived.Test.YtcoijmggfkjcjaaDoorIG
namespace Go.Proofs.YtcoijmggfkjcjaaDoor
open Go.RowKit
set_option linter.unusedSimpArgs false
set_option linter.unusedVariables false
set_option maxRecDepth 100000 in
set_option maxHeartbeats 2000000 in
theorem weekdays_law (n m : Int) (w : World) (hT : Tabs w) (n1 : -9223372036854775808 ≤ n) (n2 : n ≤ 9223372036854775807) (m1 : -9223372036854775808 ≤ m) (m2 : m ≤ 9223372036854775807) :
    Calls Tryd.prog 5 #[.int .i64 n, .int .i64 m] w fun e w' => e = .returned (.bool true) ∧ Below w.heap.size w w' := by
  have hb := aroundD_bd m 15 (by omega)
  have HAR := Lib.hid (aroundD_any m 15 w m1 m2 (by omega) (by omega))
  obtain ⟨x, hx⟩ : ∃ x, x = aroundD m 15 := ⟨_, rfl⟩
  rw [← hx] at hb HAR
  have hw : IntKind.i64.wrap (x - 1) = x - 1 := i64_id _ (by omega) (by omega)
  have HTU := Lib.hid hT
  have HWD : Hid (∀ u, Calls Tryd.prog 26 #[.int .i64 n] u fun e w' => e = .returned (.int .i64 (n % 7)) ∧ u = w') := Lib.hid (fun u => weekday_any n u n1 n2)
  have HWR : Hid (∀ u, Calls Tryd.prog 27 #[.int .i64 n] u fun e w' => e = .returned (.int .i64 (n % 7)) ∧ u = w') := Lib.hid (fun u => refWeekday_any n u n1 n2)
  have HLP : Hid (Calls Tryd.prog 28 #[.int .i64 n] w fun e w' => e = .returned (.bool (leapB n)) ∧ w = w') := Lib.hid (leap_any n w)
  have HLR : Hid (Calls Tryd.prog 29 #[.int .i64 n] w fun e w' => e = .returned (.bool (leapB n)) ∧ w = w') := Lib.hid (refLeap_any n w)
  obtain ⟨d, hd⟩ : ∃ d, d = n % 7 := ⟨_, rfl⟩
  rw [← hd] at HWD HWR
  obtain ⟨L, hL⟩ : ∃ L, L = leapB n := ⟨_, rfl⟩
  rw [← hL] at HLP HLR
  have HLN : Hid (∀ z, Calls Tryd.prog 30 #[.int .i64 n, .int .i64 z] w fun e w' => e = .returned (.int .i64 (lenD n z)) ∧ w = w') := Lib.hid (fun z => length_any n z w hT)
  have HRN : Hid (∀ z, Calls Tryd.prog 31 #[.int .i64 n, .int .i64 z] w fun e w' => e = .returned (.int .i64 (lenD n z)) ∧ w = w') := Lib.hid (fun z => refLength_any n z w)
  have HL := Lib.hid (fun u hu => lives_any u hu)
  clear hT hx hd hL
  go_enter Tryd.func5, Tryd.ntmps5
  go_wp2_with (first
    | (go_at_call 15; refine (HAR.out).mono ?_; rintro e w1 ⟨rfl, rfl⟩)
    | (go_at_call 26; refine (HWD.out _).mono ?_; rintro e w1 ⟨rfl, rfl⟩)
    | (go_at_call 27; refine (HWR.out _).mono ?_; rintro e w1 ⟨rfl, rfl⟩)
    | (go_at_call 28; refine (HLP.out).mono ?_; rintro e w1 ⟨rfl, rfl⟩)
    | (go_at_call 29; refine (HLR.out).mono ?_; rintro e w1 ⟨rfl, rfl⟩)
    | (go_at_call 30; refine (HLN.out _).mono ?_; rintro e w1 ⟨rfl, rfl⟩)
    | (go_at_call 31; refine (HRN.out _).mono ?_; rintro e w1 ⟨rfl, rfl⟩)
    | (go_at_call 19; refine (HL.out _ HTU.out).mono ?_; rintro e w9 ⟨rfl, hb⟩; have HBL := Lib.hid hb; clear hb))
  go_ret
  exact ⟨rfl, HBL.out⟩
end Go.Proofs.YtcoijmggfkjcjaaDoor

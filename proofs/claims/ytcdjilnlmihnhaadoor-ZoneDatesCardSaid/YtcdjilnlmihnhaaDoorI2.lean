/-
  Leap years, lengths of months, first days of years, remainders: the program's functions and the reference's (written by gen_I2.py).
-/
import Derived.Test.YtcdjilnlmihnhaaDoorI0
import Derived.Test.YtcdjilnlmihnhaaDoorA0
import Derived.Test.YtcdjilnlmihnhaaDoorR0
import Derived.Lib.LaidTab
import Derived.Lib.ItoaNum
import Derived.Lib.ItoaMem
import Derived.WalkSmall
import Derived.BigQuiet
import Derived.Deep.QuietTactic
import Derived.StillTailTactics
namespace Go.Proofs.YtcdjilnlmihnhaaDoor
open Go.RowKit
set_option linter.unusedSimpArgs false
set_option linter.unusedVariables false
theorem ret_bool {a b : Bool} (h : a = b) : Ending.returned (.bool a) = .returned (.bool b) := by rw [h]
theorem ret_intD {k : IntKind} {a b : Int} (h : a = b) : Ending.returned (.int k a) = .returned (.int k b) := by rw [h]
def lens : List Int := [31, 28, 31, 30, 31, 30, 31, 31, 30, 31, 30, 31]
/-- the program's tables hold what they were laid with -/
structure Tabs (w : World) : Prop where
  len : Lib.TabIs Tryd.prog w "rollbook/date.lengths" .i64 lens
  pow : Lib.TabIs Tryd.prog w "internal/strconv.uint64pow10" .u64 Lib.pow10Tab
theorem gnLen : Tryd.prog.globalNamed "rollbook/date.lengths" = some 0 := by kernel_rfl
theorem Tabs.at {w : World} (h : Tabs w) (i : Nat) (hi : i < 12) : w.cell? ⟨0, i, none⟩ = some (.int .i64 (lens.getD i 0)) := h.len.cell gnLen i hi
theorem var_lt {w : World} {n : String} {g : Nat} {cs : Array Value} (hg : Tryd.prog.globalNamed n = some g) (h : w.var? Tryd.prog n = some cs) : g < w.heap.size := by
  unfold World.var? at h
  rw [hg] at h
  rcases Nat.lt_or_ge g w.heap.size with hl | hl
  · exact hl
  · simp only [Option.bind_some, Array.getElem?_eq_none hl] at h
    cases h
theorem tab_below {w w' : World} {n : String} {k : IntKind} {zs : List Int} (h : Lib.TabIs Tryd.prog w n k zs) (hb : Below w.heap.size w w') : Lib.TabIs Tryd.prog w' n k zs := by
  cases hg : Tryd.prog.globalNamed n with
  | none => unfold Lib.TabIs World.var? at h; rw [hg] at h; cases h
  | some g => exact var?_below hb hg (var_lt hg h) h
theorem Tabs.below {w w' : World} (h : Tabs w) (hb : Below w.heap.size w w') : Tabs w' := ⟨tab_below h.len hb, tab_below h.pow hb⟩
theorem tm0 (y k : Int) : y.tmod k = 0 ↔ y % k = 0 := by rw [← Int.dvd_iff_tmod_eq_zero, ← Int.dvd_iff_emod_eq_zero]
theorem tmb (y k : Int) : (y.tmod k == 0) = (y % k == 0) := by rw [Bool.eq_iff_iff, beq_iff_eq, beq_iff_eq, tm0]

theorem leap_any (y : Int) (w : World) : Calls Tryd.prog 32 #[.int .i64 y] w fun e w' => e = .returned (.bool (leapB y)) ∧ w = w' := by
  have HL : Hid (leapB y = ((y.tmod 4 == 0 && !(y.tmod 100 == 0)) || y.tmod 400 == 0)) := Lib.hid (by simp only [tmb]; rfl)
  by_cases h4 : y.tmod 4 = 0
  · by_cases h100 : y.tmod 100 = 0
    · by_cases h400 : y.tmod 400 = 0
      · go_enter Tryd.func32, Tryd.ntmps32
        go_wp2
        go_ret
        exact ⟨ret_bool (by rw [HL.out]; simp [h4, h100, h400]), rfl⟩
      · go_enter Tryd.func32, Tryd.ntmps32
        go_wp2
        go_ret
        exact ⟨ret_bool (by rw [HL.out]; simp [h4, h100, h400]), rfl⟩
    · go_enter Tryd.func32, Tryd.ntmps32
      go_wp2
      go_ret
      exact ⟨ret_bool (by rw [HL.out]; simp [h4, h100]), rfl⟩
  · by_cases h400 : y.tmod 400 = 0
    · exfalso; rw [tm0] at *; omega
    · go_enter Tryd.func32, Tryd.ntmps32
      go_wp2
      go_ret
      exact ⟨ret_bool (by rw [HL.out]; simp [h4, h400]), rfl⟩

theorem newYear_any (y : Int) (w : World) (h1 : 1 ≤ y) (h2 : y ≤ 20000) : Calls Tryd.prog 24 #[.int .i64 y] w fun e w' => e = .returned (.int .i64 (newY y)) ∧ w = w' := by
  obtain ⟨p, hp⟩ : ∃ p, p = y - 1 := ⟨_, rfl⟩
  have hw0 : IntKind.i64.wrap (y - 1) = p := by rw [hp]; exact i64_id _ (by omega) (by omega)
  have HN : Hid (newY y = 365 * p + p / 4 - p / 100 + p / 400) := Lib.hid (by unfold newY; rw [hp])
  have hp0 : 0 ≤ p := by omega
  have hp1 : p ≤ 20000 := by omega
  clear hp
  have hw1 : IntKind.i64.wrap (365 * p) = 365 * p := i64_id _ (by omega) (by omega)
  have hw2 : IntKind.i64.wrap (365 * p + p / 4) = 365 * p + p / 4 := i64_id _ (by omega) (by omega)
  have hw3 : IntKind.i64.wrap (365 * p + p / 4 - p / 100) = 365 * p + p / 4 - p / 100 := i64_id _ (by omega) (by omega)
  have hw4 : IntKind.i64.wrap (365 * p + p / 4 - p / 100 + p / 400) = 365 * p + p / 4 - p / 100 + p / 400 := i64_id _ (by omega) (by omega)
  go_enter Tryd.func24, Tryd.ntmps24
  go_wp2
  go_ret
  exact ⟨ret_intD (by rw [HN.out]), rfl⟩

set_option maxRecDepth 100000 in
theorem length_any (y m : Int) (w : World) (hT : Tabs w) : Calls Tryd.prog 25 #[.int .i64 y, .int .i64 m] w fun e w' => e = .returned (.int .i64 (lenD y m)) ∧ w = w' := by
  by_cases hm : m < 1
  · have HL : Hid (lenD y m = 0) := Lib.hid (len_bad y m (.inl hm))
    clear hT
    go_enter Tryd.func25, Tryd.ntmps25
    go_wp2
    go_ret
    exact ⟨ret_intD HL.out.symm, rfl⟩
  · by_cases hm2 : 12 < m
    · have HL : Hid (lenD y m = 0) := Lib.hid (len_bad y m (.inr hm2))
      clear hT
      go_enter Tryd.func25, Tryd.ntmps25
      go_wp2
      go_ret
      exact ⟨ret_intD HL.out.symm, rfl⟩
    · have hc : m = 1 ∨ m = 2 ∨ m = 3 ∨ m = 4 ∨ m = 5 ∨ m = 6 ∨ m = 7 ∨ m = 8 ∨ m = 9 ∨ m = 10 ∨ m = 11 ∨ m = 12 := by omega
      clear hm hm2
      rcases hc with rfl | rfl | rfl | rfl | rfl | rfl | rfl | rfl | rfl | rfl | rfl | rfl
      · have hc : w.cell? ⟨0, 0, none⟩ = some (.int .i64 31) := hT.at 0 (by omega)
        clear hT
        go_enter Tryd.func25, Tryd.ntmps25
        go_wp2
        go_ret
        exact ⟨ret_intD (by simp [lenD]), rfl⟩
      · have hc : w.cell? ⟨0, 1, none⟩ = some (.int .i64 28) := hT.at 1 (by omega)
        clear hT
        cases hl : leapB y
        · go_enter Tryd.func25, Tryd.ntmps25
          go_wp2_with (go_at_call 32; refine (leap_any y _).mono ?_; rintro e w1 ⟨rfl, rfl⟩)
          go_ret
          exact ⟨ret_intD (by simp [lenD, hl]), rfl⟩
        · go_enter Tryd.func25, Tryd.ntmps25
          go_wp2_with (go_at_call 32; refine (leap_any y _).mono ?_; rintro e w1 ⟨rfl, rfl⟩)
          go_ret
          exact ⟨ret_intD (by simp [lenD, hl]), rfl⟩
      · have hc : w.cell? ⟨0, 2, none⟩ = some (.int .i64 31) := hT.at 2 (by omega)
        clear hT
        go_enter Tryd.func25, Tryd.ntmps25
        go_wp2
        go_ret
        exact ⟨ret_intD (by simp [lenD]), rfl⟩
      · have hc : w.cell? ⟨0, 3, none⟩ = some (.int .i64 30) := hT.at 3 (by omega)
        clear hT
        go_enter Tryd.func25, Tryd.ntmps25
        go_wp2
        go_ret
        exact ⟨ret_intD (by simp [lenD]), rfl⟩
      · have hc : w.cell? ⟨0, 4, none⟩ = some (.int .i64 31) := hT.at 4 (by omega)
        clear hT
        go_enter Tryd.func25, Tryd.ntmps25
        go_wp2
        go_ret
        exact ⟨ret_intD (by simp [lenD]), rfl⟩
      · have hc : w.cell? ⟨0, 5, none⟩ = some (.int .i64 30) := hT.at 5 (by omega)
        clear hT
        go_enter Tryd.func25, Tryd.ntmps25
        go_wp2
        go_ret
        exact ⟨ret_intD (by simp [lenD]), rfl⟩
      · have hc : w.cell? ⟨0, 6, none⟩ = some (.int .i64 31) := hT.at 6 (by omega)
        clear hT
        go_enter Tryd.func25, Tryd.ntmps25
        go_wp2
        go_ret
        exact ⟨ret_intD (by simp [lenD]), rfl⟩
      · have hc : w.cell? ⟨0, 7, none⟩ = some (.int .i64 31) := hT.at 7 (by omega)
        clear hT
        go_enter Tryd.func25, Tryd.ntmps25
        go_wp2
        go_ret
        exact ⟨ret_intD (by simp [lenD]), rfl⟩
      · have hc : w.cell? ⟨0, 8, none⟩ = some (.int .i64 30) := hT.at 8 (by omega)
        clear hT
        go_enter Tryd.func25, Tryd.ntmps25
        go_wp2
        go_ret
        exact ⟨ret_intD (by simp [lenD]), rfl⟩
      · have hc : w.cell? ⟨0, 9, none⟩ = some (.int .i64 31) := hT.at 9 (by omega)
        clear hT
        go_enter Tryd.func25, Tryd.ntmps25
        go_wp2
        go_ret
        exact ⟨ret_intD (by simp [lenD]), rfl⟩
      · have hc : w.cell? ⟨0, 10, none⟩ = some (.int .i64 30) := hT.at 10 (by omega)
        clear hT
        go_enter Tryd.func25, Tryd.ntmps25
        go_wp2
        go_ret
        exact ⟨ret_intD (by simp [lenD]), rfl⟩
      · have hc : w.cell? ⟨0, 11, none⟩ = some (.int .i64 31) := hT.at 11 (by omega)
        clear hT
        go_enter Tryd.func25, Tryd.ntmps25
        go_wp2
        go_ret
        exact ⟨ret_intD (by simp [lenD]), rfl⟩
theorem tmod_pos (a m : Int) (hm : 0 < m) : ((a.tmod m + m).tmod m) = a % m := by
  have h1 : -m < a.tmod m := Int.lt_tmod_of_pos a hm
  rw [Int.tmod_eq_emod_of_nonneg (by omega), Int.add_emod_right]
  have h2 := Int.dvd_sub_self_of_emod_eq (a := a.tmod m) (b := m) rfl
  have h3 : a.tmod m = a - m * a.tdiv m := by have := Int.tmod_add_mul_tdiv a m; omega
  rw [h3, Int.sub_mul_emod_self_left]
/-- n modulo most, as the laws reckon it -/
def aroundD (n most : Int) : Int := if n < 0 then -(n + 1) % most else n % most
theorem aroundD_bd (n most : Int) (h : 0 < most) : 0 ≤ aroundD n most ∧ aroundD n most < most := by
  unfold aroundD
  split
  · exact ⟨Int.emod_nonneg _ (by omega), Int.emod_lt_of_pos _ h⟩
  · exact ⟨Int.emod_nonneg _ (by omega), Int.emod_lt_of_pos _ h⟩
theorem aroundD_any (n most : Int) (w : World) (h1 : -9223372036854775808 ≤ n) (h2 : n ≤ 9223372036854775807) (h3 : 0 < most) (h4 : most ≤ 9223372036854775807) :
    Calls Tryd.prog 5 #[.int .i64 n, .int .i64 most] w fun e w' => e = .returned (.int .i64 (aroundD n most)) ∧ w = w' := by
  by_cases hn : n < 0
  · have hw1 : IntKind.i64.wrap (n + 1) = n + 1 := i64_id _ (by omega) (by omega)
    have hw2 : IntKind.i64.wrap (-(n + 1)) = -(n + 1) := i64_id _ (by omega) (by omega)
    have HA : Hid (aroundD n most = -(n + 1) % most) := Lib.hid (by unfold aroundD; rw [if_pos hn])
    go_enter Tryd.func5, Tryd.ntmps5
    go_wp2
    go_ret
    have e : -(n + 1).tmod most = -(n + 1) % most := by rw [← Int.neg_tmod, Int.tmod_eq_emod_of_nonneg (by omega)]
    refine ⟨ret_intD ?_, rfl⟩
    rw [HA.out, ← e]
  · have HA : Hid (aroundD n most = n % most) := Lib.hid (by unfold aroundD; rw [if_neg hn])
    go_enter Tryd.func5, Tryd.ntmps5
    go_wp2
    go_ret
    exact ⟨ret_intD (by rw [HA.out]), rfl⟩
/-- the program's year of a day -/
theorem yearOf_any (n : Int) (w : World) (h0 : 0 ≤ n) (h1 : n ≤ 3652058) : Calls Tryd.prog 23 #[.int .i64 n] w fun e w' => e = .returned (.int .i64 (yearN n)) ∧ w = w' := by
  obtain ⟨p, hp⟩ : ∃ p, p = n * 400 / 146097 := ⟨_, rfl⟩
  have hp0 : 0 ≤ p ∧ p ≤ 10000 := by omega
  have HY : Hid (yearN n = if newY (1 + p + 1) ≤ n then 1 + p + 1 else 1 + p) := Lib.hid (by unfold yearN; rw [hp])
  have hw1 : IntKind.i64.wrap (n * 400) = n * 400 := i64_id _ (by omega) (by omega)
  have hw2 : (n * 400).tdiv 146097 = p := by rw [hp, Int.tdiv_eq_ediv_of_nonneg (by omega)]
  have hw2' : (n * 400) / 146097 = p := hp.symm
  have hw3 : IntKind.i64.wrap (1 + p) = 1 + p := i64_id _ (by omega) (by omega)
  have hw4 : IntKind.i64.wrap (1 + p + 1) = 1 + p + 1 := i64_id _ (by omega) (by omega)
  have hw5 : IntKind.i64.wrap p = p := i64_id _ (by omega) (by omega)
  have HC := Lib.hid (newYear_any (1 + p + 1) w (by omega) (by omega))
  clear hp
  by_cases hn : newY (1 + p + 1) ≤ n
  · go_enter Tryd.func23, Tryd.ntmps23
    go_wp2_with (go_at_call 24; refine HC.out.mono ?_; rintro e w1 ⟨rfl, rfl⟩)
    go_ret
    exact ⟨ret_intD (by rw [HY.out, if_pos hn]), rfl⟩
  · go_enter Tryd.func23, Tryd.ntmps23
    go_wp2_with (go_at_call 24; refine HC.out.mono ?_; rintro e w1 ⟨rfl, rfl⟩)
    go_ret
    exact ⟨ret_intD (by rw [HY.out, if_neg (by omega)]), rfl⟩
end Go.Proofs.YtcdjilnlmihnhaaDoor

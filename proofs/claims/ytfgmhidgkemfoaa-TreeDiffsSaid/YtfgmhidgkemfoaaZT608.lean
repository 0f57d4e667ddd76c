/-
  Texts OJ, OH, OK, OL, OM, P0, P1, P2, P3, P6, PB, PA, one behind the other.
-/
import Derived.WalkKit
import Derived.WalkSpells
import Derived.WalkLawsBesides
import Derived.Laws.AppendOwn
import Derived.Laws.OwnMore
import Derived.Deep.AppendSrc
import Derived.Deep.MidRow
import Derived.Lib.Hide
import GoSem.Claim
import Derived.Lib.Bytealg
import Derived.Laws.Externs
import Derived.Deep.QuietTactic
import Derived.BigQuiet
import Derived.Deep.CutBlock
import Derived.OwnWalk
import Derived.Deep.DrawnRows
import Derived.Deep.CutRange
import Derived.Deep.LoopGhost
import Derived.Laws.Tables
import Derived.Laws.ResultCell
import Derived.Deep.WholeRow
import Derived.Lib.Strings
import Derived.Shelf.Spec.SlicesInsert
import Derived.Lib.AppendZerosOnto
import Derived.Lib.Overlaps
import Derived.Laws.CopyRow
import Derived.Deep.RegionLaw
import Derived.StillTailTactics
import Derived.RangeFuncNested
import Derived.RangeFuncBound
import Derived.RangeFuncCalls
import Derived.RangeFuncLeaves
import Derived.Shelf.Abstract
import Derived.Shelf.RegionOpen
import Derived.OwnWalkIn
import Derived.TacticsInMore
import Derived.LoopNIn
import Derived.LoopIn
import Derived.RangeFuncBox
import Derived.Orders
import Derived.Tactics
import Derived.Sort.CutIn
import Derived.Sort.AtCall
import Derived.ProofKit
import Derived.OpenShut
import Derived.Carry
import Derived.Deep.Slices
import Derived.Deep.Fields
import Derived.JoinedCond
import Derived.ChangeMaps5
import Derived.Test.YtfgmhidgkemfoaaRows
import Derived.Test.YtfgmhidgkemfoaaProg
import Derived.Test.YtfgmhidgkemfoaaChecked
import Derived.Test.YtfgmhidgkemfoaaZT607
namespace Go.Proofs.Ytfgmhidgkemfoaa
open Go.RowKit
set_option linter.unusedSimpArgs false
set_option linter.unusedVariables false
theorem ret_intT {k : IntKind} {a b : Int} (h : a = b) : Ending.returned (.int k a) = .returned (.int k b) := by rw [h]
def aroundT (n most : Int) : Int := if n < 0 then -(n + 1) % most else n % most
theorem aroundT_bd (n most : Int) (h : 0 < most) : 0 ≤ aroundT n most ∧ aroundT n most < most := by
 unfold aroundT
 split
 ·exact ⟨Int.emod_nonneg _ (by omega), Int.emod_lt_of_pos _ h⟩
 ·exact ⟨Int.emod_nonneg _ (by omega), Int.emod_lt_of_pos _ h⟩
theorem aroundT_any (n most : Int) (w : World) (h1 : -9223372036854775808 ≤ n) (h2 : n ≤ 9223372036854775807) (h3 : 0 < most) (h4 : most ≤ 9223372036854775807) :
  Calls Try.prog 16 #[.int .i64 n, .int .i64 most] w fun e w' => e = .returned (.int .i64 (aroundT n most)) ∧ w = w' := by
 by_cases hn : n < 0
 ·have hw1 : IntKind.i64.wrap (n + 1) = n + 1 := i64_id _ (by omega) (by omega)
  have hw2 : IntKind.i64.wrap (-(n + 1)) = -(n + 1) := i64_id _ (by omega) (by omega)
  have HA : Hid (aroundT n most = -(n + 1) % most) := Lib.hid (by unfold aroundT; rw [if_pos hn])
  go_enter Try.func16, Try.ntmps16
  go_wp2
  go_ret
  have e : -(n + 1).tmod most = -(n + 1) % most := by rw [← Int.neg_tmod, Int.tmod_eq_emod_of_nonneg (by omega)]
  refine ⟨ret_intT ?_, rfl⟩
  rw [HA.out, ← e]
 ·have HA : Hid (aroundT n most = n % most) := Lib.hid (by unfold aroundT; rw [if_neg hn])
  go_enter Try.func16, Try.ntmps16
  go_wp2
  go_ret
  exact ⟨ret_intT (by rw [HA.out]), rfl⟩
def dig (n : Nat) : ByteArray := ⟨#[UInt8.ofNat (48 + n)]⟩
theorem dig_ext (n : Nat) (hn : n ≤ 9) : (⟨#[48, 49, 50, 51, 52, 53, 54, 55, 56, 57]⟩ : ByteArray).extract n (n + 1) ++ ⟨#[]⟩ = dig n := by
 have : n = 0 ∨ n = 1 ∨ n = 2 ∨ n = 3 ∨ n = 4 ∨ n = 5 ∨ n = 6 ∨ n = 7 ∨ n = 8 ∨ n = 9 := by omega
 rcases this with rfl | rfl | rfl | rfl | rfl | rfl | rfl | rfl | rfl | rfl <;> rfl
set_option maxRecDepth 100000 in
set_option maxHeartbeats 1000000 in
theorem decimal_any (n : Nat) (hn : n ≤ 9) (w : World) : Calls Try.prog 45 #[.int .i64 (n : Int)] w fun e w' => e = .returned (.string (dig n)) ∧ w = w' := by
 by_cases h0 : n = 0
 ·subst h0
  go_enter Try.func45, Try.ntmps45
  go_wp2
  go_ret
  exact ⟨rfl, rfl⟩
 ·have h1 : ¬ (n : Int) = 0 := by omega
  have h2 : (n : Int) % 10 = (n : Int) := by omega
  have h3 : ¬ (n : Int) < 0 := by omega
  have h4 : (n : Int) / 10 = 0 := by omega
  have h5 : (n : Int) + 1 ≤ 10 := by omega
  have HD := Lib.hid (dig_ext n hn)
  go_enter Try.func45, Try.ntmps45
  go_wp2
  go_loopw [4, 5] (fun s u wr => wr = w ∧ ((u = .int .i64 (n : Int) ∧ s = .string ⟨#[]⟩) ∨ (u = .int .i64 0 ∧ s = .string (dig n)))) (fun _ u _ => (intOf u).toNat)
  case atStart => exact ⟨rfl, .inl ⟨rfl, rfl⟩⟩
  case round =>
   obtain ⟨rfl, ⟨rfl, rfl⟩ | ⟨rfl, rfl⟩⟩ := hrel
   ·go_wp2
    refine ⟨⟨trivial, .inr ⟨rfl, ?_⟩⟩, ?_⟩
    ·rw [HD.out]
    ·simp only [intOf]; omega
   ·go_wp2
    go_ret
    exact ⟨rfl, rfl⟩
def letters : ByteArray := ⟨#[97, 98, 99, 100, 101, 102, 103, 104, 105, 106, 107, 108, 109, 110, 111, 112, 113, 114, 115, 116]⟩
theorem let_ext (n : Nat) (hn : n < 20) : letters.extract n (n + 1) = ⟨#[UInt8.ofNat (97 + n)]⟩ := by
 have : n = 0 ∨ n = 1 ∨ n = 2 ∨ n = 3 ∨ n = 4 ∨ n = 5 ∨ n = 6 ∨ n = 7 ∨ n = 8 ∨ n = 9 ∨ n = 10 ∨ n = 11 ∨ n = 12 ∨ n = 13 ∨ n = 14 ∨ n = 15 ∨ n = 16 ∨ n = 17 ∨ n = 18 ∨ n = 19 := by omega
 rcases this with rfl | rfl | rfl | rfl | rfl | rfl | rfl | rfl | rfl | rfl | rfl | rfl | rfl | rfl | rfl | rfl | rfl | rfl | rfl | rfl <;> rfl
def keyB (k : Nat) : ByteArray := ⟨#[UInt8.ofNat (97 + k % 20), UInt8.ofNat (97 + k / 20 % 20), UInt8.ofNat (48 + k / 400)]⟩
theorem keyB_size (k : Nat) : (keyB k).size = 3 := rfl
theorem keyB_ext (k : Nat) (hk : k < 4000) : letters.extract (k % 20) (k % 20 + 1) ++ letters.extract (k / 20 % 20) (k / 20 % 20 + 1) ++ dig (k / 400) = keyB k := by
 rw [let_ext _ (by omega), let_ext _ (by omega)]
 rfl
def Dke3 : List (Option Tmp) := [some 7, some 8, some 9, some 10, some 11, some 12, some 13, some 14, some 15, some 16, some 17, some 18, some 19, some 20, some 21, some 22, some 23, some 24, some 25, some 26, some 27, some 2]
def Lke3 : List (List Nat) := [[], [], [1], [], [3], [4], [0, 2, 5], [], [], [8], [9], [], [11], [12], [13], [7, 10, 14], [6, 15], [], [17], [18], [16, 19], [20]]
set_option maxRecDepth 100000 in
set_option maxHeartbeats 2000000 in
theorem key_any (n : Int) (h1 : -9223372036854775808 ≤ n) (h2 : n ≤ 9223372036854775807) (w : World) : Calls Try.prog 15 #[.int .i64 n] w fun e w' => e = .returned (.string (keyB (aroundT n 4000).toNat)) ∧ Below w.heap.size w w' := by
 have HA := Lib.hid (aroundT_any n 4000 w h1 h2 (by omega) (by omega))
 have hbd := aroundT_bd n 4000 (by omega)
 obtain ⟨k, hk⟩ : ∃ k : Nat, aroundT n 4000 = (k : Int) := ⟨(aroundT n 4000).toNat, by omega⟩
 rw [hk] at HA hbd
 have ek : (aroundT n 4000).toNat = k := by rw [hk]; rfl
 rw [ek]
 have hk4 : k < 4000 := by omega
 clear hk ek h1 h2 hbd
 obtain ⟨a, ha⟩ : ∃ a, a = k % 20 := ⟨_, rfl⟩
 obtain ⟨d, hd⟩ : ∃ d, d = k / 20 := ⟨_, rfl⟩
 obtain ⟨b, hb⟩ : ∃ b, b = d % 20 := ⟨_, rfl⟩
 obtain ⟨c, hc⟩ : ∃ c, c = k / 400 := ⟨_, rfl⟩
 have FKEY : Hid (letters.extract a (a + 1) ++ letters.extract b (b + 1) ++ dig c = keyB k) := Lib.hid (by rw [ha, hb, hd, hc]; exact keyB_ext k hk4)
 have FA : Hid ((k : Int).tmod 20 = (a : Int)) := Lib.hid (by rw [Int.tmod_eq_emod_of_nonneg (by omega)]; omega)
 have FA1 : Hid ((a : Int) + 1 ≤ 20) := Lib.hid (by omega)
 have FD : Hid ((k : Int).tdiv 20 = (d : Int)) := Lib.hid (by rw [Int.tdiv_eq_ediv_of_nonneg (by omega)]; omega)
 have FB : Hid ((d : Int).tmod 20 = (b : Int)) := Lib.hid (by rw [Int.tmod_eq_emod_of_nonneg (by omega)]; omega)
 have FB1 : Hid ((b : Int) + 1 ≤ 20) := Lib.hid (by omega)
 have FC : Hid ((k : Int).tdiv 400 = (c : Int)) := Lib.hid (by rw [Int.tdiv_eq_ediv_of_nonneg (by omega)]; omega)
 have FC9 : Hid (c ≤ 9) := Lib.hid (by omega)
 have FA2 : Hid (IntKind.i64.wrap ((a : Int) + 1) = (a : Int) + 1) := Lib.hid (i64_id _ (by omega) (by omega))
 have FB2 : Hid (IntKind.i64.wrap ((b : Int) + 1) = (b : Int) + 1) := Lib.hid (i64_id _ (by omega) (by omega))
 have FDW : Hid (IntKind.i64.wrap (d : Int) = (d : Int)) := Lib.hid (i64_id _ (by omega) (by omega))
 have FCW : Hid (IntKind.i64.wrap (c : Int) = (c : Int)) := Lib.hid (i64_id _ (by omega) (by omega))
 have FL : Hid (letters.size = 20) := Lib.hid rfl
 clear ha hd hb hc hk4
 go_enter Try.func15, Try.ntmps15
 go_upto_region 3 with (go_at_call 16; refine HA.out.mono ?_; rintro e w' ⟨rfl, rfl⟩)
 refine Roll.region_f 21 28 Dke3 Lke3 [(3, .int .i64 (k : Int)), (4, .string letters)] (fun p => p = w.drew) (fun p p2 => p = p2) [fun vv p => vv = .string letters, fun vv p => vv = .int .i64 (k : Int), fun vv p => vv = .int .i64 (a : Int), fun vv p => vv = .int .i64 (k : Int), fun vv p => vv = .int .i64 (a : Int), fun vv p => vv = .int .i64 ((a : Int) + 1), fun vv p => vv = .string (letters.extract a (a + 1)), fun vv p => vv = .string letters, fun vv p => vv = .int .i64 (k : Int), fun vv p => vv = .int .i64 (d : Int), fun vv p => vv = .int .i64 (b : Int), fun vv p => vv = .int .i64 (k : Int), fun vv p => vv = .int .i64 (d : Int), fun vv p => vv = .int .i64 (b : Int), fun vv p => vv = .int .i64 ((b : Int) + 1), fun vv p => vv = .string (letters.extract b (b + 1)), fun vv p => vv = .string (letters.extract a (a + 1) ++ letters.extract b (b + 1)), fun vv p => vv = .int .i64 (k : Int), fun vv p => vv = .int .i64 (c : Int), fun vv p => vv = .string (dig c), fun vv p => vv = .string (letters.extract a (a + 1) ++ letters.extract b (b + 1) ++ dig c)] (by kernel_rfl) (by kernel_rfl) rfl ⟨rfl, rfl, trivial⟩ (rfl) ?_ ?_ ?_
 ·exact ⟨fun _ _ _ _ h => h, fun _ _ _ _ h => h, fun _ _ _ _ h => h, fun _ _ _ _ h => h, fun _ _ _ _ h => h, fun _ _ _ _ h => h, fun _ _ _ _ h => h, fun _ _ _ _ h => h, fun _ _ _ _ h => h, fun _ _ _ _ h => h, fun _ _ _ _ h => h, fun _ _ _ _ h => h, fun _ _ _ _ h => h, fun _ _ _ _ h => h, fun _ _ _ _ h => h, fun _ _ _ _ h => h, fun _ _ _ _ h => h, fun _ _ _ _ h => h, fun _ _ _ _ h => h, fun _ _ _ _ h => h, fun _ _ _ _ h => h, trivial⟩
 ·intro b0 hN hlv
  refine ⟨?_, ?_, ?_, ?_, ?_, ?_, ?_, ?_, ?_, ?_, ?_, ?_, ?_, ?_, ?_, ?_, ?_, ?_, ?_, ?_, ?_, trivial⟩
  ·intro vs p hI hp
   have e4 : (Roll.putD Dke3 vs [] b0).eval (.tmp 4) = .string letters := (Roll.eval_old rfl).trans (hlv.at 1 (4, .string letters) rfl)
   clear hp hlv hN
   unfold Roll.Goes
   simp only [Lke3, List.getD_cons_zero, List.getD_cons_succ]
   generalize Roll.putD Dke3 vs [] b0 = a1 at *
   refine Roll.goes_val (w' := p) (.string letters) rfl ?_ ⟨hI, rfl, rfl⟩
   (have ec : ∀ x, a1.eval (.const x) = x := fun _ => rfl); (have ef : ∀ x, a1.eval (.func x) = .func (.func x) #[] #[] := fun _ => rfl); generalize a1.eval = ρ at *
   skip
   go_simp <;> (intros; first | (exfalso; omega) | rfl | omega)
  ·intro vs p hI hp
   have e3 : (Roll.putD Dke3 vs [] b0).eval (.tmp 3) = .int .i64 (k : Int) := (Roll.eval_old rfl).trans (hlv.at 0 (3, .int .i64 (k : Int)) rfl)
   clear hp hlv hN
   unfold Roll.Goes
   simp only [Lke3, List.getD_cons_zero, List.getD_cons_succ]
   generalize Roll.putD Dke3 vs [] b0 = a1 at *
   refine Roll.goes_val (w' := p) (.int .i64 (k : Int)) rfl ?_ ⟨hI, rfl, rfl⟩
   (have ec : ∀ x, a1.eval (.const x) = x := fun _ => rfl); (have ef : ∀ x, a1.eval (.func x) = .func (.func x) #[] #[] := fun _ => rfl); generalize a1.eval = ρ at *
   skip
   go_simp <;> (intros; first | (exfalso; omega) | rfl | omega)
  ·intro vs p hI hp
   have h1 : (vs 1) = .int .i64 (k : Int) := hp 1 (by simp [Lke3])
   have e8 : (Roll.putD Dke3 vs [1] b0).eval (.tmp 8) = .int .i64 (k : Int) := (Roll.eval_new 1 rfl (by decide) (by decide) (by omega)).trans h1
   clear hp hlv hN
   unfold Roll.Goes
   simp only [Lke3, List.getD_cons_zero, List.getD_cons_succ]
   generalize Roll.putD Dke3 vs [1] b0 = a1 at *
   have f0 := FA.out
   refine Roll.goes_val (w' := p) (.int .i64 (a : Int)) rfl ?_ ⟨hI, rfl, rfl⟩
   (have ec : ∀ x, a1.eval (.const x) = x := fun _ => rfl); (have ef : ∀ x, a1.eval (.func x) = .func (.func x) #[] #[] := fun _ => rfl); generalize a1.eval = ρ at *
   clear h1
   go_simp <;> (intros; first | (exfalso; omega) | rfl | omega)
  ·intro vs p hI hp
   have e3 : (Roll.putD Dke3 vs [] b0).eval (.tmp 3) = .int .i64 (k : Int) := (Roll.eval_old rfl).trans (hlv.at 0 (3, .int .i64 (k : Int)) rfl)
   clear hp hlv hN
   unfold Roll.Goes
   simp only [Lke3, List.getD_cons_zero, List.getD_cons_succ]
   generalize Roll.putD Dke3 vs [] b0 = a1 at *
   refine Roll.goes_val (w' := p) (.int .i64 (k : Int)) rfl ?_ ⟨hI, rfl, rfl⟩
   (have ec : ∀ x, a1.eval (.const x) = x := fun _ => rfl); (have ef : ∀ x, a1.eval (.func x) = .func (.func x) #[] #[] := fun _ => rfl); generalize a1.eval = ρ at *
   skip
   go_simp <;> (intros; first | (exfalso; omega) | rfl | omega)
  ·intro vs p hI hp
   have h3 : (vs 3) = .int .i64 (k : Int) := hp 3 (by simp [Lke3])
   have e10 : (Roll.putD Dke3 vs [3] b0).eval (.tmp 10) = .int .i64 (k : Int) := (Roll.eval_new 3 rfl (by decide) (by decide) (by omega)).trans h3
   clear hp hlv hN
   unfold Roll.Goes
   simp only [Lke3, List.getD_cons_zero, List.getD_cons_succ]
   generalize Roll.putD Dke3 vs [3] b0 = a1 at *
   have f0 := FA.out
   refine Roll.goes_val (w' := p) (.int .i64 (a : Int)) rfl ?_ ⟨hI, rfl, rfl⟩
   (have ec : ∀ x, a1.eval (.const x) = x := fun _ => rfl); (have ef : ∀ x, a1.eval (.func x) = .func (.func x) #[] #[] := fun _ => rfl); generalize a1.eval = ρ at *
   clear h3
   go_simp <;> (intros; first | (exfalso; omega) | rfl | omega)
  ·intro vs p hI hp
   have h4 : (vs 4) = .int .i64 (a : Int) := hp 4 (by simp [Lke3])
   have e11 : (Roll.putD Dke3 vs [4] b0).eval (.tmp 11) = .int .i64 (a : Int) := (Roll.eval_new 4 rfl (by decide) (by decide) (by omega)).trans h4
   clear hp hlv hN
   unfold Roll.Goes
   simp only [Lke3, List.getD_cons_zero, List.getD_cons_succ]
   generalize Roll.putD Dke3 vs [4] b0 = a1 at *
   have f0 := FA2.out
   refine Roll.goes_val (w' := p) (.int .i64 ((a : Int) + 1)) rfl ?_ ⟨hI, rfl, rfl⟩
   (have ec : ∀ x, a1.eval (.const x) = x := fun _ => rfl); (have ef : ∀ x, a1.eval (.func x) = .func (.func x) #[] #[] := fun _ => rfl); generalize a1.eval = ρ at *
   clear h4
   go_simp <;> (intros; first | (exfalso; omega) | rfl | omega)
  ·intro vs p hI hp
   have h0 : (vs 0) = .string letters := hp 0 (by simp [Lke3])
   have h2 : (vs 2) = .int .i64 (a : Int) := hp 2 (by simp [Lke3])
   have h5 : (vs 5) = .int .i64 ((a : Int) + 1) := hp 5 (by simp [Lke3])
   have e7 : (Roll.putD Dke3 vs [0, 2, 5] b0).eval (.tmp 7) = .string letters := (Roll.eval_new 0 rfl (by decide) (by decide) (by omega)).trans h0
   have e9 : (Roll.putD Dke3 vs [0, 2, 5] b0).eval (.tmp 9) = .int .i64 (a : Int) := (Roll.eval_new 2 rfl (by decide) (by decide) (by omega)).trans h2
   have e12 : (Roll.putD Dke3 vs [0, 2, 5] b0).eval (.tmp 12) = .int .i64 ((a : Int) + 1) := (Roll.eval_new 5 rfl (by decide) (by decide) (by omega)).trans h5
   clear hp hlv hN
   unfold Roll.Goes
   simp only [Lke3, List.getD_cons_zero, List.getD_cons_succ]
   generalize Roll.putD Dke3 vs [0, 2, 5] b0 = a1 at *
   have f0 := FA1.out
   have f1 := FL.out
   refine Roll.goes_val (w' := p) (.string (letters.extract a (a + 1))) rfl ?_ ⟨hI, rfl, rfl⟩
   (have ec : ∀ x, a1.eval (.const x) = x := fun _ => rfl); (have ef : ∀ x, a1.eval (.func x) = .func (.func x) #[] #[] := fun _ => rfl); generalize a1.eval = ρ at *
   clear h0 h2 h5
   (go_simp; rw [if_pos (by omega), if_pos (by omega)])
  ·intro vs p hI hp
   have e4 : (Roll.putD Dke3 vs [] b0).eval (.tmp 4) = .string letters := (Roll.eval_old rfl).trans (hlv.at 1 (4, .string letters) rfl)
   clear hp hlv hN
   unfold Roll.Goes
   simp only [Lke3, List.getD_cons_zero, List.getD_cons_succ]
   generalize Roll.putD Dke3 vs [] b0 = a1 at *
   refine Roll.goes_val (w' := p) (.string letters) rfl ?_ ⟨hI, rfl, rfl⟩
   (have ec : ∀ x, a1.eval (.const x) = x := fun _ => rfl); (have ef : ∀ x, a1.eval (.func x) = .func (.func x) #[] #[] := fun _ => rfl); generalize a1.eval = ρ at *
   skip
   go_simp <;> (intros; first | (exfalso; omega) | rfl | omega)
  ·intro vs p hI hp
   have e3 : (Roll.putD Dke3 vs [] b0).eval (.tmp 3) = .int .i64 (k : Int) := (Roll.eval_old rfl).trans (hlv.at 0 (3, .int .i64 (k : Int)) rfl)
   clear hp hlv hN
   unfold Roll.Goes
   simp only [Lke3, List.getD_cons_zero, List.getD_cons_succ]
   generalize Roll.putD Dke3 vs [] b0 = a1 at *
   refine Roll.goes_val (w' := p) (.int .i64 (k : Int)) rfl ?_ ⟨hI, rfl, rfl⟩
   (have ec : ∀ x, a1.eval (.const x) = x := fun _ => rfl); (have ef : ∀ x, a1.eval (.func x) = .func (.func x) #[] #[] := fun _ => rfl); generalize a1.eval = ρ at *
   skip
   go_simp <;> (intros; first | (exfalso; omega) | rfl | omega)
  ·intro vs p hI hp
   have h8 : (vs 8) = .int .i64 (k : Int) := hp 8 (by simp [Lke3])
   have e15 : (Roll.putD Dke3 vs [8] b0).eval (.tmp 15) = .int .i64 (k : Int) := (Roll.eval_new 8 rfl (by decide) (by decide) (by omega)).trans h8
   clear hp hlv hN
   unfold Roll.Goes
   simp only [Lke3, List.getD_cons_zero, List.getD_cons_succ]
   generalize Roll.putD Dke3 vs [8] b0 = a1 at *
   have f0 := FD.out
   have f1 := FDW.out
   refine Roll.goes_val (w' := p) (.int .i64 (d : Int)) rfl ?_ ⟨hI, rfl, rfl⟩
   (have ec : ∀ x, a1.eval (.const x) = x := fun _ => rfl); (have ef : ∀ x, a1.eval (.func x) = .func (.func x) #[] #[] := fun _ => rfl); generalize a1.eval = ρ at *
   clear h8
   go_simp <;> (intros; first | (exfalso; omega) | rfl | omega)
  ·intro vs p hI hp
   have h9 : (vs 9) = .int .i64 (d : Int) := hp 9 (by simp [Lke3])
   have e16 : (Roll.putD Dke3 vs [9] b0).eval (.tmp 16) = .int .i64 (d : Int) := (Roll.eval_new 9 rfl (by decide) (by decide) (by omega)).trans h9
   clear hp hlv hN
   unfold Roll.Goes
   simp only [Lke3, List.getD_cons_zero, List.getD_cons_succ]
   generalize Roll.putD Dke3 vs [9] b0 = a1 at *
   have f0 := FB.out
   refine Roll.goes_val (w' := p) (.int .i64 (b : Int)) rfl ?_ ⟨hI, rfl, rfl⟩
   (have ec : ∀ x, a1.eval (.const x) = x := fun _ => rfl); (have ef : ∀ x, a1.eval (.func x) = .func (.func x) #[] #[] := fun _ => rfl); generalize a1.eval = ρ at *
   clear h9
   go_simp <;> (intros; first | (exfalso; omega) | rfl | omega)
  ·intro vs p hI hp
   have e3 : (Roll.putD Dke3 vs [] b0).eval (.tmp 3) = .int .i64 (k : Int) := (Roll.eval_old rfl).trans (hlv.at 0 (3, .int .i64 (k : Int)) rfl)
   clear hp hlv hN
   unfold Roll.Goes
   simp only [Lke3, List.getD_cons_zero, List.getD_cons_succ]
   generalize Roll.putD Dke3 vs [] b0 = a1 at *
   refine Roll.goes_val (w' := p) (.int .i64 (k : Int)) rfl ?_ ⟨hI, rfl, rfl⟩
   (have ec : ∀ x, a1.eval (.const x) = x := fun _ => rfl); (have ef : ∀ x, a1.eval (.func x) = .func (.func x) #[] #[] := fun _ => rfl); generalize a1.eval = ρ at *
   skip
   go_simp <;> (intros; first | (exfalso; omega) | rfl | omega)
  ·intro vs p hI hp
   have h11 : (vs 11) = .int .i64 (k : Int) := hp 11 (by simp [Lke3])
   have e18 : (Roll.putD Dke3 vs [11] b0).eval (.tmp 18) = .int .i64 (k : Int) := (Roll.eval_new 11 rfl (by decide) (by decide) (by omega)).trans h11
   clear hp hlv hN
   unfold Roll.Goes
   simp only [Lke3, List.getD_cons_zero, List.getD_cons_succ]
   generalize Roll.putD Dke3 vs [11] b0 = a1 at *
   have f0 := FD.out
   have f1 := FDW.out
   refine Roll.goes_val (w' := p) (.int .i64 (d : Int)) rfl ?_ ⟨hI, rfl, rfl⟩
   (have ec : ∀ x, a1.eval (.const x) = x := fun _ => rfl); (have ef : ∀ x, a1.eval (.func x) = .func (.func x) #[] #[] := fun _ => rfl); generalize a1.eval = ρ at *
   clear h11
   go_simp <;> (intros; first | (exfalso; omega) | rfl | omega)
  ·intro vs p hI hp
   have h12 : (vs 12) = .int .i64 (d : Int) := hp 12 (by simp [Lke3])
   have e19 : (Roll.putD Dke3 vs [12] b0).eval (.tmp 19) = .int .i64 (d : Int) := (Roll.eval_new 12 rfl (by decide) (by decide) (by omega)).trans h12
   clear hp hlv hN
   unfold Roll.Goes
   simp only [Lke3, List.getD_cons_zero, List.getD_cons_succ]
   generalize Roll.putD Dke3 vs [12] b0 = a1 at *
   have f0 := FB.out
   refine Roll.goes_val (w' := p) (.int .i64 (b : Int)) rfl ?_ ⟨hI, rfl, rfl⟩
   (have ec : ∀ x, a1.eval (.const x) = x := fun _ => rfl); (have ef : ∀ x, a1.eval (.func x) = .func (.func x) #[] #[] := fun _ => rfl); generalize a1.eval = ρ at *
   clear h12
   go_simp <;> (intros; first | (exfalso; omega) | rfl | omega)
  ·intro vs p hI hp
   have h13 : (vs 13) = .int .i64 (b : Int) := hp 13 (by simp [Lke3])
   have e20 : (Roll.putD Dke3 vs [13] b0).eval (.tmp 20) = .int .i64 (b : Int) := (Roll.eval_new 13 rfl (by decide) (by decide) (by omega)).trans h13
   clear hp hlv hN
   unfold Roll.Goes
   simp only [Lke3, List.getD_cons_zero, List.getD_cons_succ]
   generalize Roll.putD Dke3 vs [13] b0 = a1 at *
   have f0 := FB2.out
   refine Roll.goes_val (w' := p) (.int .i64 ((b : Int) + 1)) rfl ?_ ⟨hI, rfl, rfl⟩
   (have ec : ∀ x, a1.eval (.const x) = x := fun _ => rfl); (have ef : ∀ x, a1.eval (.func x) = .func (.func x) #[] #[] := fun _ => rfl); generalize a1.eval = ρ at *
   clear h13
   go_simp <;> (intros; first | (exfalso; omega) | rfl | omega)
  ·intro vs p hI hp
   have h7 : (vs 7) = .string letters := hp 7 (by simp [Lke3])
   have h10 : (vs 10) = .int .i64 (b : Int) := hp 10 (by simp [Lke3])
   have h14 : (vs 14) = .int .i64 ((b : Int) + 1) := hp 14 (by simp [Lke3])
   have e14 : (Roll.putD Dke3 vs [7, 10, 14] b0).eval (.tmp 14) = .string letters := (Roll.eval_new 7 rfl (by decide) (by decide) (by omega)).trans h7
   have e17 : (Roll.putD Dke3 vs [7, 10, 14] b0).eval (.tmp 17) = .int .i64 (b : Int) := (Roll.eval_new 10 rfl (by decide) (by decide) (by omega)).trans h10
   have e21 : (Roll.putD Dke3 vs [7, 10, 14] b0).eval (.tmp 21) = .int .i64 ((b : Int) + 1) := (Roll.eval_new 14 rfl (by decide) (by decide) (by omega)).trans h14
   clear hp hlv hN
   unfold Roll.Goes
   simp only [Lke3, List.getD_cons_zero, List.getD_cons_succ]
   generalize Roll.putD Dke3 vs [7, 10, 14] b0 = a1 at *
   have f0 := FB1.out
   have f1 := FL.out
   refine Roll.goes_val (w' := p) (.string (letters.extract b (b + 1))) rfl ?_ ⟨hI, rfl, rfl⟩
   (have ec : ∀ x, a1.eval (.const x) = x := fun _ => rfl); (have ef : ∀ x, a1.eval (.func x) = .func (.func x) #[] #[] := fun _ => rfl); generalize a1.eval = ρ at *
   clear h7 h10 h14
   (go_simp; rw [if_pos (by omega), if_pos (by omega)])
  ·intro vs p hI hp
   have h6 : (vs 6) = .string (letters.extract a (a + 1)) := hp 6 (by simp [Lke3])
   have h15 : (vs 15) = .string (letters.extract b (b + 1)) := hp 15 (by simp [Lke3])
   have e13 : (Roll.putD Dke3 vs [6, 15] b0).eval (.tmp 13) = .string (letters.extract a (a + 1)) := (Roll.eval_new 6 rfl (by decide) (by decide) (by omega)).trans h6
   have e22 : (Roll.putD Dke3 vs [6, 15] b0).eval (.tmp 22) = .string (letters.extract b (b + 1)) := (Roll.eval_new 15 rfl (by decide) (by decide) (by omega)).trans h15
   clear hp hlv hN
   unfold Roll.Goes
   simp only [Lke3, List.getD_cons_zero, List.getD_cons_succ]
   generalize Roll.putD Dke3 vs [6, 15] b0 = a1 at *
   refine Roll.goes_val (w' := p) (.string (letters.extract a (a + 1) ++ letters.extract b (b + 1))) rfl ?_ ⟨hI, rfl, rfl⟩
   (have ec : ∀ x, a1.eval (.const x) = x := fun _ => rfl); (have ef : ∀ x, a1.eval (.func x) = .func (.func x) #[] #[] := fun _ => rfl); generalize a1.eval = ρ at *
   clear h6 h15
   go_simp <;> (intros; first | (exfalso; omega) | rfl | omega)
  ·intro vs p hI hp
   have e3 : (Roll.putD Dke3 vs [] b0).eval (.tmp 3) = .int .i64 (k : Int) := (Roll.eval_old rfl).trans (hlv.at 0 (3, .int .i64 (k : Int)) rfl)
   clear hp hlv hN
   unfold Roll.Goes
   simp only [Lke3, List.getD_cons_zero, List.getD_cons_succ]
   generalize Roll.putD Dke3 vs [] b0 = a1 at *
   refine Roll.goes_val (w' := p) (.int .i64 (k : Int)) rfl ?_ ⟨hI, rfl, rfl⟩
   (have ec : ∀ x, a1.eval (.const x) = x := fun _ => rfl); (have ef : ∀ x, a1.eval (.func x) = .func (.func x) #[] #[] := fun _ => rfl); generalize a1.eval = ρ at *
   skip
   go_simp <;> (intros; first | (exfalso; omega) | rfl | omega)
  ·intro vs p hI hp
   have h17 : (vs 17) = .int .i64 (k : Int) := hp 17 (by simp [Lke3])
   have e24 : (Roll.putD Dke3 vs [17] b0).eval (.tmp 24) = .int .i64 (k : Int) := (Roll.eval_new 17 rfl (by decide) (by decide) (by omega)).trans h17
   clear hp hlv hN
   unfold Roll.Goes
   simp only [Lke3, List.getD_cons_zero, List.getD_cons_succ]
   generalize Roll.putD Dke3 vs [17] b0 = a1 at *
   have f0 := FC.out
   have f1 := FCW.out
   refine Roll.goes_val (w' := p) (.int .i64 (c : Int)) rfl ?_ ⟨hI, rfl, rfl⟩
   (have ec : ∀ x, a1.eval (.const x) = x := fun _ => rfl); (have ef : ∀ x, a1.eval (.func x) = .func (.func x) #[] #[] := fun _ => rfl); generalize a1.eval = ρ at *
   clear h17
   go_simp <;> (intros; first | (exfalso; omega) | rfl | omega)
  ·intro vs p hI hp
   have h18 : (vs 18) = .int .i64 (c : Int) := hp 18 (by simp [Lke3])
   have e25 : (Roll.putD Dke3 vs [18] b0).eval (.tmp 25) = .int .i64 (c : Int) := (Roll.eval_new 18 rfl (by decide) (by decide) (by omega)).trans h18
   clear hp hlv hN
   unfold Roll.Goes
   simp only [Lke3, List.getD_cons_zero, List.getD_cons_succ]
   generalize Roll.putD Dke3 vs [18] b0 = a1 at *
   refine Roll.goes_call 45 #[.int .i64 (c : Int)] p rfl (by have ec : ∀ x, a1.eval (.const x) = x := fun _ => rfl; have ef : ∀ x, a1.eval (.func x) = .func (.func x) #[] #[] := fun _ => rfl; generalize a1.eval = ρ at *; go_simp) ?_
   refine (decimal_any c FC9.out p).mono ?_
   rintro z p2 ⟨rfl, rfl⟩
   exact ⟨_, rfl, hI, rfl, rfl⟩
  ·intro vs p hI hp
   have h16 : (vs 16) = .string (letters.extract a (a + 1) ++ letters.extract b (b + 1)) := hp 16 (by simp [Lke3])
   have h19 : (vs 19) = .string (dig c) := hp 19 (by simp [Lke3])
   have e23 : (Roll.putD Dke3 vs [16, 19] b0).eval (.tmp 23) = .string (letters.extract a (a + 1) ++ letters.extract b (b + 1)) := (Roll.eval_new 16 rfl (by decide) (by decide) (by omega)).trans h16
   have e26 : (Roll.putD Dke3 vs [16, 19] b0).eval (.tmp 26) = .string (dig c) := (Roll.eval_new 19 rfl (by decide) (by decide) (by omega)).trans h19
   clear hp hlv hN
   unfold Roll.Goes
   simp only [Lke3, List.getD_cons_zero, List.getD_cons_succ]
   generalize Roll.putD Dke3 vs [16, 19] b0 = a1 at *
   refine Roll.goes_val (w' := p) (.string (letters.extract a (a + 1) ++ letters.extract b (b + 1) ++ dig c)) rfl ?_ ⟨hI, rfl, rfl⟩
   (have ec : ∀ x, a1.eval (.const x) = x := fun _ => rfl); (have ef : ∀ x, a1.eval (.func x) = .func (.func x) #[] #[] := fun _ => rfl); generalize a1.eval = ρ at *
   clear h16 h19
   (go_simp; have h := FL.out; have h2 : (dig c).size = 1 := rfl; omega)
 ·intro vs p hI hR
  have h0 : (vs 0) = .string letters := hR 0 (by omega)
  have h1 : (vs 1) = .int .i64 (k : Int) := hR 1 (by omega)
  have h2 : (vs 2) = .int .i64 (a : Int) := hR 2 (by omega)
  have h3 : (vs 3) = .int .i64 (k : Int) := hR 3 (by omega)
  have h4 : (vs 4) = .int .i64 (a : Int) := hR 4 (by omega)
  have h5 : (vs 5) = .int .i64 ((a : Int) + 1) := hR 5 (by omega)
  have h6 : (vs 6) = .string (letters.extract a (a + 1)) := hR 6 (by omega)
  have h7 : (vs 7) = .string letters := hR 7 (by omega)
  have h8 : (vs 8) = .int .i64 (k : Int) := hR 8 (by omega)
  have h9 : (vs 9) = .int .i64 (d : Int) := hR 9 (by omega)
  have h10 : (vs 10) = .int .i64 (b : Int) := hR 10 (by omega)
  have h11 : (vs 11) = .int .i64 (k : Int) := hR 11 (by omega)
  have h12 : (vs 12) = .int .i64 (d : Int) := hR 12 (by omega)
  have h13 : (vs 13) = .int .i64 (b : Int) := hR 13 (by omega)
  have h14 : (vs 14) = .int .i64 ((b : Int) + 1) := hR 14 (by omega)
  have h15 : (vs 15) = .string (letters.extract b (b + 1)) := hR 15 (by omega)
  have h16 : (vs 16) = .string (letters.extract a (a + 1) ++ letters.extract b (b + 1)) := hR 16 (by omega)
  have h17 : (vs 17) = .int .i64 (k : Int) := hR 17 (by omega)
  have h18 : (vs 18) = .int .i64 (c : Int) := hR 18 (by omega)
  have h19 : (vs 19) = .string (dig c) := hR 19 (by omega)
  have h20 : (vs 20) = .string (letters.extract a (a + 1) ++ letters.extract b (b + 1) ++ dig c) := hR 20 (by omega)
  clear hR
  simp only [List.range_succ, List.range_zero, List.nil_append, List.cons_append, Roll.putD, Act.put, List.getD_cons_zero, List.getD_cons_succ, List.setIfInBounds_toArray, List.set_cons_zero, List.set_cons_succ, List.drop_succ_cons, List.drop_zero, Dke3]
  simp only [h0, h1, h2, h3, h4, h5, h6, h7, h8, h9, h10, h11, h12, h13, h14, h15, h16, h17, h18, h19, h20]
  clear h0 h1 h2 h3 h4 h5 h6 h7 h8 h9 h10 h11 h12 h13 h14 h15 h16 h17 h18 h19 h20
  obtain rfl : p = w.drew := hI
  go_wp2_with fail
  go_ret
  rw [FKEY.out]
  exact ⟨rfl, (Below.refl _ w).drew⟩
end Go.Proofs.Ytfgmhidgkemfoaa
namespace Go.Proofs.Ytfgmhidgkemfoaa
open Go.RowKit
set_option linter.unusedSimpArgs false
set_option linter.unusedVariables false
theorem toLs_len1 : ∀ (ps : List KV) (ks : List BT), ks.length = ps.length + 1 → (toLs ps ks).length + 1 = (ks.map fun k => k.toL.length + 1).sum
  | [], [k], _ => by rw [toLs_last]; simp
  | [], k :: k2 :: ks, h => by simp at h
  | [], [], h => by simp at h
  | p :: ps, [], h => by simp at h
  | p :: ps, k :: ks, h => by
    have := toLs_len1 ps ks (by simpa using h)
    rw [toLs_cons, List.map_cons, List.sum_cons, ← this]
    simp only [List.length_append, List.length_cons]
    omega
theorem sum_bounds (f : BT → Nat) (lo hi : Nat) : ∀ ks : List BT, (∀ k ∈ ks, lo ≤ f k ∧ f k ≤ hi) → ks.length * lo ≤ (ks.map f).sum ∧ (ks.map f).sum ≤ ks.length * hi
  | [], _ => by simp
  | k :: ks, h => by
    have h1 := sum_bounds f lo hi ks (fun x hx => h x (List.mem_cons_of_mem _ hx))
    have h2 := h k (List.mem_cons_self ..)
    rw [List.map_cons, List.sum_cons, List.length_cons, Nat.add_mul, Nat.add_mul]
    omega
theorem wf_bounds : ∀ (h : Nat) (T : BT), T.Wf h → (3 ≤ T.ps.length → 4 ^ h ≤ T.toL.length + 1) ∧ T.toL.length + 1 ≤ 9 ^ h ∧ (1 ≤ T.ps.length → 2 * 4 ^ (h - 1) ≤ T.toL.length + 1)
  | 0, _, hw => hw.elim
  | h + 1, T, hw => by
    obtain ⟨h8, ⟨rfl, hk⟩ | ⟨h0, hl, hall⟩⟩ := hw
    · have e : T.toL.length = T.ps.length := by rw [toL_eq, hk, toLs_leaf]
      rw [e]
      refine ⟨fun h3 => ?_, ?_, fun h1 => ?_⟩
      · simp; omega
      · simp; omega
      · simp; omega
    · have e : T.toL.length + 1 = (T.ks.map fun k => k.toL.length + 1).sum := by rw [toL_eq]; exact toLs_len1 _ _ hl
      have hs := sum_bounds (fun k => k.toL.length + 1) (4 ^ h) (9 ^ h) T.ks (fun k hk => by
        obtain ⟨h1, h2⟩ := hall k hk
        have h3 := wf_bounds h k h1
        exact ⟨h3.1 h2, h3.2.1⟩)
      rw [← e, hl] at hs
      refine ⟨fun h3 => Nat.le_trans ?_ hs.1, Nat.le_trans hs.2 ?_, fun h1 => Nat.le_trans ?_ hs.1⟩
      · rw [Nat.pow_succ, Nat.mul_comm]; exact Nat.mul_le_mul_right _ (by omega)
      · rw [Nat.pow_succ, Nat.mul_comm]; exact Nat.mul_le_mul_left _ (by omega)
      · rw [Nat.add_sub_cancel]; exact Nat.mul_le_mul_right _ (by omega)
theorem tok_bounds {t : Option BT} {H : Nat} (h : TOk t H) (h0 : H ≠ 0) : 2 * 4 ^ (H - 1) ≤ (treeL t).length + 1 ∧ (treeL t).length + 1 ≤ 9 ^ H := by
  cases t with
  | none => exact (h0 h).elim
  | some T =>
    have := wf_bounds H T h.1
    exact ⟨this.2.2 h.2, this.2.1⟩
theorem tok_zero {t : Option BT} {H : Nat} (h : TOk t H) : H = 0 ↔ treeL t = [] := by
  cases t with
  | none => exact ⟨fun _ => rfl, fun _ => h⟩
  | some T =>
    have h1 : H ≠ 0 := fun e => by have := h.1; rw [e] at this; exact this
    refine ⟨fun e => (h1 e).elim, fun e => ?_⟩
    have := (tok_bounds (t := some T) h h1).1
    rw [e] at this
    have h4 : 0 < 4 ^ (H - 1) := Nat.pow_pos (by decide)
    simp at this
    omega
theorem pow4_le (a b : Nat) (h : a ≤ b) : 4 ^ a ≤ 4 ^ b := Nat.pow_le_pow_right (by decide) h
theorem tok_high {t : Option BT} {H : Nat} (h : TOk t H) (k : Nat) (hl : (treeL t).length + 1 < 2 * 4 ^ k) : H ≤ k := by
 by_cases h0 : H = 0
 ·omega
 ·by_cases hk : H ≤ k
  ·exact hk
  ·have h1 := (tok_bounds h h0).1
   have h2 := pow4_le k (H - 1) (by omega)
   omega
end Go.Proofs.Ytfgmhidgkemfoaa
namespace Go.Proofs.Ytfgmhidgkemfoaa
open Go.RowKit
set_option linter.unusedSimpArgs false
set_option linter.unusedVariables false
def xB : ByteArray := ⟨#[120]⟩
structure TP (B : Nat) (w : World) (g : Nat) (t : Option BT) (H : Nat) (a : Option Addr) (n c : Nat) : Prop where
 tt : TT w g t H
 pp : Ps (fun b => B ≤ b) w a n c (treeL t)
theorem TP.below {B : Nat} {w w' : World} {g : Nat} {t : Option BT} {H : Nat} {a : Option Addr} {n c : Nat} (h : TP B w g t H a n c) (hb : Below w.heap.size w w') : TP B w' g t H a n c := ⟨h.tt.under hb, h.pp.below hb⟩
theorem Ps.nil (D : Nat → Prop) (w : World) : Ps D w none 0 0 [] := ⟨rfl, rfl, Nat.le_refl _, by decide, fun _ => rfl, fun h => absurd h (by omega)⟩
def Many (w : World) (n : Nat) (e : Ending) (W' : World) : Prop := ∃ g t H a m c, e = .returned (.tuple #[.pointer (some ⟨g, 0, none⟩), .slice a m c, .bool true]) ∧ TP w.heap.size W' g t H a m c ∧ (treeL t).length ≤ n ∧ Below w.heap.size w W'
set_option maxRecDepth 100000 in
set_option maxHeartbeats 4000000 in
theorem many_any (n step : Nat) (thin : Bool) (hn : n ≤ 1000) (hs : step ≤ 4000) (w : World) : Calls Try.prog 20 #[.int .i64 (n : Int), .int .i64 (step : Int), .bool thin] w (Many w n) := by
  have HKEY : Hid (∀ (q : Nat) (u : World), q < 4000 → Calls Try.prog 15 #[.int .i64 (q : Int)] u fun e w' => ∃ kb : ByteArray, e = .returned (.string kb) ∧ kb.size = 3 ∧ Below u.heap.size u w') := Lib.hid (fun q u hq => (key_any (q : Int) (by omega) (by omega) u).mono (fun e w' h => ⟨_, h.1, keyB_size _, h.2⟩))
  have HMUL : Hid (∀ i : Nat, i < n → ∃ M q : Nat, (i : Int) * (step : Int) = (M : Int) ∧ IntKind.i64.wrap (M : Int) = (M : Int) ∧ (M : Int).tmod 3989 = (q : Int) ∧ (M : Int) % 3989 = (q : Int) ∧ q < 4000) := Lib.hid (fun i hi => by
    have hM : i * step ≤ 1000 * 4000 := Nat.mul_le_mul (by omega) hs
    refine ⟨i * step, i * step % 3989, by push_cast; rfl, i64_id _ (by omega) (by omega), ?_, by omega, by omega⟩
    rw [Int.tmod_eq_emod_of_nonneg (by omega)]
    omega)
  clear hs
  go_enter Try.func20, Try.ntmps20
  go_wp2_with (go_at_call 12; refine (new_any _).mono ?_; rintro e w1 ⟨g0, rfl, ht0, hg0, hb0⟩; have HT0 := Lib.hid ht0; have HB0 := Lib.hid hb0; clear ht0 hb0 hg0)
  go_loopw [9, 10, 11] (fun u v x wr => ∃ (i g : Nat) (t : Option BT) (H : Nat) (a : Option Addr) (m c : Nat), u = .pointer (some ⟨g, 0, none⟩) ∧ v = .slice a m c ∧ x = .int .i64 (i : Int) ∧ i ≤ n ∧ TP w.heap.size wr g t H a m c ∧ (treeL t).length ≤ i ∧ Below w.heap.size w wr) (fun _ _ x _ => n - (intOf x).toNat)
  case atStart => exact ⟨0, g0, none, 0, none, 0, 0, rfl, rfl, rfl, Nat.zero_le _, ⟨HT0.out, Ps.nil _ _⟩, Nat.le_refl _, HB0.out⟩
  case round =>
    obtain ⟨i, g, t, H, a, m, c, rfl, rfl, rfl, hi, htp, hlen, hb⟩ := hrel
    have HTP := Lib.hid htp
    have HLEN := Lib.hid hlen
    have HB := Lib.hid hb
    clear htp hlen hb
    by_cases hlt : i < n
    · have hlt2 : (i : Int) < (n : Int) := by omega
      obtain ⟨M, q, hm1, hm2, hm3, hm4, hq⟩ := HMUL.out i hlt
      have HQ := Lib.hid hq
      have HLT := Lib.hid hlt
      clear hq hlt
      go_wp2_with (first
        | (go_at_call 15; refine (HKEY.out q _ HQ.out).mono ?_; rintro e w2 ⟨kb, rfl, hks, hb2⟩; have HB2 := Lib.hid hb2; have HKS := Lib.hid hks; have HTP2 := Lib.hid (HTP.out.below hb2); clear hb2 hks)
        | (go_at_call 25; refine (put_tree HTP2.out.tt (by have := HLEN.out; omega) kb xB (by rw [HKS.out]; decide) (by decide)).mono ?_; rintro e w3 ⟨g3, t3, H3, rfl, ht3, hl3, -, -, hb3⟩; have HT3 := Lib.hid ht3; have HL3 := Lib.hid hl3; have HB3 := Lib.hid hb3; clear ht3 hl3 hb3)
        | (go_at_call 26; refine (refPut_any (HTP2.out.pp.below HB3.out) (by have := HTP2.out.pp.1; have := HLEN.out; omega) kb xB (by rw [HKS.out]; decide) (by decide)).mono ?_; rintro e w4 ⟨a4, m4, c4, rfl, hp4, hb4⟩; have HP4 := Lib.hid hp4; have HB4 := Lib.hid hb4; clear hp4 hb4))
      go_roundw
      case rel =>
        have hins : putR (treeL t) kb xB = treeL t3 := by rw [HL3.out]; exact putR_ins HTP2.out.tt.so kb xB ⟨by rw [HKS.out]; decide, by decide⟩
        refine ⟨i + 1, g3, t3, H3, a4, m4, c4, rfl, rfl, by go_num, by have := HLT.out; omega, ⟨HT3.out.under HB4.out, ?_⟩, ?_, ?_⟩
        · have h := HP4.out
          rw [hins] at h
          refine h.dom (fun b hb => hb.elim id (fun h2 => Nat.le_trans ?_ h2))
          have := HB.out.size; have := HB2.out.size; have := HB3.out.size
          omega
        · rw [HL3.out]
          have := insL_len_le (p := ⟨kb, xB⟩) HTP2.out.tt.so
          have := HLEN.out
          omega
        · exact HB.out.trans (((HB2.out.trans (HB3.out.mono HB2.out.size)).trans (HB4.out.mono (Nat.le_trans HB2.out.size HB3.out.size))).mono HB.out.size)
      case measure => (try go_num); (try (simp only [intOf])); have := HLT.out; omega
    · have hge : ¬ (i : Int) < (n : Int) := by omega
      have HLN : Hid ((treeL t).length ≤ n) := Lib.hid (Nat.le_trans HLEN.out hi)
      clear hlt
      go_wp2
      go_loopw [9, 10, 13] (fun u v x wr2 => ∃ (i g : Nat) (t : Option BT) (H : Nat) (a : Option Addr) (m c : Nat), u = .pointer (some ⟨g, 0, none⟩) ∧ v = .slice a m c ∧ x = .int .i64 (i : Int) ∧ i ≤ n + 3 ∧ TP w.heap.size wr2 g t H a m c ∧ (treeL t).length ≤ n ∧ Below w.heap.size w wr2) (fun _ _ x _ => n + 3 - (intOf x).toNat)
      case atStart => exact ⟨0, g, t, H, a, m, c, rfl, rfl, rfl, Nat.zero_le _, HTP.out, HLN.out, HB.out⟩
      case round =>
        clear HTP HLEN HB HLN hge hi
        obtain ⟨i, g, t, H, a, m, c, rfl, rfl, rfl, hi, htp, hlen, hb⟩ := hrel
        have HTP := Lib.hid htp
        have HLEN := Lib.hid hlen
        have HB := Lib.hid hb
        clear htp hlen hb
        have hw3 : IntKind.i64.wrap ((i : Int) + 3) = (i : Int) + 3 := i64_id _ (by omega) (by omega)
        by_cases hlt : i < n
        · have hlt2 : (i : Int) < (n : Int) := by omega
          cases thin with
          | false =>
            go_wp2
            refine bodyPost_ret (results_tmp3 rfl _ _ _) rfl ?_
            exact ⟨g, t, H, a, m, c, rfl, HTP.out, HLEN.out, HB.out⟩
          | true =>
            obtain ⟨M, q, hm1, hm2, hm3, hm4, hq⟩ := HMUL.out i hlt
            have HQ := Lib.hid hq
            have HLT := Lib.hid hlt
            clear hq hlt
            go_wp2_with (first
              | (go_at_call 15; refine (HKEY.out q _ HQ.out).mono ?_; rintro e w2 ⟨kb, rfl, hks, hb2⟩; have HB2 := Lib.hid hb2; have HKS := Lib.hid hks; have HTP2 := Lib.hid (HTP.out.below hb2); clear hb2 hks)
              | (go_at_call 27; refine (del_tree HTP2.out.tt (by have := HLEN.out; omega) kb).mono ?_; rintro e w3 ⟨g3, t3, H3, rfl, ht3, hl3, -, -, hb3⟩; have HT3 := Lib.hid ht3; have HL3 := Lib.hid hl3; have HB3 := Lib.hid hb3; clear ht3 hl3 hb3)
              | (go_at_call 28; refine (refDelete_any (HTP2.out.pp.below HB3.out) (by have := HTP2.out.pp.1; have := HLEN.out; omega) kb).mono ?_; rintro e w4 ⟨v4, rfl, hr4, hb4⟩; obtain ⟨a4, m4, c4, rfl, hp4⟩ := Ps.row hr4; have HP4 := Lib.hid hp4; have HB4 := Lib.hid hb4; clear hp4 hb4 hr4))
            go_roundw
            case rel =>
              refine ⟨i + 3, g3, t3, H3, a4, m4, c4, rfl, rfl, by go_num, by have := HLT.out; omega, ⟨HT3.out.under HB4.out, ?_⟩, ?_, ?_⟩
              · have h := HP4.out
                rw [delR_del, ← HL3.out] at h
                refine h.dom (fun b hb => Nat.le_trans ?_ hb)
                have := HB.out.size; have := HB2.out.size; have := HB3.out.size
                omega
              · rw [HL3.out]
                exact Nat.le_trans (delL_le _ _) HLEN.out
              · exact HB.out.trans (((HB2.out.trans (HB3.out.mono HB2.out.size)).trans (HB4.out.mono (Nat.le_trans HB2.out.size HB3.out.size))).mono HB.out.size)
            case measure => (try go_num); (try (simp only [intOf])); have := HLT.out; omega
        · have hge : ¬ (i : Int) < (n : Int) := by omega
          clear hlt
          go_wp2
          refine bodyPost_ret (results_tmp3 rfl _ _ _) rfl ?_
          exact ⟨g, t, H, a, m, c, rfl, HTP.out, HLEN.out, HB.out⟩
end Go.Proofs.Ytfgmhidgkemfoaa
namespace Go.Proofs.Ytfgmhidgkemfoaa
open Go.RowKit
set_option linter.unusedSimpArgs false
set_option linter.unusedVariables false
def s1 (a : UInt8) : ByteArray := ⟨#[a]⟩
def livA : List KV := [⟨s1 98, s1 49⟩, ⟨s1 100, s1 50⟩]
def livB : List KV := [⟨s1 100, s1 51⟩, ⟨s1 101, s1 52⟩]
def livE : List ED := [⟨s1 98, emptyS, true⟩, ⟨s1 100, s1 51, false⟩, ⟨s1 101, s1 52, false⟩]
theorem livA_eq : insL (insL [] ⟨s1 100, s1 50⟩) ⟨s1 98, s1 49⟩ = livA := by decide
theorem livB_eq : insL (insL [] ⟨s1 101, s1 52⟩) ⟨s1 100, s1 51⟩ = livB := by decide
theorem livE_eq : diffR livA livB = livE := by rw [← diffP_eq]; decide
theorem livF : floorL livA (s1 99) = some ⟨s1 98, s1 49⟩ := by decide
theorem livG : floorL livA (s1 97) = none := by decide
theorem livR : rngL (s1 98) (s1 100) livA = [⟨s1 98, s1 49⟩] := by decide
def nineL (i : Nat) : List KV := (List.range i).foldl (fun l j => insL l ⟨keyB j, xB⟩) []
theorem nine_succ (i : Nat) : nineL (i + 1) = insL (nineL i) ⟨keyB i, xB⟩ := by unfold nineL; rw [List.range_succ, List.foldl_append]; rfl
theorem nine_len : ∀ i, i ≤ 9 → (nineL i).length = i := by decide
theorem Sl.new {W : World} {t : TypeId} (cs : List Value) (size : Nat) (hs : cs.length = size) (n : Nat) (hn : n ≤ maxLen) (xs : List Value) (hx : xs.length = n * size) (hz : 0 < size) (h0 : 0 < n) : Sl (fun _ => True) (W.alloc (.cells xs.toArray t)) (some ⟨W.heap.size, 0, none⟩) n n xs size := by
 refine ⟨hx, Nat.le_refl _, hn, by simp, fun _ => ⟨W.heap.size, 0, trivial, rfl, fun j v hv => ?_⟩⟩
 rw [Nat.zero_add, cell_of_row (W.alloc (.cells xs.toArray t)) W.heap.size j xs.toArray _ _ (World.alloc_heap_new W _)]
 simpa using hv
theorem Ps.new1 (W : World) (k v : ByteArray) : Ps (fun _ => True) (W.alloc (.cells #[.string k, .string v] 65)) (some ⟨W.heap.size, 0, none⟩) 1 1 [⟨k, v⟩] := ⟨rfl, Sl.new [.string k, .string v] 2 rfl 1 (by decide) [.string k, .string v] rfl (by decide) (by decide)⟩
theorem Es.new3 (W : World) (a b c : ED) : Es (fun _ => True) (W.alloc (.cells #[.string a.k, .string a.v, .bool a.d, .string b.k, .string b.v, .bool b.d, .string c.k, .string c.v, .bool c.d] 61)) (some ⟨W.heap.size, 0, none⟩) 3 3 [a, b, c] := ⟨rfl, Sl.new [.string a.k, .string a.v, .bool a.d] 3 rfl 3 (by decide) (ecells [a, b, c]) rfl (by decide) (by decide)⟩
end Go.Proofs.Ytfgmhidgkemfoaa
namespace Go.Proofs.Ytfgmhidgkemfoaa
open Go.RowKit
set_option linter.unusedSimpArgs false
set_option linter.unusedVariables false
attribute [local go_sem ↓] exec_loadPair exec_storePair exec_at_zeroP exec_at_succP Go.wp_at_zero Go.wp_at_succ
attribute [local go_sem] run_storePair
theorem none_len : (treeL (none : Option BT)).length ≤ 1000000 := by show ([] : List KV).length ≤ 1000000; simp
theorem s1_60 (a : UInt8) : (s1 a).size ≤ 60 := by show 1 ≤ 60; omega
theorem s1_1000 (a : UInt8) : (s1 a).size ≤ 1000 := by show 1 ≤ 1000; omega
theorem ins_one (p : KV) : (insL (treeL (none : Option BT)) p).length ≤ 1000000 := by
 have h := insL_le (treeL (none : Option BT)) p
 have e : (treeL (none : Option BT)).length = 0 := rfl
 omega
set_option maxRecDepth 100000 in
set_option maxHeartbeats 400000 in
theorem lives_any (w : World) : Calls Try.prog 19 #[] w fun e w' => e = .returned (.bool true) ∧ Below w.heap.size w w' := by
 go_enter Try.func19, Try.ntmps19
 go_upto_region 4 with (go_at_call 12; refine (new_any _).mono ?_; rintro e w1 ⟨g0, rfl, ht0, -, hb0⟩; have HT0 := Lib.hid ht0; have HB0 := Lib.hid hb0; clear ht0 hb0)
 go_upto_region 5 with (first
  | (go_at_call_has 25 (Value.pointer (some ⟨g0, 0, none⟩)); refine (put_tree HT0.out none_len (s1 100) (s1 50) (s1_60 _) (s1_1000 _)).mono ?_; rintro e w2 ⟨g1, t1, H1, rfl, ht1, hl1, -, -, hb1⟩; have HT1 := Lib.hid ht1; have HL1 := Lib.hid hl1; have HB1 := Lib.hid hb1; clear ht1 hl1 hb1)
  | (go_at_call_has 25 (Value.pointer (some ⟨g1, 0, none⟩)); refine (put_tree HT1.out (by rw [HL1.out]; exact ins_one _) (s1 98) (s1 49) (s1_60 _) (s1_1000 _)).mono ?_; rintro e w3 ⟨gA, tA, HA, rfl, htA, hlA, -, -, hb2⟩; have HTA := Lib.hid htA; have HLA := Lib.hid hlA; have HB2 := Lib.hid hb2; clear htA hlA hb2))
 have HLA2 : Hid (treeL tA = livA) := Lib.hid (by rw [HLA.out, HL1.out]; exact livA_eq)
 have HBA : Hid (Below w1.heap.size w1 w3) := Lib.hid (HB1.out.trans (HB2.out.mono HB1.out.size))
 have HT03 := Lib.hid (HT0.out.under HBA.out)
 go_upto_region 6 with (first
  | (go_at_call_has 25 (Value.pointer (some ⟨g0, 0, none⟩)); refine (put_tree HT03.out none_len (s1 101) (s1 52) (s1_60 _) (s1_1000 _)).mono ?_; rintro e w4 ⟨g3, t3, H3, rfl, ht3, hl3, -, -, hb3⟩; have HT3 := Lib.hid ht3; have HL3 := Lib.hid hl3; have HB3 := Lib.hid hb3; clear ht3 hl3 hb3)
  | (go_at_call_has 25 (Value.pointer (some ⟨g3, 0, none⟩)); refine (put_tree HT3.out (by rw [HL3.out]; exact ins_one _) (s1 100) (s1 51) (s1_60 _) (s1_1000 _)).mono ?_; rintro e w5 ⟨gB, tB, HB, rfl, htB, hlB, -, -, hb4⟩; have HTB := Lib.hid htB; have HLB := Lib.hid hlB; have HB4 := Lib.hid hb4; clear htB hlB hb4))
 have HLB2 : Hid (treeL tB = livB) := Lib.hid (by rw [HLB.out, HL3.out]; exact livB_eq)
 have HB35 : Hid (Below w3.heap.size w3 w5) := Lib.hid (HB3.out.trans (HB4.out.mono HB3.out.size))
 have HTA5 := Lib.hid (HTA.out.under HB35.out)
 have HT05 := Lib.hid (HT03.out.under HB35.out)
 have HBW : Hid (Below w.heap.size w w5) := Lib.hid (HB0.out.trans ((HBA.out.trans (HB35.out.mono HBA.out.size)).mono HB0.out.size))
 have HFC : Hid (∀ u, Below w5.heap.size w5 u → Calls Try.prog 35 #[.pointer (some ⟨gA, 0, none⟩), .string (s1 99)] u fun e u' => e = .returned (.tuple #[.agg #[.string (s1 98), .string (s1 49)], .bool true]) ∧ Below u.heap.size u u') := Lib.hid (fun u hu => by
  have h := floor_any (HTA5.out.under hu).tr HTA5.out.ok HTA5.out.so (s1 99)
  rw [HLA2.out, livF] at h
  exact h)
 have HFA : Hid (∀ u, Below w5.heap.size w5 u → Calls Try.prog 35 #[.pointer (some ⟨gA, 0, none⟩), .string (s1 97)] u fun e u' => e = .returned (.tuple #[.agg #[.string emptyS, .string emptyS], .bool false]) ∧ Below u.heap.size u u') := Lib.hid (fun u hu => by
  have h := floor_any (HTA5.out.under hu).tr HTA5.out.ok HTA5.out.so (s1 97)
  rw [HLA2.out, livG] at h
  exact h)
 clear HT0 HB0 HT1 HL1 HB1 HLA HBA HT03 HT3 HL3 HB3 HLB HB4 HTA HB2 HB35
 go_upto_region 7 with (go_at_call 35; refine (HFC.out _ (Below.refl _ _)).mono ?_; rintro e w6 ⟨rfl, hb6⟩; have HB6 := Lib.hid hb6; have p6 : PB (w6.alloc (.cells #[.string ⟨#[]⟩, .string ⟨#[]⟩] 65)) w6.heap.size := ⟨⟨⟨#[]⟩, ⟨#[]⟩⟩, heap_new rfl⟩; clear hb6)
 have hx6 : Below w6.heap.size w6 ((w6.alloc (.cells #[.string ⟨#[]⟩, .string ⟨#[]⟩] 65)).setRow w6.heap.size #[.string (s1 98), .string (s1 49)]) :=
  ((((Kept.of_below (fun _ => False) (Below.refl w6.heap.size w6)).alloc _).setRow (fun h => by omega) _).below (Nat.le_refl _) (fun _ _ h => h))
 have hp6 : ((w6.alloc (.cells #[.string ⟨#[]⟩, .string ⟨#[]⟩] 65)).setRow w6.heap.size #[.string (s1 98), .string (s1 49)]).heap[w6.heap.size]? = some (.cells #[.string (s1 98), .string (s1 49)] 65 (0, 0)) := setRow_heap _ _ _ _ _ _ (heap_new rfl)
 obtain ⟨X, hX⟩ : ∃ X, X = w6.heap.size := ⟨_, rfl⟩
 have HB6W : Hid (Below w5.heap.size w5 ((w6.alloc (.cells #[.string ⟨#[]⟩, .string ⟨#[]⟩] 65)).setRow w6.heap.size #[.string (s1 98), .string (s1 49)])) := Lib.hid (HB6.out.trans (hx6.mono HB6.out.size))
 rw [← hX] at HB6W hp6 ⊢
 obtain ⟨W6, hW6⟩ : ∃ W6, W6 = (w6.alloc (.cells #[.string ⟨#[]⟩, .string ⟨#[]⟩] 65)).setRow X #[.string (s1 98), .string (s1 49)] := ⟨_, rfl⟩
 have HP6 := Lib.hid hp6
 rw [← hW6] at HB6W HP6 ⊢
 clear hW6 hX hx6 hp6 HB6 p6 HFC
 go_upto_region 8 with (go_at_call 35; refine (HFA.out _ HB6W.out).mono ?_; rintro e w7 ⟨rfl, hb7⟩; have HB7 := Lib.hid hb7; have p7 : PB (w7.alloc (.cells #[.string ⟨#[]⟩, .string ⟨#[]⟩] 65)) w7.heap.size := ⟨⟨⟨#[]⟩, ⟨#[]⟩⟩, heap_new rfl⟩; clear hb7)
 have hx7 : Below w7.heap.size w7 ((w7.alloc (.cells #[.string ⟨#[]⟩, .string ⟨#[]⟩] 65)).setRow w7.heap.size #[.string emptyS, .string emptyS]) :=
  ((((Kept.of_below (fun _ => False) (Below.refl w7.heap.size w7)).alloc _).setRow (fun h => by omega) _).below (Nat.le_refl _) (fun _ _ h => h))
 obtain ⟨W7, hW7⟩ : ∃ W7, W7 = (w7.alloc (.cells #[.string ⟨#[]⟩, .string ⟨#[]⟩] 65)).setRow w7.heap.size #[.string emptyS, .string emptyS] := ⟨_, rfl⟩
 rw [← hW7] at hx7 ⊢
 have HB67 : Hid (Below W6.heap.size W6 W7) := Lib.hid (HB7.out.trans (hx7.mono HB7.out.size))
 have HB57 : Hid (Below w5.heap.size w5 W7) := Lib.hid (HB6W.out.trans (HB67.out.mono HB6W.out.size))
 have HP7 : Hid (W7.heap[X]? = some (.cells #[.string (s1 98), .string (s1 49)] 65 (0, 0))) := Lib.hid ((HB67.out.block _ (Array.getElem?_eq_some_iff.1 HP6.out).1).trans HP6.out)
 have HTA7 := Lib.hid (HTA5.out.under HB57.out)
 have HTB7 := Lib.hid (HTB.out.under HB57.out)
 have HT07 := Lib.hid (HT05.out.under HB57.out)
 have HBW7 : Hid (Below w.heap.size w W7) := Lib.hid (HBW.out.trans (HB57.out.mono HBW.out.size))
 clear hW7 hx7 HB7 p7 HFA HB67 HB57 HTA5 HTB HT05 HBW HB6W HP6
 have HKEY : Hid (∀ (q : Nat) (u : World), q < 4000 → Calls Try.prog 15 #[.int .i64 (q : Int)] u fun e w' => e = .returned (.string (keyB q)) ∧ Below u.heap.size u w') := Lib.hid (fun q u hq => by
  have h := key_any (q : Int) (by omega) (by omega) u
  have e : (aroundT (q : Int) 4000).toNat = q := by
   unfold aroundT
   rw [if_neg (by omega)]
   omega
  rw [e] at h
  exact h)
 go_wp2
 go_loopw [8, 9] (fun u x wr => ∃ (i g : Nat) (t : Option BT) (H : Nat), u = .pointer (some ⟨g, 0, none⟩) ∧ x = .int .i64 (i : Int) ∧ i ≤ 9 ∧ TT wr g t H ∧ treeL t = nineL i ∧ Below W7.heap.size W7 wr) (fun _ x _ => 9 - (intOf x).toNat)
 case atStart => exact ⟨0, g0, none, 0, rfl, rfl, Nat.zero_le _, HT07.out, rfl, Below.refl _ _⟩
 case round =>
  obtain ⟨i, g, t, H, rfl, rfl, hi, ht, hl, hb⟩ := hrel
  have HT := Lib.hid ht
  have HL := Lib.hid hl
  have HB := Lib.hid hb
  have HLEN : Hid ((treeL t).length = i) := Lib.hid (by rw [hl]; exact nine_len i hi)
  have HHI : Hid (H ≤ 100000) := Lib.hid (Nat.le_trans (tok_high ht.ok 2 (by rw [HLEN.out]; omega)) (by omega))
  clear ht hl hb
  by_cases hlt : i < 9
  ·have hlt2 : (i : Int) < 9 := by omega
   have HPUT : Hid (∀ u, Below wr.heap.size wr u → Calls Try.prog 25 #[.pointer (some ⟨g, 0, none⟩), .string (keyB i), .string xB] u (PutT u t H ⟨keyB i, xB⟩)) := Lib.hid (fun u hu => put_tree (HT.out.under hu) (by have := HLEN.out; omega) (keyB i) xB (by rw [keyB_size]; omega) (by show 1 ≤ 1000; omega))
   have HLT := Lib.hid hlt
   by_cases h7 : 0 < i ∧ i < 7
   ·have h70 : (0 : Int) < (i : Int) := by omega
    have h71 : (i : Int) < 7 := by omega
    have HH1 : Hid (H = 1) := Lib.hid (by
     have h1 := tok_high HT.out.ok 1 (by rw [HLEN.out]; omega)
     have h2 : H ≠ 0 := fun e => by
      have := (tok_zero HT.out.ok).1 e
      have h3 := HLEN.out
      rw [this] at h3
      simp at h3
      omega
     omega)
    clear hlt h7
    go_wp2_with (first
     | (go_at_call 22; refine (height_any HT.out.tr HT.out.ok HHI.out).mono ?_; rintro e w8 ⟨rfl, hb8⟩; have HB8 := Lib.hid hb8; clear hb8; rw [HH1.out])
     | (go_at_call 15; refine (HKEY.out i _ (by have := HLT.out; omega)).mono ?_; rintro e w9 ⟨rfl, hb9⟩; have HB9 := Lib.hid hb9; clear hb9)
     | (go_at_call 25; refine (HPUT.out _ (HB8.out.trans (HB9.out.mono HB8.out.size))).mono ?_; rintro e w10 ⟨g3, t3, H3, rfl, ht3, hl3, -, -, hb3⟩; have HT3 := Lib.hid ht3; have HL3 := Lib.hid hl3; have HB3 := Lib.hid hb3; clear ht3 hl3 hb3))
    go_roundw
    case rel => exact ⟨i + 1, g3, t3, H3, rfl, by go_num, by have := HLT.out; omega, HT3.out, by rw [HL3.out, HL.out, nine_succ], HB.out.trans (((HB8.out.trans (HB9.out.mono HB8.out.size)).trans (HB3.out.mono (Nat.le_trans HB8.out.size HB9.out.size))).mono HB.out.size)⟩
    case measure => (try go_num); (try (simp only [intOf])); have := HLT.out; omega
   ·by_cases h0 : i = 0
    ·have h70 : ¬ (0 : Int) < (i : Int) := by omega
     clear hlt h7 h0
     go_wp2_with (first
      | (go_at_call 15; refine (HKEY.out i _ (by have := HLT.out; omega)).mono ?_; rintro e w9 ⟨rfl, hb9⟩; have HB9 := Lib.hid hb9; clear hb9)
      | (go_at_call 25; refine (HPUT.out _ HB9.out).mono ?_; rintro e w10 ⟨g3, t3, H3, rfl, ht3, hl3, -, -, hb3⟩; have HT3 := Lib.hid ht3; have HL3 := Lib.hid hl3; have HB3 := Lib.hid hb3; clear ht3 hl3 hb3))
     go_roundw
     case rel => exact ⟨i + 1, g3, t3, H3, rfl, by go_num, by have := HLT.out; omega, HT3.out, by rw [HL3.out, HL.out, nine_succ], HB.out.trans ((HB9.out.trans (HB3.out.mono HB9.out.size)).mono HB.out.size)⟩
     case measure => (try go_num); (try (simp only [intOf])); have := HLT.out; omega
    ·have h70 : (0 : Int) < (i : Int) := by omega
     have h71 : ¬ (i : Int) < 7 := by omega
     clear hlt h7 h0
     go_wp2_with (first
      | (go_at_call 15; refine (HKEY.out i _ (by have := HLT.out; omega)).mono ?_; rintro e w9 ⟨rfl, hb9⟩; have HB9 := Lib.hid hb9; clear hb9)
      | (go_at_call 25; refine (HPUT.out _ HB9.out).mono ?_; rintro e w10 ⟨g3, t3, H3, rfl, ht3, hl3, -, -, hb3⟩; have HT3 := Lib.hid ht3; have HL3 := Lib.hid hl3; have HB3 := Lib.hid hb3; clear ht3 hl3 hb3))
     go_roundw
     case rel => exact ⟨i + 1, g3, t3, H3, rfl, by go_num, by have := HLT.out; omega, HT3.out, by rw [HL3.out, HL.out, nine_succ], HB.out.trans ((HB9.out.trans (HB3.out.mono HB9.out.size)).mono HB.out.size)⟩
     case measure => (try go_num); (try (simp only [intOf])); have := HLT.out; omega
  ·have hge : ¬ (i : Int) < 9 := by omega
   have HH2 : Hid (H = 2) := Lib.hid (by
    have h1 := tok_high HT.out.ok 2 (by rw [HLEN.out]; omega)
    have h2 : H ≠ 0 := fun e => by
     have := (tok_zero HT.out.ok).1 e
     have h3 := HLEN.out
     rw [this] at h3
     simp at h3
     omega
    have h3 : H ≠ 1 := fun e => by
     have h4 := (tok_bounds HT.out.ok h2).2
     rw [e, HLEN.out] at h4
     omega
    omega)
   have HRG : Hid (∀ u, Below wr.heap.size wr u → Calls Try.prog 29 #[.pointer (some ⟨gA, 0, none⟩), .string (s1 98), .string (s1 100)] u fun e W' => ∃ a n c, e = .returned (.slice a n c) ∧ Ps (fun _ => True) W' a n c [⟨s1 98, s1 49⟩] ∧ Below u.heap.size u W') := Lib.hid (fun u hu => by
    have h := range_any ((HTA7.out.under HB.out).under hu) (s1 98) (s1 100) (by rw [HLA2.out]; decide)
    rw [HLA2.out, livR] at h
    refine h.mono ?_
    rintro e W' ⟨v, rfl, hr, hb⟩
    obtain ⟨a, n, c, rfl, hp⟩ := Ps.row hr
    exact ⟨a, n, c, rfl, hp.dom (fun _ _ => trivial), hb⟩)
   have HP8 : Hid (wr.heap[X]? = some (.cells #[.string (s1 98), .string (s1 49)] 65 (0, 0))) := Lib.hid ((HB.out.block _ (Array.getElem?_eq_some_iff.1 HP7.out).1).trans HP7.out)
   clear hlt hi
   have HSM : Hid (∀ (u : World) (a : Option Addr) (n c : Nat), Ps (fun _ => True) u a n c [⟨s1 98, s1 49⟩] → Calls Try.prog 30 #[.slice a n c, .slice (some ⟨u.heap.size, 0, none⟩) 1 1] (u.alloc (.cells #[.string ⟨#[98]⟩, .string ⟨#[49]⟩] 65)) fun e W' => e = .returned (.bool true) ∧ Below u.heap.size u W') := Lib.hid (fun u a n c hp => by
    have hal : Below u.heap.size u (u.alloc (.cells #[.string ⟨#[98]⟩, .string ⟨#[49]⟩] 65)) := (Below.refl _ u).alloc (Nat.le_refl _) _
    have h := same_any (hp.below hal) (Ps.new1 u ⟨#[98]⟩ ⟨#[49]⟩)
    have e : decide ([(⟨s1 98, s1 49⟩ : KV)] = [⟨⟨#[98]⟩, ⟨#[49]⟩⟩]) = true := decide_eq_true rfl
    rw [e] at h
    exact h.mono (fun e W' h => ⟨h.1, hal.trans (h.2.mono hal.size)⟩))
   go_upto_region 17 with (first
    | (go_at_call 29; refine (HRG.out _ (Below.refl _ _)).mono ?_; rintro e w11 ⟨a1, n1, c1, rfl, hp1, hb1⟩; have HP1 := Lib.hid hp1; have HB1 := Lib.hid hb1; clear hp1 hb1)
    | (go_at_call 30; refine (HSM.out _ _ _ _ HP1.out).mono ?_; rintro e w12 ⟨rfl, hb12⟩; have HB12 := Lib.hid (HB1.out.trans (hb12.mono HB1.out.size)); have c1 : w12.cell? ⟨X, 1, none⟩ = some (.string ⟨#[49]⟩) := cell_of_row w12 X 1 _ _ _ ((HB12.out.block _ (Array.getElem?_eq_some_iff.1 HP8.out).1).trans HP8.out); clear hb12)
    | (go_at_call 22; refine (height_any (HT.out.under HB12.out).tr HT.out.ok HHI.out).mono ?_; rintro e w13 ⟨rfl, hb13⟩; have HB13 := Lib.hid (HB12.out.trans (hb13.mono HB12.out.size)); clear hb13; rw [HH2.out]))
   have HB713 : Hid (Below W7.heap.size W7 w13) := Lib.hid (HB.out.trans (HB13.out.mono HB.out.size))
   clear c1
   have HDF : Hid (∀ u, Below w13.heap.size w13 u → Calls Try.prog 32 #[.pointer (some ⟨gA, 0, none⟩), .pointer (some ⟨gB, 0, none⟩)] u fun e W' => ∃ a n c, e = .returned (.slice a n c) ∧ Es (fun _ => True) W' a n c livE ∧ Below u.heap.size u W') := Lib.hid (fun u hu => by
    have h := diff_any ((HTA7.out.under HB713.out).under hu) ((HTB7.out.under HB713.out).under hu) (by rw [HLA2.out]; decide) (by rw [HLB2.out]; decide)
    rw [HLA2.out, HLB2.out, livE_eq] at h
    refine h.mono ?_
    rintro e W' ⟨v, rfl, hr, hb⟩
    obtain ⟨a, n, c, rfl, hp⟩ := Es.row hr
    exact ⟨a, n, c, rfl, ⟨hp.1, hp.2.dom (fun _ _ => trivial)⟩, hb⟩)
   go_upto_region 18 with fail
   have hal : Below w13.heap.size w13 (w13.alloc (.cells #[.string ⟨#[98]⟩, .string ⟨#[]⟩, .bool true, .string ⟨#[100]⟩, .string ⟨#[51]⟩, .bool false, .string ⟨#[101]⟩, .string ⟨#[52]⟩, .bool false] 61)) := (Below.refl _ w13).alloc (Nat.le_refl _) _
   have hes : Es (fun _ => True) (w13.alloc (.cells #[.string ⟨#[98]⟩, .string ⟨#[]⟩, .bool true, .string ⟨#[100]⟩, .string ⟨#[51]⟩, .bool false, .string ⟨#[101]⟩, .string ⟨#[52]⟩, .bool false] 61)) (some ⟨w13.heap.size, 0, none⟩) 3 3 livE := Es.new3 w13 ⟨⟨#[98]⟩, ⟨#[]⟩, true⟩ ⟨⟨#[100]⟩, ⟨#[51]⟩, false⟩ ⟨⟨#[101]⟩, ⟨#[52]⟩, false⟩
   obtain ⟨w14, hw14⟩ : ∃ z, z = w13.alloc (.cells #[.string ⟨#[98]⟩, .string ⟨#[]⟩, .bool true, .string ⟨#[100]⟩, .string ⟨#[51]⟩, .bool false, .string ⟨#[101]⟩, .string ⟨#[52]⟩, .bool false] 61) := ⟨_, rfl⟩
   rw [← hw14] at hal hes ⊢
   have HAL := Lib.hid hal
   have HES := Lib.hid hes
   clear hw14 hal hes
   have HSE : Hid (∀ (u : World) (a : Option Addr) (n c : Nat), Below w14.heap.size w14 u → Es (fun _ => True) u a n c livE → Calls Try.prog 33 #[.slice a n c, .slice (some ⟨w13.heap.size, 0, none⟩) 3 3] u fun e W' => e = .returned (.bool true) ∧ Below u.heap.size u W') := Lib.hid (fun u a n c hu hp => by
    have h := sameE_any hp (HES.out.below hu)
    rw [decide_eq_true rfl] at h
    exact h)
   have HL0 : Hid (∀ u, Below w14.heap.size w14 u → Calls Try.prog 23 #[.pointer (some ⟨g0, 0, none⟩)] u fun e W' => e = .returned (.int .i64 0) ∧ u = W') := Lib.hid (fun u hu => len_any (((HT07.out.under HB713.out).under HAL.out).under hu).tr)
   have HLA : Hid (∀ u, Below w14.heap.size w14 u → Calls Try.prog 23 #[.pointer (some ⟨gA, 0, none⟩)] u fun e W' => e = .returned (.int .i64 2) ∧ u = W') := Lib.hid (fun u hu => by
    have h := len_any (((HTA7.out.under HB713.out).under HAL.out).under hu).tr
    rw [HLA2.out] at h
    exact h)
   go_wp2_with (first
    | (go_at_call 32; refine (HDF.out _ HAL.out).mono ?_; rintro e w15 ⟨a2, n2, c2, rfl, hp2, hb2⟩; have HP2 := Lib.hid hp2; have HB2 := Lib.hid hb2; clear hp2 hb2)
    | (go_at_call 33; refine (HSE.out _ _ _ _ HB2.out HP2.out).mono ?_; rintro e w16 ⟨rfl, hb16⟩; have HB16 := Lib.hid (HB2.out.trans (hb16.mono HB2.out.size)); clear hb16)
    | (go_at_call_has 23 (Value.pointer (some ⟨g0, 0, none⟩)); refine (HL0.out _ HB16.out).mono ?_; rintro e w17 ⟨rfl, rfl⟩)
    | (go_at_call_has 23 (Value.pointer (some ⟨gA, 0, none⟩)); refine (HLA.out _ HB16.out).mono ?_; rintro e w17 ⟨rfl, rfl⟩))
   go_ret
   exact ⟨rfl, HBW7.out.trans ((HB713.out.trans ((HAL.out.trans (HB16.out.mono HAL.out.size)).mono HB713.out.size)).mono HBW7.out.size)⟩
end Go.Proofs.Ytfgmhidgkemfoaa
namespace Go.Proofs.Ytfgmhidgkemfoaa
theorem own : ownKnob Try.prog.godebug = none := by kernel_rfl
theorem laidOut : laidOutB Try.prog = true := by kernel_rfl
end Go.Proofs.Ytfgmhidgkemfoaa
namespace Go.Proofs.Ytfgmhidgkemfoaa
open Go.ChangeShapes Go.WideShapes Go.ChangeAt Go.RowKit
set_option linter.unusedSimpArgs false
set_option linter.unusedVariables false
def Old (W : World) (b : Nat) : Prop := b < W.heap.size
theorem Sl.of_cells {W : World} {ad : Addr} {n c : Nat} {xs : List Value} {size : Nat} (hz : 0 < size) (hl : xs.length = n * size) (hn : n ≤ c) (hm : c ≤ maxLen) (hc : ∀ j u, xs[j]? = some u → W.cell? (ad.add j) = some u) : Sl (Old W) W (some ad) n c xs size := by
 refine ⟨hl, hn, hm, (fun h => by cases h), fun hp => ?_⟩
 obtain ⟨ab, ao, spot⟩ := ad
 have h0 : xs[0]? = some (xs[0]'(by rw [hl]; exact Nat.mul_pos hp hz)) := List.getElem?_eq_getElem _
 have hspot : spot = none := by simpa [Addr.add] using World.cell?_spot (hc 0 _ h0)
 subst hspot
 have hr : W.rangeAt ab ao xs := fun j u hu => by have := hc j u hu; rwa [Addr.add_mid] at this
 exact ⟨ab, ao, range_lt hr (by rw [hl]; exact Nat.mul_pos hp hz), rfl, hr⟩
theorem cells3o : Try.prog.cellsOf 29 = 3 := by kernel_rfl
structure OpM where
 kind : Int
 key : Int
 val : Int
def OpM.cells (m : OpM) : List Value := [.int .u8 m.kind, .int .i64 m.key, .int .u8 m.val]
theorem OpM.cells_len (m : OpM) : m.cells.length = 3 := rfl
def OpOk (m : OpM) : Prop := (0 ≤ m.kind ∧ m.kind ≤ 255) ∧ (-9223372036854775808 ≤ m.key ∧ m.key ≤ 9223372036854775807) ∧ (0 ≤ m.val ∧ m.val ≤ 255)
def opcells (ms : List OpM) : List Value := ms.flatMap OpM.cells
theorem opcells_len (ms : List OpM) : (opcells ms).length = ms.length * 3 := by
 unfold opcells
 induction ms with
 | nil => rfl
 | cons m r ih => rw [List.flatMap_cons, List.length_append, OpM.cells_len, ih, List.length_cons]; omega
theorem opcells_get (ms : List OpM) (i j : Nat) (hi : i < ms.length) (hj : j < 3) : (opcells ms)[i * 3 + j]? = ms[i].cells[j]? := by
  unfold opcells
  induction ms generalizing i with
  | nil => simp at hi
  | cons m r ih =>
    rw [List.flatMap_cons]
    cases i with
    | zero =>
      rw [List.getElem?_append_left (by rw [OpM.cells_len]; omega), Nat.zero_mul, Nat.zero_add]
      rfl
    | succ i =>
      rw [List.getElem?_append_right (by rw [OpM.cells_len]; omega), show (i + 1) * 3 + j - m.cells.length = i * 3 + j by rw [OpM.cells_len]; omega, ih i (by simpa using hi)]
      rfl
def Ops (D : Nat → Prop) (w : World) (a : Option Addr) (n c : Nat) (ms : List OpM) : Prop := ms.length = n ∧ Sl D w a n c (opcells ms) 3 ∧ ∀ m ∈ ms, OpOk m
section
variable {H : Type} {enc : TypeId × Value → H} {W : World} {base : Nat} {held : Bool}
set_option maxRecDepth 100000 in
theorem op_of_trod {fuel : Nat} {cs : List Value} {x : DataW H × List MemPlace} (h : DataW.trod enc Try.prog W base (fun _ => true) held fuel 29 cs = some x) : ∃ m : OpM, cs = m.cells ∧ OpOk m := by
  obtain ⟨ys, n, _, _, hlen, hyl, hf⟩ := DataW.trod_struct Try.underlying29 h
  rw [cells3o] at hlen
  match cs, hlen with
  | [c0, c1, c2], _ =>
    match ys, hyl with
    | [y0, y1, y2], _ =>
      have h0 : DataW.trod enc Try.prog W base (fun _ => true) held n 5 [c0] = some y0 := hf 0 _ rfl
      have h1 : DataW.trod enc Try.prog W base (fun _ => true) held n 3 [c1] = some y1 := hf 1 _ rfl
      have h2 : DataW.trod enc Try.prog W base (fun _ => true) held n 5 [c2] = some y2 := hf 2 _ rfl
      obtain ⟨i0, e0, _, w0⟩ := DataW.trod_int Try.underlying5 h0
      obtain ⟨i1, e1, _, w1⟩ := DataW.trod_int Try.underlying3 h1
      obtain ⟨i2, e2, _, w2⟩ := DataW.trod_int Try.underlying5 h2
      cases e0; cases e1; cases e2
      exact ⟨⟨i0, i1, i2⟩, rfl, bounds_u8 w0, bounds_i64 w1, bounds_u8 w2⟩
set_option maxRecDepth 100000 in
theorem open_ops {base0 : Nat} {v : Value} {d : DataW H} {p : List MemPlace} (hval : Value.okWide Try.prog W .any base0 22 v) (h : DataW.Trod enc Try.prog W base (fun _ => true) held 22 v d p) :
  ∃ a n c ms, v = .slice a n c ∧ Ops (Old W) W a n c ms := by
 obtain ⟨a1, n, c, rfl⟩ := okWide_slice Try.underlying22 hval
 obtain ⟨fuel, hf⟩ := h
 rcases Go.Deep.open_slice Try.underlying22 hf with ⟨hcs, hx⟩ | ⟨a, n', c', m, fu, D, Pl, hcs, _, hl, hm, hmm, hx, hi⟩
 ·simp [Value.cells] at hcs
  obtain ⟨rfl, rfl, rfl⟩ := hcs
  exact ⟨none, 0, 0, [], rfl, rfl, Sl.empty _ _ _ _ _ (Nat.zero_le _) (fun _ => rfl), fun _ h => by cases h⟩
 ·simp [Value.cells] at hcs
  obtain ⟨rfl, rfl, rfl⟩ := hcs
  simp only [if_true] at hmm
  have hex : ∀ i, i < n → ∃ x : OpM, (∀ j u, x.cells[j]? = some u → W.cell? (a.add (i * 3 + j)) = some u) ∧ OpOk x := by
   intro i hin
   obtain ⟨cs', hc, ht⟩ := hi i (by omega)
   rw [cells3o] at hc
   obtain ⟨_, hlen, hat⟩ := World.cells?_some hc
   obtain ⟨x, rfl, hx⟩ := op_of_trod ht
   refine ⟨x, fun j u hu => ?_, hx⟩
   have hj : j < 3 := by have := (List.getElem?_eq_some_iff.1 hu).1; rwa [OpM.cells_len] at this
   rw [← Go.Deep.add_add, hat j hj, hu]
  refine ⟨some a, n, c, (List.range n).attach.map fun i => (hex i.1 (List.mem_range.1 i.2)).choose, rfl, by simp, Sl.of_cells (by decide) (by rw [opcells_len]; simp) hl hm fun j u hu => ?_, fun x hx => ?_⟩
  ·have hjl : j < n * 3 := by
    have := (List.getElem?_eq_some_iff.1 hu).1
    rw [opcells_len] at this
    simpa using this
   have e : j = j / 3 * 3 + j % 3 := by omega
   have hi6 : j / 3 < n := by omega
   rw [e] at hu ⊢
   rw [opcells_get _ (j / 3) (j % 3) (by simpa using hi6) (by omega)] at hu
   simp only [List.getElem_map, List.getElem_attach, List.getElem_range] at hu
   exact (hex (j / 3) hi6).choose_spec.1 _ _ hu
  ·obtain ⟨i, _, rfl⟩ := List.mem_map.1 hx
   exact (hex i.1 (List.mem_range.1 i.2)).choose_spec.2

end
theorem Ops.kept {D S : Nat → Prop} {w w' : World} {a : Option Addr} {n c : Nat} {ms : List OpM} (h : Ops D w a n c ms) (hk : Kept S w w') (hd : ∀ b, b < w.heap.size → D b → ¬ S b) : Ops D w' a n c ms :=
 ⟨h.1, h.2.1.kept (by decide) hk hd, h.2.2⟩
theorem Ops.below {D : Nat → Prop} {w w' : World} {a : Option Addr} {n c : Nat} {ms : List OpM} (h : Ops D w a n c ms) (hb : Below w.heap.size w w') : Ops D w' a n c ms := h.kept (Kept.of_below (fun _ => False) hb) (fun _ _ _ h => h)
theorem Ops.at {D : Nat → Prop} {w : World} {a : Option Addr} {n c : Nat} {ms : List OpM} (h : Ops D w a n c ms) (hp : 0 < n) : ∃ b off, D b ∧ b < w.heap.size ∧ a = some ⟨b, off, none⟩ ∧ ∀ (i : Nat) (hi : i < ms.length), w.rangeAt b (off + i * 3) ms[i].cells := by
 obtain ⟨h1, ⟨h2, h3, h4, h5, h6⟩, h7⟩ := h
 obtain ⟨b, off, hD, ha, hr⟩ := h6 hp
 refine ⟨b, off, hD, range_lt hr (by omega), ha, fun i hi j v hv => ?_⟩
 have hj : j < 3 := (List.getElem?_eq_some_iff.1 hv).1
 rw [Nat.add_assoc]
 exact hr (i * 3 + j) v (by rw [opcells_get ms i j hi hj]; exact hv)

def loadOpA (v : Value) : Sem Next := do pure (.value (← Instr.loadAt 29 v))
theorem exec_loadOp (ρ : Operand → Value) (d : Option Tmp) (x : Operand) (ty : TypeId) (pos : String) (af : Array Edge) (gd : Option (Nat × Bool)) :
  execOp ρ { dst := d, op := .load 29 x, type := ty, pos := pos, after := af, guard := gd } = loadOpA (ρ x) := rfl
theorem run_loadOp {w : World} {b o : Nat} {m : OpM} (h : w.rangeAt b o m.cells) : (loadOpA (.pointer (some ⟨b, o, none⟩))).run Try.prog w = .ok (.value (.agg #[.int .u8 m.kind, .int .i64 m.key, .int .u8 m.val])) w := by
 unfold loadOpA
 simp only [Sem.run_bind, Sem.run_pure, Result.andThen_ok, run_loadAt_mid w b o 29 m.cells _ h Try.underlying29 rfl (by rw [OpM.cells_len]; kernel_rfl)]
 rfl
theorem run_boxOp (k x v : Int) (W : World) : (Instr.box 29 (.agg #[.int .u8 k, .int .i64 x, .int .u8 v])).run Try.prog W = .ok (.pointer (some ⟨W.heap.size, 0, none⟩)) (W.alloc (.cells #[.int .u8 k, .int .i64 x, .int .u8 v] 29)) := by kernel_rfl
end Go.Proofs.Ytfgmhidgkemfoaa
namespace Go.Proofs.Ytfgmhidgkemfoaa
open Go.RowKit
set_option linter.unusedSimpArgs false
set_option linter.unusedVariables false
attribute [local go_sem ↓] exec_loadOp exec_at_zeroP exec_at_succP Go.wp_at_zero Go.wp_at_succ
attribute [local go_sem] run_boxOp
def OpM.agg (m : OpM) : Value := .agg #[.int .u8 m.kind, .int .i64 m.key, .int .u8 m.val]
def chK (m : OpM) (most : Int) : ByteArray := keyB (aroundT (aroundT m.key most) 4000).toNat
def chV (m : OpM) : ByteArray := ⟨#[118]⟩ ++ dig (m.val % 8).toNat
theorem chK_size (m : OpM) (most : Int) : (chK m most).size = 3 := rfl
theorem chV_size (m : OpM) : (chV m).size ≤ 1000 := by show 2 ≤ 1000; omega
def chL (l : List KV) (m : OpM) (most : Int) : List KV := if m.kind % 2 = 1 then delL l (chK m most) else insL l ⟨chK m most, chV m⟩
theorem chL_len {l : List KV} (hs : Sorted l) (m : OpM) (most : Int) : (chL l m most).length ≤ l.length + 1 := by
 unfold chL
 split
 ·exact Nat.le_trans (delL_le _ _) (by omega)
 ·exact insL_len_le hs
theorem chL_sorted {l : List KV} (hs : Sorted l) (m : OpM) (most : Int) : Sorted (chL l m most) := by
 unfold chL
 split
 ·exact delL_sorted hs
 ·exact insL_sorted hs
set_option maxRecDepth 100000 in
set_option maxHeartbeats 2000000 in
theorem value_any (m : OpM) (hm : OpOk m) (w : World) : Calls Try.prog 44 #[m.agg] w fun e w' => e = .returned (.string (chV m)) ∧ Below w.heap.size w w' := by
 obtain ⟨hk, hx, hv⟩ := hm
 obtain ⟨q, hq⟩ : ∃ q : Nat, m.val % 8 = (q : Int) := ⟨(m.val % 8).toNat, by omega⟩
 have hq2 : m.val.tmod 8 = (q : Int) := by rw [Int.tmod_eq_emod_of_nonneg (by omega)]; exact hq
 have hq9 : q ≤ 9 := by omega
 have HV : Hid (chV m = ⟨#[118]⟩ ++ dig q) := Lib.hid (by unfold chV; rw [hq]; rfl)
 have hwq : IntKind.i64.wrap (q : Int) = (q : Int) := i64_id _ (by omega) (by omega)
 have HD := Lib.hid (fun u => decimal_any q hq9 u)
 have hsz : (dig q).size = 1 := rfl
 unfold OpM.agg
 obtain ⟨K, hK⟩ : ∃ K, K = m.kind := ⟨_, rfl⟩
 obtain ⟨X, hX⟩ : ∃ X, X = m.key := ⟨_, rfl⟩
 obtain ⟨V, hV⟩ : ∃ V, V = m.val := ⟨_, rfl⟩
 rw [← hV] at hq hq2 hv
 rw [← hK, ← hX, ← hV]
 clear hK hX hV hk hx hq9
 go_enter Try.func44, Try.ntmps44
 go_wp2_with (go_at_call 45; refine (HD.out _).mono ?_; rintro e w2 ⟨rfl, rfl⟩)
 go_ret
 rw [HV.out]
 exact ⟨rfl, (Below.refl _ w).alloc (Nat.le_refl _) _⟩
def ChgT (w : World) (t : Option BT) (H : Nat) (m : OpM) (most : Int) (e : Ending) (w' : World) : Prop := ∃ g' t' H', e = .returned (.pointer (some ⟨g', 0, none⟩)) ∧ TT w' g' t' H' ∧ treeL t' = chL (treeL t) m most ∧ (∀ P, tcnt P t' ≤ tcnt P t + (3 * H + 2)) ∧ Below w.heap.size w w'
set_option maxRecDepth 100000 in
set_option maxHeartbeats 2000000 in
theorem change_any {w : World} {g : Nat} {t : Option BT} {H : Nat} (ht : TT w g t H) (hlen : (treeL t).length ≤ 100000) (m : OpM) (hm : OpOk m) (most : Int) (h0 : 0 < most) (h63 : most ≤ 1000000) :
  Calls Try.prog 13 #[.pointer (some ⟨g, 0, none⟩), m.agg, .int .i64 most] w (ChgT w t H m most) := by
 have HVAL := Lib.hid (fun u => value_any m hm u)
 have hbd := aroundT_bd m.key most h0
 have HAR := Lib.hid (fun u => aroundT_any m.key most u hm.2.1.1 hm.2.1.2 h0 (by omega))
 have HKEY := Lib.hid (fun u => key_any (aroundT m.key most) (by omega) (by omega) u)
 have HT := Lib.hid ht
 have HLEN := Lib.hid hlen
 obtain ⟨y, hy⟩ : ∃ y, y = aroundT m.key most := ⟨_, rfl⟩
 obtain ⟨kb, hkb⟩ : ∃ kb, kb = chK m most := ⟨_, rfl⟩
 obtain ⟨vb, hvb⟩ : ∃ vb, vb = chV m := ⟨_, rfl⟩
 have hkb2 : kb = keyB (aroundT y 4000).toNat := by rw [hkb, hy]; rfl
 rw [← hy] at HAR HKEY
 rw [← hkb2] at HKEY
 rw [← hvb] at HVAL
 have HKS : Hid (kb.size ≤ 60) := Lib.hid (by rw [hkb, chK_size]; omega)
 have HVS : Hid (vb.size ≤ 1000) := Lib.hid (by rw [hvb]; exact chV_size m)
 have HDEL : Hid (m.kind % 2 = 1 → chL (treeL t) m most = delL (treeL t) kb) := Lib.hid (fun h => by unfold chL; rw [if_pos h, hkb])
 have HINS : Hid (¬ m.kind % 2 = 1 → chL (treeL t) m most = insL (treeL t) ⟨kb, vb⟩) := Lib.hid (fun h => by unfold chL; rw [if_neg h, hkb, hvb])
 obtain ⟨r, hr⟩ : ∃ r : Nat, m.kind % 2 = (r : Int) := ⟨(m.kind % 2).toNat, by have := hm.1; omega⟩
 have hr2 : m.kind.tmod 2 = (r : Int) := by rw [Int.tmod_eq_emod_of_nonneg hm.1.1]; exact hr
 have HR := Lib.hid hr
 have hr3 : r = 0 ∨ r = 1 := by have := hm.1; omega
 have ho : ∀ u : World, (u.alloc (.cells #[.int .u8 m.kind, .int .i64 m.key, .int .u8 m.val] 29)).rangeAt u.heap.size 0 m.cells := fun u j v hj => by
  rw [Nat.zero_add, cell_of_row _ u.heap.size j _ _ _ (World.alloc_heap_new u _)]
  simpa [OpM.cells] using hj
 have HO := Lib.hid ho
 have hmk := hm.1
 unfold OpM.agg at HVAL ⊢
 obtain ⟨K, hK⟩ : ∃ K, K = m.kind := ⟨_, rfl⟩
 obtain ⟨X, hX⟩ : ∃ X, X = m.key := ⟨_, rfl⟩
 obtain ⟨V, hV⟩ : ∃ V, V = m.val := ⟨_, rfl⟩
 have HC := Lib.hid (show m.cells = [.int .u8 K, .int .i64 X, .int .u8 V] by rw [hK, hX, hV]; rfl)
 rw [← hK] at hr hr2 hmk
 rw [← hX] at HAR
 rw [← hK, ← hX, ← hV] at HVAL HO ⊢
 have HLD : Hid (∀ (w2 : World) (b : Nat), w2.rangeAt b 0 m.cells → (loadOpA (.pointer (some ⟨b, 0, none⟩))).run Try.prog w2 = .ok (.value (.agg #[.int .u8 K, .int .i64 X, .int .u8 V])) w2) := Lib.hid (fun w2 b h => by rw [hK, hX, hV]; exact run_loadOp h)
 clear ht hlen hm hbd h0 h63 hy hkb hvb hkb2 hK hX hV ho
 go_enter Try.func13, Try.ntmps13
 obtain ⟨w1, hw1⟩ : ∃ w1, w1 = w.alloc (.cells #[.int .u8 K, .int .i64 X, .int .u8 V] 29) := ⟨_, rfl⟩
 have hal : Below w.heap.size w w1 := by rw [hw1]; exact (Below.refl _ w).alloc (Nat.le_refl _) _
 have HAL := Lib.hid hal
 have HRO : Hid (w1.rangeAt w.heap.size 0 m.cells) := Lib.hid (by rw [hw1]; exact HO.out w)
 go_upto_region 1 with fail
 rw [← hw1]
 have c1 : w1.cell? ⟨w.heap.size, 1, none⟩ = some (.int .i64 X) := by have := HRO.out 1 (.int .i64 X) (by rw [HC.out]; rfl); rwa [Nat.zero_add] at this
 clear hw1 hal HO
 go_upto_region 2 with (first
  | (go_at_call 16; refine (HAR.out _).mono ?_; rintro e w2 ⟨rfl, rfl⟩)
  | (go_at_call 15; refine (HKEY.out _).mono ?_; rintro e w2 ⟨rfl, hb2⟩; have HB2 := Lib.hid hb2; clear hb2))
 clear c1
 have hro : w2.rangeAt w.heap.size 0 m.cells := range_below HRO.out (by rw [OpM.cells_len]; omega) HB2.out
 have c0 : w2.cell? ⟨w.heap.size, 0, none⟩ = some (.int .u8 K) := by have := hro 0 (.int .u8 K) (by rw [HC.out]; rfl); rwa [Nat.zero_add] at this
 have ldo := HLD.out _ _ hro
 have HT2 : Hid (TT w2 g t H) := Lib.hid ((HT.out.under HAL.out).under HB2.out)
 have HBW : Hid (Below w.heap.size w w2) := Lib.hid (HAL.out.trans (HB2.out.mono HAL.out.size))
 clear hro
 rcases hr3 with rfl | rfl
 ·go_wp2_with (first
   | (go_at_call 44; refine (HVAL.out _).mono ?_; rintro e w3 ⟨rfl, hb3⟩; have HB3 := Lib.hid hb3; clear hb3)
   | (go_at_call 25; refine (put_tree (HT2.out.under HB3.out) (Nat.le_trans HLEN.out (by omega)) kb vb HKS.out HVS.out).mono ?_; rintro e w4 ⟨g4, t4, H4, rfl, ht4, hl4, -, hc4, hb4⟩; have HT4 := Lib.hid ht4; have HL4 := Lib.hid hl4; have HC4 := Lib.hid hc4; have HB4 := Lib.hid hb4; clear ht4 hl4 hc4 hb4))
  go_ret
  exact ⟨g4, t4, H4, rfl, HT4.out, by rw [HL4.out, HINS.out (by rw [HR.out]; decide)], HC4.out, HBW.out.trans ((HB3.out.trans (HB4.out.mono HB3.out.size)).mono HBW.out.size)⟩
 ·go_wp2_with (first
   | (go_at_call 27; refine (del_tree HT2.out (Nat.le_trans HLEN.out (by omega)) kb).mono ?_; rintro e w4 ⟨g4, t4, H4, rfl, ht4, hl4, -, hc4, hb4⟩; have HT4 := Lib.hid ht4; have HL4 := Lib.hid hl4; have HC4 := Lib.hid hc4; have HB4 := Lib.hid hb4; clear ht4 hl4 hc4 hb4))
  go_ret
  exact ⟨g4, t4, H4, rfl, HT4.out, by rw [HL4.out, HDEL.out (by rw [HR.out]; decide)], HC4.out, HBW.out.trans (HB4.out.mono HBW.out.size)⟩
end Go.Proofs.Ytfgmhidgkemfoaa
namespace Go.Proofs.Ytfgmhidgkemfoaa
open Go.RowKit
set_option linter.unusedSimpArgs false
set_option linter.unusedVariables false
attribute [local go_sem ↓] exec_loadOp exec_at_zeroP exec_at_succP Go.wp_at_zero Go.wp_at_succ
attribute [local go_sem] run_boxOp
def Put1R (D : Nat → Prop) (w : World) (ps : List KV) (m : OpM) (most : Int) (e : Ending) (w' : World) : Prop := ∃ a n c, e = .returned (.slice a n c) ∧ Ps (fun b => D b ∨ w.heap.size ≤ b) w' a n c (chL ps m most) ∧ Below w.heap.size w w'
set_option maxRecDepth 100000 in
set_option maxHeartbeats 2000000 in
theorem put1_any {D : Nat → Prop} {w : World} {a : Option Addr} {n c : Nat} {ps : List KV} (hp : Ps D w a n c ps) (hs : Sorted ps) (hn : n ≤ 100000) (m : OpM) (hm : OpOk m) (most : Int) (h0 : 0 < most) (h63 : most ≤ 1000000) :
  Calls Try.prog 14 #[.slice a n c, m.agg, .int .i64 most] w (Put1R D w ps m most) := by
 have HVAL := Lib.hid (fun u => value_any m hm u)
 have hbd := aroundT_bd m.key most h0
 have HAR := Lib.hid (fun u => aroundT_any m.key most u hm.2.1.1 hm.2.1.2 h0 (by omega))
 have HKEY := Lib.hid (fun u => key_any (aroundT m.key most) (by omega) (by omega) u)
 have HP := Lib.hid hp
 have HSO := Lib.hid hs
 have HLEN := Lib.hid hn
 obtain ⟨y, hy⟩ : ∃ y, y = aroundT m.key most := ⟨_, rfl⟩
 obtain ⟨kb, hkb⟩ : ∃ kb, kb = chK m most := ⟨_, rfl⟩
 obtain ⟨vb, hvb⟩ : ∃ vb, vb = chV m := ⟨_, rfl⟩
 have hkb2 : kb = keyB (aroundT y 4000).toNat := by rw [hkb, hy]; rfl
 rw [← hy] at HAR HKEY
 rw [← hkb2] at HKEY
 rw [← hvb] at HVAL
 have HKS : Hid (kb.size ≤ 60) := Lib.hid (by rw [hkb, chK_size]; omega)
 have HVS : Hid (vb.size ≤ 1000) := Lib.hid (by rw [hvb]; exact chV_size m)
 have HDEL : Hid (m.kind % 2 = 1 → chL ps m most = delL ps kb) := Lib.hid (fun h => by unfold chL; rw [if_pos h, hkb])
 have HINS : Hid (¬ m.kind % 2 = 1 → chL ps m most = insL ps ⟨kb, vb⟩) := Lib.hid (fun h => by unfold chL; rw [if_neg h, hkb, hvb])
 obtain ⟨r, hr⟩ : ∃ r : Nat, m.kind % 2 = (r : Int) := ⟨(m.kind % 2).toNat, by have := hm.1; omega⟩
 have hr2 : m.kind.tmod 2 = (r : Int) := by rw [Int.tmod_eq_emod_of_nonneg hm.1.1]; exact hr
 have HR := Lib.hid hr
 have hr3 : r = 0 ∨ r = 1 := by have := hm.1; omega
 have ho : ∀ u : World, (u.alloc (.cells #[.int .u8 m.kind, .int .i64 m.key, .int .u8 m.val] 29)).rangeAt u.heap.size 0 m.cells := fun u j v hj => by
  rw [Nat.zero_add, cell_of_row _ u.heap.size j _ _ _ (World.alloc_heap_new u _)]
  simpa [OpM.cells] using hj
 have HO := Lib.hid ho
 have hmk := hm.1
 unfold OpM.agg at HVAL ⊢
 obtain ⟨K, hK⟩ : ∃ K, K = m.kind := ⟨_, rfl⟩
 obtain ⟨X, hX⟩ : ∃ X, X = m.key := ⟨_, rfl⟩
 obtain ⟨V, hV⟩ : ∃ V, V = m.val := ⟨_, rfl⟩
 have HC := Lib.hid (show m.cells = [.int .u8 K, .int .i64 X, .int .u8 V] by rw [hK, hX, hV]; rfl)
 rw [← hK] at hr hr2 hmk
 rw [← hX] at HAR
 rw [← hK, ← hX, ← hV] at HVAL HO ⊢
 have HLD : Hid (∀ (w2 : World) (b : Nat), w2.rangeAt b 0 m.cells → (loadOpA (.pointer (some ⟨b, 0, none⟩))).run Try.prog w2 = .ok (.value (.agg #[.int .u8 K, .int .i64 X, .int .u8 V])) w2) := Lib.hid (fun w2 b h => by rw [hK, hX, hV]; exact run_loadOp h)
 clear hp hs hn hm hbd h0 h63 hy hkb hvb hkb2 hK hX hV ho
 go_enter Try.func14, Try.ntmps14
 obtain ⟨w1, hw1⟩ : ∃ w1, w1 = w.alloc (.cells #[.int .u8 K, .int .i64 X, .int .u8 V] 29) := ⟨_, rfl⟩
 have hal : Below w.heap.size w w1 := by rw [hw1]; exact (Below.refl _ w).alloc (Nat.le_refl _) _
 have HAL := Lib.hid hal
 have HRO : Hid (w1.rangeAt w.heap.size 0 m.cells) := Lib.hid (by rw [hw1]; exact HO.out w)
 go_upto_region 1 with fail
 rw [← hw1]
 have c1 : w1.cell? ⟨w.heap.size, 1, none⟩ = some (.int .i64 X) := by have := HRO.out 1 (.int .i64 X) (by rw [HC.out]; rfl); rwa [Nat.zero_add] at this
 clear hw1 hal HO
 go_upto_region 2 with (first
  | (go_at_call 16; refine (HAR.out _).mono ?_; rintro e w2 ⟨rfl, rfl⟩)
  | (go_at_call 15; refine (HKEY.out _).mono ?_; rintro e w2 ⟨rfl, hb2⟩; have HB2 := Lib.hid hb2; clear hb2))
 clear c1
 have hro : w2.rangeAt w.heap.size 0 m.cells := range_below HRO.out (by rw [OpM.cells_len]; omega) HB2.out
 have c0 : w2.cell? ⟨w.heap.size, 0, none⟩ = some (.int .u8 K) := by have := hro 0 (.int .u8 K) (by rw [HC.out]; rfl); rwa [Nat.zero_add] at this
 have ldo := HLD.out _ _ hro
 have HP2 : Hid (Ps D w2 a n c ps) := Lib.hid ((HP.out.below HAL.out).below HB2.out)
 have HBW : Hid (Below w.heap.size w w2) := Lib.hid (HAL.out.trans (HB2.out.mono HAL.out.size))
 clear hro
 rcases hr3 with rfl | rfl
 ·go_wp2_with (first
   | (go_at_call 44; refine (HVAL.out _).mono ?_; rintro e w3 ⟨rfl, hb3⟩; have HB3 := Lib.hid hb3; clear hb3)
   | (go_at_call 26; refine (refPut_any (HP2.out.below HB3.out) (Nat.le_trans HLEN.out (by omega)) kb vb (Nat.lt_of_le_of_lt HKS.out (by omega)) (Nat.lt_of_le_of_lt HVS.out (by omega))).mono ?_; rintro e w4 ⟨a4, n4, c4, rfl, hp4, hb4⟩; have HP4 := Lib.hid hp4; have HB4 := Lib.hid hb4; clear hp4 hb4))
  go_ret
  refine ⟨a4, n4, c4, rfl, ?_, HBW.out.trans ((HB3.out.trans (HB4.out.mono HB3.out.size)).mono HBW.out.size)⟩
  have h := HP4.out
  rw [putR_ins HSO.out kb vb ⟨HKS.out, HVS.out⟩] at h
  rw [HINS.out (by rw [HR.out]; decide)]
  exact h.dom (fun b hb => hb.imp id (fun h => by have := HBW.out.size; have := HB3.out.size; omega))
 ·go_wp2_with (go_at_call 28; refine (refDelete_any HP2.out (Nat.le_trans HLEN.out (by omega)) kb).mono ?_; rintro e w4 ⟨v4, rfl, hr4, hb4⟩; obtain ⟨a4, n4, c4, rfl, hp4⟩ := Ps.row hr4; have HP4 := Lib.hid hp4; have HB4 := Lib.hid hb4; clear hp4 hb4 hr4)
  go_ret
  refine ⟨a4, n4, c4, rfl, ?_, HBW.out.trans (HB4.out.mono HBW.out.size)⟩
  have h := HP4.out
  rw [delR_del] at h
  rw [HDEL.out (by rw [HR.out]; decide)]
  exact h.dom (fun b hb => .inr (Nat.le_trans HBW.out.size hb))
def chLs (most : Int) (l : List KV) (ms : List OpM) : List KV := ms.foldl (fun l m => chL l m most) l
theorem chLs_sorted (most : Int) : ∀ (ms : List OpM) {l : List KV}, Sorted l → Sorted (chLs most l ms)
 | [], l, h => h
 | m :: ms, l, h => chLs_sorted most ms (chL_sorted h m most)
theorem chLs_len (most : Int) : ∀ (ms : List OpM) {l : List KV}, Sorted l → (chLs most l ms).length ≤ l.length + ms.length
  | [], l, h => Nat.le_refl _
  | m :: ms, l, h => by
    have h1 := chLs_len most ms (chL_sorted h m most)
    have h2 := chL_len h m most
    rw [List.length_cons]
    show (chLs most (chL l m most) ms).length ≤ _
    omega
theorem chLs_snoc (most : Int) (l : List KV) (ms : List OpM) (m : OpM) : chLs most l (ms ++ [m]) = chL (chLs most l ms) m most := by unfold chLs; rw [List.foldl_append]; rfl
def Built (w : World) (ms : List OpM) (most : Int) (e : Ending) (W' : World) : Prop := ∃ g t H a n c, e = .returned (.tuple #[.pointer (some ⟨g, 0, none⟩), .slice a n c, .bool true]) ∧ TP w.heap.size W' g t H a n c ∧ treeL t = chLs most [] ms ∧ Below w.heap.size w W'
set_option maxRecDepth 100000 in
set_option maxHeartbeats 4000000 in
theorem built_any {D : Nat → Prop} {w : World} {a : Option Addr} {n c : Nat} {ms : List OpM} (h : Ops D w a n c ms) (hn : n ≤ 1000) (most : Int) (h0 : 0 < most) (h63 : most ≤ 1000000) :
  Calls Try.prog 24 #[.slice a n c, .int .i64 most] w (Built w ms most) := by
 have HO := Lib.hid h
 have HL := Lib.hid h.1
 have HCH : Hid (∀ (u : World) (g : Nat) (t : Option BT) (H : Nat) (m : OpM), TT u g t H → (treeL t).length ≤ 100000 → OpOk m → Calls Try.prog 13 #[.pointer (some ⟨g, 0, none⟩), m.agg, .int .i64 most] u (ChgT u t H m most)) := Lib.hid (fun u g t H m ht hl hm => change_any ht hl m hm most h0 h63)
 have HP1 : Hid (∀ (u : World) (D : Nat → Prop) (a : Option Addr) (n c : Nat) (ps : List KV) (m : OpM), Ps D u a n c ps → Sorted ps → n ≤ 100000 → OpOk m → Calls Try.prog 14 #[.slice a n c, m.agg, .int .i64 most] u (Put1R D u ps m most)) := Lib.hid (fun u D a n c ps m hp hs hn hm => put1_any hp hs hn m hm most h0 h63)
 have hc1 := h.2.1.2.1
 have hc2 : c ≤ 9223372036854775807 := h.2.1.2.2.1
 clear h h0 h63
 go_enter Try.func24, Try.ntmps24
 go_wp2_with (go_at_call 12; refine (new_any _).mono ?_; rintro e w1 ⟨g0, rfl, ht0, hg0, hb0⟩; have HT0 := Lib.hid ht0; have HB0 := Lib.hid hb0; clear ht0 hb0 hg0)
 go_loopw [7, 8, 9] (fun u v x wr => ∃ (i g : Nat) (t : Option BT) (H : Nat) (a2 : Option Addr) (m c2 : Nat), u = .pointer (some ⟨g, 0, none⟩) ∧ v = .slice a2 m c2 ∧ x = .int .i64 (i : Int) ∧ i ≤ n ∧ TP w.heap.size wr g t H a2 m c2 ∧ treeL t = chLs most [] (ms.take i) ∧ Below w.heap.size w wr) (fun _ _ x _ => n - (intOf x).toNat)
 case atStart => exact ⟨0, g0, none, 0, none, 0, 0, rfl, rfl, rfl, Nat.zero_le _, ⟨HT0.out, Ps.nil _ _⟩, rfl, HB0.out⟩
 case round =>
  obtain ⟨i, g, t, H, a2, m2, c2, rfl, rfl, rfl, hi, htp, hl, hb⟩ := hrel
  have HTP := Lib.hid htp
  have HLT := Lib.hid hl
  have HB := Lib.hid hb
  have HLEN : Hid ((treeL t).length ≤ 1000) := Lib.hid (by rw [hl]; have := chLs_len most (ms.take i) (l := []) List.Pairwise.nil; rw [List.length_take] at this; simp at this; omega)
  clear htp hl hb
  by_cases hlt : i < n
  ·have hlt2 : (i : Int) < (n : Int) := by omega
   have hil : i < ms.length := by rw [HL.out]; exact hlt
   obtain ⟨b, off, -, hbs, rfl, hcell⟩ := (HO.out.below HB.out).at (by omega)
   have hr := hcell i hil
   obtain ⟨o, ho⟩ : ∃ o, o = ms[i]'hil := ⟨_, rfl⟩
   have HOK : Hid (OpOk o) := Lib.hid (by rw [ho]; exact HO.out.2.2 _ (List.getElem_mem hil))
   have HTK : Hid (ms.take (i + 1) = ms.take i ++ [o]) := Lib.hid (by rw [List.take_succ_eq_append_getElem hil, ho])
   rw [← ho] at hr
   obtain ⟨ob, hob⟩ : ∃ ob, ob = off + i * 3 := ⟨_, rfl⟩
   rw [← hob] at hr
   have hob2 : off + i * 3 = ob := hob.symm
   have HR := Lib.hid hr
   have ldo := run_loadOp hr
   have HLTi := Lib.hid hlt
   have hwi : IntKind.i64.wrap ((i : Int) + 1) = (i : Int) + 1 := i64_id _ (by omega) (by omega)
   clear hcell hr ho hob hlt hil hbs
   go_upto_region 7 with (go_at_call 13; refine (HCH.out _ _ _ _ o HTP.out.tt (Nat.le_trans HLEN.out (by omega)) HOK.out).mono ?_; rintro e w3 ⟨g3, t3, H3, rfl, ht3, hl3, -, hb3⟩; have HT3 := Lib.hid ht3; have HL3 := Lib.hid hl3; have HB3 := Lib.hid hb3; clear ht3 hl3 hb3)
   clear ldo
   have ldo := run_loadOp (range_below HR.out (by rw [OpM.cells_len]; omega) HB3.out)
   go_wp2_with (go_at_call 14; refine (HP1.out _ _ _ _ _ _ o (HTP.out.pp.below HB3.out) HTP.out.tt.so (by have := HTP.out.pp.1; have := HLEN.out; omega) HOK.out).mono ?_; rintro e w4 ⟨a4, m4, c4, rfl, hp4, hb4⟩; have HP4 := Lib.hid hp4; have HB4 := Lib.hid hb4; clear hp4 hb4)
   go_roundw
   case rel =>
    refine ⟨i + 1, g3, t3, H3, a4, m4, c4, rfl, rfl, by go_num, by have := HLTi.out; omega, ⟨HT3.out.under HB4.out, ?_⟩, ?_, ?_⟩
    ·have h := HP4.out
     rw [← HL3.out] at h
     refine h.dom (fun b hb => hb.elim id (fun h2 => Nat.le_trans ?_ h2))
     have := HB.out.size; have := HB3.out.size
     omega
    ·rw [HL3.out, HLT.out, HTK.out, chLs_snoc]
    ·exact HB.out.trans ((HB3.out.trans (HB4.out.mono HB3.out.size)).mono HB.out.size)
   case measure => (try go_num); (try (simp only [intOf])); have := HLTi.out; omega
  ·have hge : ¬ (i : Int) < (n : Int) := by omega
   have HE : Hid (treeL t = chLs most [] ms) := Lib.hid (by rw [HLT.out, show i = ms.length by have := HL.out; omega, List.take_length])
   clear hlt
   go_wp2
   refine bodyPost_ret (results_tmp3 rfl _ _ _) rfl ?_
   exact ⟨g, t, H, a2, m2, c2, rfl, HTP.out, HE.out, HB.out⟩
theorem Ops.upto {D : Nat → Prop} {w : World} {a : Option Addr} {n c : Nat} {ms : List OpM} (h : Ops D w a n c ms) (k : Nat) (hk : k ≤ n) : Ops D w a k c (ms.take k) := by
 obtain ⟨h1, ⟨h2, h3, h4, h5, h6⟩, h7⟩ := h
 have e : opcells (ms.take k) = (opcells ms).take (k * 3) := by
  conv => rhs; rw [← List.take_append_drop k ms]
  have e2 : opcells (ms.take k ++ ms.drop k) = opcells (ms.take k) ++ opcells (ms.drop k) := by unfold opcells; rw [List.flatMap_append]
  have e3 : (opcells (ms.take k)).length = k * 3 := by rw [opcells_len, List.length_take]; congr 1; omega
  rw [e2, ← e3, List.take_left]
 refine ⟨by rw [List.length_take]; omega, ⟨by rw [opcells_len, List.length_take]; congr 1; omega, by omega, h4, h5, fun hp => ?_⟩, fun m hm => h7 m (List.mem_of_mem_take hm)⟩
 obtain ⟨b, off, hD, ha, hr⟩ := h6 (by omega)
 refine ⟨b, off, hD, ha, fun j u hu => hr j u ?_⟩
 rw [e, List.getElem?_take] at hu
 split at hu
 ·exact hu
 ·cases hu
theorem put_all {w : World} {g : Nat} {t : Option BT} {H : Nat} (h : TT w g t H) (hlen : (treeL t).length ≤ 1000000) (key value : ByteArray) :
  Calls Try.prog 25 #[.pointer (some ⟨g, 0, none⟩), .string key, .string value] w fun e w' => ∃ g' t' H', e = .returned (.pointer (some ⟨g', 0, none⟩)) ∧ TT w' g' t' H' ∧ treeL t' = putR (treeL t) key value ∧ Below w.heap.size w w' := by
 by_cases hok : key.size ≤ 60 ∧ value.size ≤ 1000
 ·refine (put_tree h hlen key value hok.1 hok.2).mono ?_
  rintro e w' ⟨g', t', H', rfl, h1, h2, -, -, h3⟩
  exact ⟨g', t', H', rfl, h1, by rw [h2, putR_ins h.so key value hok], h3⟩
 ·refine (put_bad key value hok).mono ?_
  rintro e w' ⟨rfl, rfl⟩
  exact ⟨g, t, H, rfl, h, by rw [putR_bad _ _ _ hok], Below.refl _ _⟩
end Go.Proofs.Ytfgmhidgkemfoaa
namespace Go.Proofs.Ytfgmhidgkemfoaa
open Go.RowKit
set_option linter.unusedSimpArgs false
set_option linter.unusedVariables false
theorem cmpK_self (a : ByteArray) : cmpK a a = 0 := (cmpK_eq a a).2 rfl
theorem sorted_ext : ∀ {l1 l2 : List KV}, Sorted l1 → Sorted l2 → (∀ p, p ∈ l1 ↔ p ∈ l2) → l1 = l2
  | [], [], _, _, _ => rfl
  | [], b :: r, _, _, h => by have := (h b).2 (List.mem_cons_self ..); cases this
  | a :: r, [], _, _, h => by have := (h a).1 (List.mem_cons_self ..); cases this
  | a :: r1, b :: r2, h1, h2, h => by
    obtain ⟨ha, hs1⟩ := sorted_cons.1 h1
    obtain ⟨hb, hs2⟩ := sorted_cons.1 h2
    have hab : a = b := by
      rcases List.mem_cons.1 ((h a).1 (List.mem_cons_self ..)) with e | e
      · exact e
      · rcases List.mem_cons.1 ((h b).2 (List.mem_cons_self ..)) with e2 | e2
        · exact e2.symm
        · have x := hb a e
          have y := ha b e2
          have z := cmpK_flip a.k b.k
          omega
    subst hab
    rw [sorted_ext hs1 hs2 (fun p => ⟨fun hp => by
      rcases List.mem_cons.1 ((h p).1 (List.mem_cons_of_mem _ hp)) with e | e
      · have := ha p hp; rw [e, cmpK_self] at this; omega
      · exact e, fun hp => by
      rcases List.mem_cons.1 ((h p).2 (List.mem_cons_of_mem _ hp)) with e | e
      · have := hb p hp; rw [e, cmpK_self] at this; omega
      · exact e⟩)]
theorem diffR_self : ∀ l : List KV, diffR l l = []
  | [] => by rw [diffR]
  | a :: l => by
    rw [diffR, if_neg (by rw [cmpK_self]; omega), if_neg (by rw [cmpK_self]; omega), if_pos rfl, diffR_self l]
    rfl
theorem mem_insL {l : List KV} {p q : KV} : p ∈ insL l q ↔ p = q ∨ (p ∈ l ∧ p.k ≠ q.k) := by
 unfold insL
 rw [List.mem_append, List.mem_cons, List.mem_filter, List.mem_filter]
 have h : p.k ≠ q.k ↔ (cmpK p.k q.k < 0 ∨ 0 < cmpK p.k q.k) := by
  rw [Ne, ← cmpK_eq]
  omega
 rw [h]
 simp only [decide_eq_true_eq]
 constructor
 ·rintro (⟨h1, h2⟩ | h1 | ⟨h1, h2⟩)
  ·exact .inr ⟨h1, .inl h2⟩
  ·exact .inl h1
  ·exact .inr ⟨h1, .inr h2⟩
 ·rintro (h1 | ⟨h1, h2 | h2⟩)
  ·exact .inr (.inl h1)
  ·exact .inl ⟨h1, h2⟩
  ·exact .inr (.inr ⟨h1, h2⟩)
theorem mem_delL {l : List KV} {p : KV} {key : ByteArray} : p ∈ delL l key ↔ p ∈ l ∧ p.k ≠ key := by
 unfold delL
 rw [List.mem_filter]
 simp
theorem u8_inj {a b : Nat} (ha : a < 256) (hb : b < 256) (h : UInt8.ofNat a = UInt8.ofNat b) : a = b := by
 have := congrArg UInt8.toNat h
 simp [UInt8.toNat_ofNat'] at this
 omega
theorem keyB_inj {a b : Nat} (ha : a < 4000) (hb : b < 4000) (h : keyB a = keyB b) : a = b := by
 unfold keyB at h
 have h1 : (#[UInt8.ofNat (97 + a % 20), UInt8.ofNat (97 + a / 20 % 20), UInt8.ofNat (48 + a / 400)] : Array UInt8) = #[UInt8.ofNat (97 + b % 20), UInt8.ofNat (97 + b / 20 % 20), UInt8.ofNat (48 + b / 400)] := congrArg ByteArray.data h
 have h2 := congrArg Array.toList h1
 simp only [List.cons.injEq, and_true] at h2
 obtain ⟨e1, e2, e3⟩ := h2
 have e1 := u8_inj (by omega) (by omega) e1
 have e2 := u8_inj (by omega) (by omega) e2
 have e3 := u8_inj (by omega) (by omega) e3
 omega
def vB : ByteArray := ⟨#[118]⟩
def kvj (j : Nat) : KV := ⟨keyB j, vB⟩
theorem inv256a : ∀ s, s < 60 → (2 * s + 1) * ((2 * s + 1) ^ 63 % 256) % 256 = 1 := by decide
theorem inv256 (s : Nat) (h : s < 60) : ∃ t, t < 256 ∧ (2 * s + 1) * t % 256 = 1 := ⟨(2 * s + 1) ^ 63 % 256, Nat.mod_lt _ (by decide), inv256a s h⟩
theorem met (s j : Nat) (hs : s < 60) (hj : j < 256) : ∃ i, i < 256 ∧ i * (2 * s + 1) % 256 = j := by
 obtain ⟨t, ht, h⟩ := inv256 s hs
 refine ⟨j * t % 256, Nat.mod_lt _ (by decide), ?_⟩
 rw [Nat.mod_mul_mod, show j * t * (2 * s + 1) = j * ((2 * s + 1) * t) by rw [Nat.mul_assoc, Nat.mul_comm t], Nat.mul_mod, h, Nat.mul_one, Nat.mod_mod, Nat.mod_eq_of_lt hj]
end Go.Proofs.Ytfgmhidgkemfoaa
namespace Go.Proofs.Ytfgmhidgkemfoaa
open Go.RowKit
set_option linter.unusedSimpArgs false
set_option linter.unusedVariables false
def aplE (l : List KV) (e : ED) : List KV := if e.d then delL l e.k else putR l e.k e.v
def SmallL (l : List KV) : Prop := ∀ p ∈ l, p.k.size ≤ 60 ∧ p.v.size ≤ 1000
theorem chL_small {l : List KV} (h : SmallL l) (m : OpM) (most : Int) : SmallL (chL l m most) := by
 intro p hp
 unfold chL at hp
 split at hp
 ·exact h p (mem_delL.1 hp).1
 ·rcases mem_insL.1 hp with rfl | ⟨h1, _⟩
  ·exact ⟨by show (chK m most).size ≤ 60; rw [chK_size]; omega, chV_size m⟩
  ·exact h p h1
theorem chLs_small (most : Int) : ∀ (ms : List OpM) {l : List KV}, SmallL l → SmallL (chLs most l ms)
 | [], l, h => h
 | m :: ms, l, h => chLs_small most ms (chL_small h m most)
theorem apl_set {l : List KV} (hs : Sorted l) (p : KV) (hp : p.k.size ≤ 60 ∧ p.v.size ≤ 1000) : aplE l (setE p) = insL l p := by
 unfold aplE setE
 simp only
 exact putR_ins hs p.k p.v hp
theorem apl_rem (l : List KV) (p : KV) : aplE l (remE p) = delL l p.k := rfl
theorem sorted_mid {P S : List KV} {q : KV} (h : Sorted (P ++ q :: S)) : Sorted ((P ++ [q]) ++ S) := by rw [List.append_assoc]; exact h
theorem apply_diff : ∀ (a b P : List KV), Sorted (P ++ a) → Sorted (P ++ b) → SmallL b → (diffR a b).foldl aplE (P ++ a) = P ++ b
  | [], [], P, _, _, _ => by rw [diffR]; rfl
  | a :: xs, [], P, ha, hb, hs => by
    rw [diffR, List.foldl_cons, apl_rem, delL_old ha]
    exact apply_diff xs [] P (ha.sublist (List.Sublist.append_left (List.sublist_cons_self _ _) _)) hb hs
  | [], b :: bs, P, ha, hb, hs => by
    have hP : ∀ x ∈ P, cmpK x.k b.k < 0 := fun x hx => (sorted_app.1 hb).2.2 x hx b (List.mem_cons_self ..)
    rw [diffR, List.foldl_cons, apl_set ha b (hs b (List.mem_cons_self ..)), insL_new hP (fun x hx => by cases hx)]
    have h := apply_diff [] bs (P ++ [b]) (by rw [List.append_nil]; exact hb.sublist (List.Sublist.append_left (List.cons_sublist_cons.2 (List.nil_sublist _)) _)) (sorted_mid hb) (fun p hp => hs p (List.mem_cons_of_mem _ hp))
    rw [List.append_nil, List.append_assoc] at h
    exact h
  | a :: xs, b :: bs, P, ha, hb, hs => by
    have hP : ∀ x ∈ P, cmpK x.k b.k < 0 := fun x hx => (sorted_app.1 hb).2.2 x hx b (List.mem_cons_self ..)
    have hsb : SmallL bs := fun p hp => hs p (List.mem_cons_of_mem _ hp)
    obtain ⟨hax, hsx⟩ := sorted_cons.1 (sorted_app.1 ha).2.1
    rw [diffR]
    by_cases h1 : cmpK a.k b.k < 0
    · rw [if_pos h1, List.foldl_cons, apl_rem, delL_old ha]
      exact apply_diff xs (b :: bs) P (ha.sublist (List.Sublist.append_left (List.sublist_cons_self _ _) _)) hb hs
    · rw [if_neg h1]
      by_cases h2 : cmpK b.k a.k < 0
      · have hgt : ∀ x ∈ a :: xs, 0 < cmpK x.k b.k := fun x hx => by
          have h3 : cmpK b.k x.k < 0 := by
            rcases List.mem_cons.1 hx with rfl | hx
            · exact h2
            · exact cmpK_trans h2 (hax x hx)
          have := cmpK_flip b.k x.k
          omega
        rw [if_pos h2, List.foldl_cons, apl_set ha b (hs b (List.mem_cons_self ..)), insL_new hP hgt]
        have hso : Sorted (P ++ b :: (a :: xs)) := by
          have := insL_sorted (p := b) ha
          rwa [insL_new hP hgt] at this
        have h := apply_diff (a :: xs) bs (P ++ [b]) (sorted_mid hso) (sorted_mid hb) hsb
        rw [List.append_assoc, List.append_assoc] at h
        exact h
      · have hk : a.k = b.k := by
          have h3 := cmpK_flip a.k b.k
          exact (cmpK_eq _ _).1 (by omega)
        have hgt : ∀ x ∈ xs, 0 < cmpK x.k b.k := fun x hx => by
          have h3 := hax x hx
          rw [hk] at h3
          have := cmpK_flip b.k x.k
          omega
        have hso : Sorted (P ++ b :: xs) := by
          have := insL_sorted (p := b) ha
          rwa [insL_old hP hgt hk] at this
        have h := apply_diff xs bs (P ++ [b]) (sorted_mid hso) (sorted_mid hb) hsb
        rw [List.append_assoc, List.append_assoc] at h
        rw [if_neg h2, List.foldl_append]
        by_cases hv : a.v = b.v
        · have e : a = b := KV.ext' hk hv
          rw [if_pos hv, e]
          exact h
        · rw [if_neg hv, List.foldl_cons, List.foldl_nil, apl_set ha b (hs b (List.mem_cons_self ..)), insL_old hP hgt hk]
          exact h
theorem apl_len (l : List KV) (hs : Sorted l) (e : ED) : (aplE l e).length ≤ l.length + 1 := by
 unfold aplE
 split
 ·exact Nat.le_trans (delL_le _ _) (by omega)
 ·by_cases hok : e.k.size ≤ 60 ∧ e.v.size ≤ 1000
  ·rw [putR_ins hs _ _ hok]; exact insL_len_le hs
  ·rw [putR_bad _ _ _ hok]; omega
theorem diffR_len : ∀ a b : List KV, (diffR a b).length ≤ a.length + b.length
  | [], [] => by rw [diffR]; simp
  | a :: xs, [] => by rw [diffR]; have := diffR_len xs []; simp at this ⊢; omega
  | [], b :: bs => by rw [diffR]; have := diffR_len [] bs; simp at this ⊢; omega
  | a :: xs, b :: bs => by
    rw [diffR]
    split
    · have := diffR_len xs (b :: bs); simp at this ⊢; omega
    · split
      · have := diffR_len (a :: xs) bs; simp at this ⊢; omega
      · have := diffR_len xs bs
        rw [List.length_append]
        have h2 : (if a.v = b.v then [] else [setE b]).length ≤ 1 := by split <;> simp
        simp only [List.length_cons]
        omega
end Go.Proofs.Ytfgmhidgkemfoaa
namespace Go.Proofs.Ytfgmhidgkemfoaa
open Go.RowKit
set_option linter.unusedSimpArgs false
set_option linter.unusedVariables false
attribute [local go_sem ↓] exec_loadOp exec_at_zeroP exec_at_succP Go.wp_at_zero Go.wp_at_succ
def Dtd25 : List (Option Tmp) := [some 92, some 93, some 94, some 95, some 96, some 97, some 98, some 99, some 100, some 101, some 102, some 103, some 14]
def Ltd25 : List (List Nat) := [[], [], [], [1, 2], [3], [4], [], [], [6, 7], [8], [9], [0, 5, 10], [11]]
set_option maxRecDepth 100000 in
set_option maxHeartbeats 4000000 in
theorem treediffs_any {D D2 : Nat → Prop} {w : World} {a a2 : Option Addr} {n c n2 c2 : Nat} {ms ms2 : List OpM} (h : Ops D w a n c ms) (h2 : Ops D2 w a2 n2 c2 ms2) (more : Bool) :
    Calls Try.prog 8 #[.slice a n c, .slice a2 n2 c2, .bool more] w fun e w' => e = .returned (.bool true) ∧ Below w.heap.size w w' := by
  obtain ⟨k0, hk0⟩ : ∃ k0, k0 = min n 30 := ⟨_, rfl⟩
  have hk0n : k0 ≤ n := by omega
  have HO := Lib.hid (h.upto k0 hk0n)
  have hc1 := h.2.1.2.1
  have hc2 : c ≤ 9223372036854775807 := h.2.1.2.2.1
  have hc3 := h2.2.1.2.1
  have hc4 : c2 ≤ 9223372036854775807 := h2.2.1.2.2.1
  have hmin : min (n : Int) 30 = (k0 : Int) := by omega
  have hkc : (k0 : Int) ≤ (c : Int) := by omega
  have HK0 : Hid (k0 ≤ 30) := Lib.hid (by omega)
  have HL0 := Lib.hid h.1
  have HO2 := Lib.hid h2
  have HL2 := Lib.hid h2.1
  have HBU : Hid (∀ u, Below w.heap.size w u → Calls Try.prog 24 #[.slice a k0 c, .int .i64 20] u (Built u (ms.take k0) 20)) := Lib.hid (fun u hu => built_any (HO.out.below hu) (Nat.le_trans HK0.out (by omega)) 20 (by omega) (by omega))
  have HCH : Hid (∀ (u : World) (g : Nat) (t : Option BT) (H : Nat) (m : OpM), TT u g t H → (treeL t).length ≤ 100000 → OpOk m → Calls Try.prog 13 #[.pointer (some ⟨g, 0, none⟩), m.agg, .int .i64 20] u (ChgT u t H m 20)) := Lib.hid (fun u g t H m ht hl hm => change_any ht hl m hm 20 (by omega) (by omega))
  have HP1 : Hid (∀ (u : World) (D : Nat → Prop) (a : Option Addr) (n c : Nat) (ps : List KV) (m : OpM), Ps D u a n c ps → Sorted ps → n ≤ 100000 → OpOk m → Calls Try.prog 14 #[.slice a n c, m.agg, .int .i64 20] u (Put1R D u ps m 20)) := Lib.hid (fun u D a n c ps m hp hs hn hm => put1_any hp hs hn m hm 20 (by omega) (by omega))
  clear h h2 hk0
  go_enter Try.func8, Try.ntmps8
  go_upto_region 2 with (go_at_call 24; refine (HBU.out _ (Below.refl _ _)).mono ?_; rintro e w1 ⟨gA, tA, HA, ap, np, cp, rfl, htp, hl, hb1⟩; have HTP := Lib.hid htp; have HLT := Lib.hid hl; have HB1 := Lib.hid hb1; clear htp hl hb1)
  clear hmin hkc HBU HO hk0n
  have HLA : Hid ((treeL tA).length ≤ 30) := Lib.hid (by
    rw [HLT.out]
    have h := chLs_len 20 (ms.take k0) (l := []) List.Pairwise.nil
    rw [List.length_take] at h
    simp only [List.length_nil] at h
    have := HK0.out
    omega)
  have HSA : Hid (SmallL (treeL tA)) := Lib.hid (by rw [HLT.out]; exact chLs_small 20 _ (fun p hp => by cases hp))
  go_upto_region 6 with (go_at_call 12; refine (new_any _).mono ?_; rintro e w2 ⟨g0, rfl, ht0, hg0, hb0⟩; have HT0 := Lib.hid ht0; have HB0 := Lib.hid hb0; clear ht0 hb0 hg0)
  have HTA2 := Lib.hid (HTP.out.below HB0.out)
  have HBW2 : Hid (Below w.heap.size w w2) := Lib.hid (HB1.out.trans (HB0.out.mono HB1.out.size))
  have HTN : Hid (TP w.heap.size w2 g0 none 0 none 0 0) := Lib.hid ⟨HT0.out, Ps.nil _ _⟩
  clear HTP HB1 HB0 HT0 HLT
  cases more
  all_goals (
    go_wp2_with fail
    go_loopw [10, 11, 12] (fun u v x wr => ∃ (i g : Nat) (t : Option BT) (H : Nat) (a3 : Option Addr) (m c3 : Nat), u = .pointer (some ⟨g, 0, none⟩) ∧ v = .slice a3 m c3 ∧ x = .int .i64 (i : Int) ∧ i ≤ n2 ∧ i ≤ 30 ∧ TP w.heap.size wr g t H a3 m c3 ∧ (treeL t).length ≤ 30 + i ∧ SmallL (treeL t) ∧ Below w2.heap.size w2 wr) (fun _ _ x _ => n2 - (intOf x).toNat)
    case atStart => first | exact ⟨0, g0, none, 0, none, 0, 0, rfl, rfl, rfl, Nat.zero_le _, Nat.zero_le _, HTN.out, Nat.zero_le _, (fun p hp => by cases hp), Below.refl _ _⟩ | exact ⟨0, gA, tA, HA, ap, np, cp, rfl, rfl, rfl, Nat.zero_le _, Nat.zero_le _, HTA2.out, HLA.out, HSA.out, Below.refl _ _⟩
    case round =>
      obtain ⟨i, g, t, H, a3, m3, c3, rfl, rfl, rfl, hi, hi30, htp, hl, hsm, hb⟩ := hrel
      have HTP := Lib.hid htp
      have HLI := Lib.hid hl
      have HB := Lib.hid hb
      have HSM := Lib.hid hsm
      clear htp hl hb hsm
      have hwi : IntKind.i64.wrap ((i : Int) + 1) = (i : Int) + 1 := i64_id _ (by omega) (by omega)
      by_cases hlt : i < n2 ∧ i < 30
      · have hlt2 : (i : Int) < (n2 : Int) := by omega
        have h30b : (i : Int) < 30 := by omega
        have hil : i < ms2.length := by rw [HL2.out]; exact hlt.1
        obtain ⟨b, off, -, hbs, rfl, hcell⟩ := (HO2.out.below (HBW2.out.trans (HB.out.mono HBW2.out.size))).at (by omega)
        have hr := hcell i hil
        obtain ⟨o, ho⟩ : ∃ o, o = ms2[i]'hil := ⟨_, rfl⟩
        have HOK : Hid (OpOk o) := Lib.hid (by rw [ho]; exact HO2.out.2.2 _ (List.getElem_mem hil))
        rw [← ho] at hr
        obtain ⟨ob, hob⟩ : ∃ ob, ob = off + i * 3 := ⟨_, rfl⟩
        rw [← hob] at hr
        have hob2 : off + i * 3 = ob := hob.symm
        have HR := Lib.hid hr
        have ldo := run_loadOp hr
        have HLTi := Lib.hid hlt
        clear hcell hr ho hob hlt hil hbs
        go_upto_region 13 with (go_at_call 13; refine (HCH.out _ _ _ _ o HTP.out.tt (by have := HLI.out; omega) HOK.out).mono ?_; rintro e w3 ⟨g3, t3, H3, rfl, ht3, hl3, -, hb3⟩; have HT3 := Lib.hid ht3; have HL3 := Lib.hid hl3; have HB3 := Lib.hid hb3; clear ht3 hl3 hb3)
        clear ldo
        have ldo := run_loadOp (range_below HR.out (by rw [OpM.cells_len]; omega) HB3.out)
        go_wp2_with (go_at_call 14; refine (HP1.out _ _ _ _ _ _ o (HTP.out.pp.below HB3.out) HTP.out.tt.so (by have := HTP.out.pp.1; have := HLI.out; omega) HOK.out).mono ?_; rintro e w4 ⟨a4, m4, c4, rfl, hp4, hb4⟩; have HP4 := Lib.hid hp4; have HB4 := Lib.hid hb4; clear hp4 hb4)
        go_roundw
        case rel =>
          refine ⟨i + 1, g3, t3, H3, a4, m4, c4, rfl, rfl, by go_num, by have := HLTi.out; omega, by have := HLTi.out; omega, ⟨HT3.out.under HB4.out, ?_⟩, ?_, ?_, HB.out.trans ((HB3.out.trans (HB4.out.mono HB3.out.size)).mono HB.out.size)⟩
          · have h := HP4.out
            rw [← HL3.out] at h
            exact h.dom (fun b hb => hb.elim id (fun h2 => by have := HBW2.out.size; have := HB.out.size; have := HB3.out.size; omega))
          · rw [HL3.out]; have := chL_len HTP.out.tt.so o 20; have := HLI.out; omega
          · rw [HL3.out]; exact chL_small HSM.out o 20
        case measure => (try go_num); (try (simp only [intOf])); have := HLTi.out; omega
      · have HLB : Hid ((treeL t).length ≤ 60) := Lib.hid (by have := HLI.out; omega)
        have HTA3 := Lib.hid (HTA2.out.below HB.out)
        have HBW3 : Hid (Below w.heap.size w wr) := Lib.hid (HBW2.out.trans (HB.out.mono HBW2.out.size))
        have HDF : Hid (Calls Try.prog 32 #[.pointer (some ⟨gA, 0, none⟩), .pointer (some ⟨g, 0, none⟩)] wr fun e W' => ∃ a n c, e = .returned (.slice a n c) ∧ Es (fun b => wr.heap.size ≤ b) W' a n c (diffR (treeL tA) (treeL t)) ∧ Below wr.heap.size wr W') := Lib.hid ((diff_any HTA3.out.tt HTP.out.tt (Nat.le_trans HLA.out (by omega)) (Nat.le_trans HLB.out (by omega))).mono (fun e W' h => by
          obtain ⟨v, rfl, hr, hb⟩ := h
          obtain ⟨a, n, c, rfl, hp⟩ := Es.row hr
          exact ⟨a, n, c, rfl, hp, hb⟩))
        have HRD : Hid (∀ u, Below wr.heap.size wr u → Calls Try.prog 34 #[.slice ap np cp, .slice a3 m3 c3] u fun e W' => ∃ a n c, e = .returned (.slice a n c) ∧ Es (fun b => u.heap.size ≤ b) W' a n c (diffR (treeL tA) (treeL t)) ∧ Below u.heap.size u W') := Lib.hid (fun u hu => (refDiff_any (HTA3.out.pp.below hu) (HTP.out.pp.below hu) (by have := HTA3.out.pp.1; have := HLA.out; omega) (by have := HTP.out.pp.1; have := HLB.out; omega)).mono (fun e W' h => by
          obtain ⟨v, rfl, hr, hb⟩ := h
          obtain ⟨a, n, c, rfl, hp⟩ := Es.row hr
          exact ⟨a, n, c, rfl, hp, hb⟩))
        have hpart : ¬ ((i : Int) < (n2 : Int) ∧ (i : Int) < 30) := by omega
        rcases Decidable.em (i < n2) with hA | hA
        case' inl =>
          have g1 : (i : Int) < (n2 : Int) := by omega
          have g2 : ¬ (i : Int) < 30 := by omega
          clear hlt hA hpart
          go_upto_region 16 with fail
          clear g1 g2
        case' inr =>
          have g1 : ¬ (i : Int) < (n2 : Int) := by omega
          clear hlt hA hpart
          go_upto_region 16 with fail
          clear g1
        all_goals (
          go_upto_region 20 with (first
            | (go_at_call 32; refine HDF.out.mono ?_; rintro e w5 ⟨ae, ne, ce, rfl, hes, hb5⟩; have HES := Lib.hid hes; have HB5 := Lib.hid hb5; clear hes hb5)
            | (go_at_call 34; refine (HRD.out _ HB5.out).mono ?_; rintro e w6 ⟨af, nf, cf, rfl, hfs, hb6⟩; have HFS := Lib.hid hfs; have HB6 := Lib.hid (HB5.out.trans (hb6.mono HB5.out.size)); have HES6 := Lib.hid (HES.out.below hb6); clear hfs hb6)
            | (go_at_call 33; have hse := sameE_any HES6.out HFS.out; rw [decide_eq_true rfl] at hse; refine hse.mono ?_; rintro e W ⟨rfl, hb7⟩; have HB7 := Lib.hid (HB6.out.trans (hb7.mono HB6.out.size)); have HESW := Lib.hid (HES6.out.below hb7); clear hb7))
          obtain ⟨es, hes⟩ : ∃ es, es = diffR (treeL tA) (treeL t) := ⟨_, rfl⟩
          rw [← hes] at HESW
          have HEL : Hid (es.length ≤ 90) := Lib.hid (by rw [hes]; have := diffR_len (treeL tA) (treeL t); have := HLA.out; have := HLB.out; omega)
          have HAPP : Hid (es.foldl aplE (treeL tA) = treeL t) := Lib.hid (by
            have h := apply_diff (treeL tA) (treeL t) [] HTA3.out.tt.so HTP.out.tt.so HSM.out
            rw [hes]
            exact h)
          have HTA4 := Lib.hid (HTA3.out.tt.under HB7.out)
          have HTB4 := Lib.hid (HTP.out.below HB7.out)
          have HBWW : Hid (Below w.heap.size w W) := Lib.hid (HBW3.out.trans (HB7.out.mono HBW3.out.size))
          have hne : ne = es.length := HESW.out.1.symm
          have hce := HESW.out.2.2.1
          have hcm : ce ≤ 9223372036854775807 := HESW.out.2.2.2.1
          have HNE := Lib.hid hne
          clear hne
          clear hes HDF HRD HES HES6 HFS HB5 HB6 HB7 HTA3 HTP HB HBW3 HCH HP1
          go_wp2_with fail
          go_loopw [14, 15] (fun u x wr => ∃ (i g : Nat) (t : Option BT) (H : Nat), u = .pointer (some ⟨g, 0, none⟩) ∧ x = .int .i64 (i : Int) ∧ i ≤ ne ∧ TT wr g t H ∧ treeL t = (es.take i).foldl aplE (treeL tA) ∧ (treeL t).length ≤ 60 + i ∧ Below W.heap.size W wr) (fun _ x _ => ne - (intOf x).toNat)
          case atStart => exact ⟨0, gA, tA, HA, rfl, rfl, Nat.zero_le _, HTA4.out, rfl, by have := HLA.out; omega, Below.refl _ _⟩
          case round =>
            obtain ⟨tB, htB⟩ : ∃ tB, tB = t := ⟨_, rfl⟩
            obtain ⟨gB, hgB⟩ : ∃ gB, gB = g := ⟨_, rfl⟩
            subst htB hgB
            obtain ⟨i, g, t, H, rfl, rfl, hi, ht, hl, hll, hb⟩ := hrel
            have HT := Lib.hid ht
            have HLT := Lib.hid hl
            have HLL := Lib.hid hll
            have HB := Lib.hid hb
            have HTL : Hid ((treeL t).length ≤ 1000000) := Lib.hid (by have := HEL.out; have := HNE.out; omega)
            have hne90 : ne ≤ 90 := by have := HEL.out; have := HNE.out; omega
            have hwi2 : IntKind.i64.wrap ((i : Int) + 1) = (i : Int) + 1 := i64_id _ (by omega) (by omega)
            clear ht hl hll hb
            by_cases hlt : i < ne
            · have hlt2 : (i : Int) < (ne : Int) := by omega
              have hil : i < es.length := by have := HNE.out; omega
              obtain ⟨be, oe, -, hbs, rfl, hcell⟩ := (HESW.out.below HB.out).at (by omega)
              have hr := hcell i hil
              obtain ⟨ed, hed⟩ : ∃ ed, ed = es[i]'hil := ⟨_, rfl⟩
              have HTK : Hid (es.take (i + 1) = es.take i ++ [ed]) := Lib.hid (by rw [List.take_succ_eq_append_getElem hil, hed])
              rw [← hed] at hr
              obtain ⟨pe, hpe⟩ : ∃ pe, pe = oe + i * 3 := ⟨_, rfl⟩
              rw [← hpe] at hr
              have hpe2 : oe + i * 3 = pe := hpe.symm
              have HPE : Hid (oe + i * 3 = pe) := Lib.hid hpe.symm
              have HIE : Hid ((i : Int) < (ne : Int)) := Lib.hid hlt2
              have HI0 : Hid (0 ≤ (i : Int)) := Lib.hid (by omega)
              have HC0 : Hid (wr.cell? ⟨be, pe, none⟩ = some (.string ed.k)) := Lib.hid (hr 0 _ rfl)
              have HC1 : Hid (wr.cell? ⟨be, pe + 1, none⟩ = some (.string ed.v)) := Lib.hid (hr 1 _ rfl)
              have HLE : Hid (be < wr.heap.size) := Lib.hid hbs
              have c2 : wr.cell? ⟨be, pe + 2, none⟩ = some (.bool ed.d) := hr 2 _ rfl
              have c0 := HC0.out
              have HLTi := Lib.hid hlt
              have HSTEP : Hid ((es.take (i + 1)).foldl aplE (treeL tA) = aplE (treeL t) ed) := Lib.hid (by rw [HTK.out, List.foldl_append, ← HLT.out]; rfl)
              obtain ⟨dd, hdd⟩ : ∃ dd, dd = ed.d := ⟨_, rfl⟩
              have HDD := Lib.hid hdd
              rw [← hdd] at c2
              clear hcell hr hed hpe hlt hil hbs hdd
              cases dd with
              | true =>
                go_wp2_with (go_at_call 27; refine (del_tree HT.out HTL.out ed.k).mono ?_; rintro e w8 ⟨g8, t8, H8, rfl, ht8, hl8, -, -, hb8⟩; have HT8 := Lib.hid ht8; have HL8 := Lib.hid hl8; have HB8 := Lib.hid hb8; clear ht8 hl8 hb8)
                go_roundw
                case rel =>
                  have hap : treeL t8 = aplE (treeL t) ed := by rw [HL8.out]; unfold aplE; rw [← HDD.out]; rfl
                  exact ⟨i + 1, g8, t8, H8, rfl, by go_num, by have := HLTi.out; omega, HT8.out, by rw [HSTEP.out, hap], by rw [hap]; have := apl_len (treeL t) HT.out.so ed; have := HLL.out; omega, HB.out.trans (HB8.out.mono HB.out.size)⟩
                case measure => (try go_num); (try (simp only [intOf])); have := HLTi.out; omega
              | false =>
                go_wp2_with fail
                refine Roll.region_f 12 122 Dtd25 Ltd25 [(13, .slice (some ⟨be, oe, none⟩) ne ce), (14, .pointer (some ⟨g, 0, none⟩)), (15, .int .i64 (i : Int))] (fun p => Below wr.heap.size wr p) (fun p p2 => Below p.heap.size p p2) [fun vv p => vv = .pointer (some ⟨g, 0, none⟩), fun vv p => vv = .slice (some ⟨be, oe, none⟩) ne ce, fun vv p => vv = .int .i64 (i : Int), fun vv p => vv = .pointer (some ⟨be, pe, none⟩), fun vv p => vv = .pointer (some ⟨be, pe, none⟩), fun vv p => vv = .string ed.k, fun vv p => vv = .slice (some ⟨be, oe, none⟩) ne ce, fun vv p => vv = .int .i64 (i : Int), fun vv p => vv = .pointer (some ⟨be, pe, none⟩), fun vv p => vv = .pointer (some ⟨be, pe + 1, none⟩), fun vv p => vv = .string ed.v, fun vv p => ∃ (g' : Nat) (t' : Option BT) (H' : Nat), vv = .pointer (some ⟨g', 0, none⟩) ∧ TT p g' t' H' ∧ treeL t' = putR (treeL t) ed.k ed.v] (by kernel_rfl) (by kernel_rfl) rfl ⟨rfl, rfl, rfl, trivial⟩ ((Below.refl _ _).drew) ?_ ?_ ?_
                · exact ⟨fun _ _ _ _ h => h, fun _ _ _ _ h => h, fun _ _ _ _ h => h, fun _ _ _ _ h => h, fun _ _ _ _ h => h, fun _ _ _ _ h => h, fun _ _ _ _ h => h, fun _ _ _ _ h => h, fun _ _ _ _ h => h, fun _ _ _ _ h => h, fun _ _ _ _ h => h, fun _ _ _ hs h => by obtain ⟨g', t', H', e1, e2, e3⟩ := h; exact ⟨g', t', H', e1, e2.under hs, e3⟩, trivial⟩
                · intro b0 hN hlv
                  refine ⟨?_, ?_, ?_, ?_, ?_, ?_, ?_, ?_, ?_, ?_, ?_, ?_, trivial⟩
                  · intro vs p hI hp
                    have e14 : (Roll.putD Dtd25 vs [] b0).eval (.tmp 14) = .pointer (some ⟨g, 0, none⟩) := (Roll.eval_old rfl).trans (hlv.at 1 (14, .pointer (some ⟨g, 0, none⟩)) rfl)
                    clear hp hlv hN
                    unfold Roll.Goes
                    simp only [Ltd25, List.getD_cons_zero, List.getD_cons_succ]
                    generalize Roll.putD Dtd25 vs [] b0 = a1 at *
                    refine Roll.goes_val (w' := p) (.pointer (some ⟨g, 0, none⟩)) rfl ?_ ⟨hI, Below.refl _ _, rfl⟩
                    (have ec : ∀ x, a1.eval (.const x) = x := fun _ => rfl); (have ef : ∀ x, a1.eval (.func x) = .func (.func x) #[] #[] := fun _ => rfl); generalize a1.eval = ρ at *
                    skip
                    go_simp <;> (intros; first | (exfalso; omega) | rfl | omega)
                  · intro vs p hI hp
                    have e13 : (Roll.putD Dtd25 vs [] b0).eval (.tmp 13) = .slice (some ⟨be, oe, none⟩) ne ce := (Roll.eval_old rfl).trans (hlv.at 0 (13, .slice (some ⟨be, oe, none⟩) ne ce) rfl)
                    clear hp hlv hN
                    unfold Roll.Goes
                    simp only [Ltd25, List.getD_cons_zero, List.getD_cons_succ]
                    generalize Roll.putD Dtd25 vs [] b0 = a1 at *
                    refine Roll.goes_val (w' := p) (.slice (some ⟨be, oe, none⟩) ne ce) rfl ?_ ⟨hI, Below.refl _ _, rfl⟩
                    (have ec : ∀ x, a1.eval (.const x) = x := fun _ => rfl); (have ef : ∀ x, a1.eval (.func x) = .func (.func x) #[] #[] := fun _ => rfl); generalize a1.eval = ρ at *
                    skip
                    go_simp <;> (intros; first | (exfalso; omega) | rfl | omega)
                  · intro vs p hI hp
                    have e15 : (Roll.putD Dtd25 vs [] b0).eval (.tmp 15) = .int .i64 (i : Int) := (Roll.eval_old rfl).trans (hlv.at 2 (15, .int .i64 (i : Int)) rfl)
                    clear hp hlv hN
                    unfold Roll.Goes
                    simp only [Ltd25, List.getD_cons_zero, List.getD_cons_succ]
                    generalize Roll.putD Dtd25 vs [] b0 = a1 at *
                    refine Roll.goes_val (w' := p) (.int .i64 (i : Int)) rfl ?_ ⟨hI, Below.refl _ _, rfl⟩
                    (have ec : ∀ x, a1.eval (.const x) = x := fun _ => rfl); (have ef : ∀ x, a1.eval (.func x) = .func (.func x) #[] #[] := fun _ => rfl); generalize a1.eval = ρ at *
                    skip
                    go_simp <;> (intros; first | (exfalso; omega) | rfl | omega)
                  · intro vs p hI hp
                    have h1 : (vs 1) = .slice (some ⟨be, oe, none⟩) ne ce := hp 1 (by simp [Ltd25])
                    have h2 : (vs 2) = .int .i64 (i : Int) := hp 2 (by simp [Ltd25])
                    have e93 : (Roll.putD Dtd25 vs [1, 2] b0).eval (.tmp 93) = .slice (some ⟨be, oe, none⟩) ne ce := (Roll.eval_new 1 rfl (by decide) (by decide) (by omega)).trans h1
                    have e94 : (Roll.putD Dtd25 vs [1, 2] b0).eval (.tmp 94) = .int .i64 (i : Int) := (Roll.eval_new 2 rfl (by decide) (by decide) (by omega)).trans h2
                    clear hp hlv hN
                    unfold Roll.Goes
                    simp only [Ltd25, List.getD_cons_zero, List.getD_cons_succ]
                    generalize Roll.putD Dtd25 vs [1, 2] b0 = a1 at *
                    have f1 := HIE.out
                    have f2 := HPE.out
                    have f3 := HI0.out
                    refine Roll.goes_val (w' := p) (.pointer (some ⟨be, pe, none⟩)) rfl ?_ ⟨hI, Below.refl _ _, rfl⟩
                    (have ec : ∀ x, a1.eval (.const x) = x := fun _ => rfl); (have ef : ∀ x, a1.eval (.func x) = .func (.func x) #[] #[] := fun _ => rfl); generalize a1.eval = ρ at *
                    clear h1 h2
                    go_simp <;> (intros; first | (exfalso; omega) | rfl | omega)
                  · intro vs p hI hp
                    have h3 : (vs 3) = .pointer (some ⟨be, pe, none⟩) := hp 3 (by simp [Ltd25])
                    have e95 : (Roll.putD Dtd25 vs [3] b0).eval (.tmp 95) = .pointer (some ⟨be, pe, none⟩) := (Roll.eval_new 3 rfl (by decide) (by decide) (by omega)).trans h3
                    clear hp hlv hN
                    unfold Roll.Goes
                    simp only [Ltd25, List.getD_cons_zero, List.getD_cons_succ]
                    generalize Roll.putD Dtd25 vs [3] b0 = a1 at *
                    refine Roll.goes_val (w' := p) (.pointer (some ⟨be, pe, none⟩)) rfl ?_ ⟨hI, Below.refl _ _, rfl⟩
                    (have ec : ∀ x, a1.eval (.const x) = x := fun _ => rfl); (have ef : ∀ x, a1.eval (.func x) = .func (.func x) #[] #[] := fun _ => rfl); generalize a1.eval = ρ at *
                    clear h3
                    go_simp <;> (intros; first | (exfalso; omega) | rfl | omega)
                  · intro vs p hI hp
                    have h4 : (vs 4) = .pointer (some ⟨be, pe, none⟩) := hp 4 (by simp [Ltd25])
                    have e96 : (Roll.putD Dtd25 vs [4] b0).eval (.tmp 96) = .pointer (some ⟨be, pe, none⟩) := (Roll.eval_new 4 rfl (by decide) (by decide) (by omega)).trans h4
                    clear hp hlv hN
                    unfold Roll.Goes
                    simp only [Ltd25, List.getD_cons_zero, List.getD_cons_succ]
                    generalize Roll.putD Dtd25 vs [4] b0 = a1 at *
                    have cf : p.cell? ⟨be, pe, none⟩ = some (.string ed.k) := (hI.cell (p := ⟨be, pe, none⟩) HLE.out).trans HC0.out
                    refine Roll.goes_val (w' := p) (.string ed.k) rfl ?_ ⟨hI, Below.refl _ _, rfl⟩
                    (have ec : ∀ x, a1.eval (.const x) = x := fun _ => rfl); (have ef : ∀ x, a1.eval (.func x) = .func (.func x) #[] #[] := fun _ => rfl); generalize a1.eval = ρ at *
                    clear h4
                    go_simp <;> (intros; first | (exfalso; omega) | rfl | omega)
                  · intro vs p hI hp
                    have e13 : (Roll.putD Dtd25 vs [] b0).eval (.tmp 13) = .slice (some ⟨be, oe, none⟩) ne ce := (Roll.eval_old rfl).trans (hlv.at 0 (13, .slice (some ⟨be, oe, none⟩) ne ce) rfl)
                    clear hp hlv hN
                    unfold Roll.Goes
                    simp only [Ltd25, List.getD_cons_zero, List.getD_cons_succ]
                    generalize Roll.putD Dtd25 vs [] b0 = a1 at *
                    refine Roll.goes_val (w' := p) (.slice (some ⟨be, oe, none⟩) ne ce) rfl ?_ ⟨hI, Below.refl _ _, rfl⟩
                    (have ec : ∀ x, a1.eval (.const x) = x := fun _ => rfl); (have ef : ∀ x, a1.eval (.func x) = .func (.func x) #[] #[] := fun _ => rfl); generalize a1.eval = ρ at *
                    skip
                    go_simp <;> (intros; first | (exfalso; omega) | rfl | omega)
                  · intro vs p hI hp
                    have e15 : (Roll.putD Dtd25 vs [] b0).eval (.tmp 15) = .int .i64 (i : Int) := (Roll.eval_old rfl).trans (hlv.at 2 (15, .int .i64 (i : Int)) rfl)
                    clear hp hlv hN
                    unfold Roll.Goes
                    simp only [Ltd25, List.getD_cons_zero, List.getD_cons_succ]
                    generalize Roll.putD Dtd25 vs [] b0 = a1 at *
                    refine Roll.goes_val (w' := p) (.int .i64 (i : Int)) rfl ?_ ⟨hI, Below.refl _ _, rfl⟩
                    (have ec : ∀ x, a1.eval (.const x) = x := fun _ => rfl); (have ef : ∀ x, a1.eval (.func x) = .func (.func x) #[] #[] := fun _ => rfl); generalize a1.eval = ρ at *
                    skip
                    go_simp <;> (intros; first | (exfalso; omega) | rfl | omega)
                  · intro vs p hI hp
                    have h6 : (vs 6) = .slice (some ⟨be, oe, none⟩) ne ce := hp 6 (by simp [Ltd25])
                    have h7 : (vs 7) = .int .i64 (i : Int) := hp 7 (by simp [Ltd25])
                    have e98 : (Roll.putD Dtd25 vs [6, 7] b0).eval (.tmp 98) = .slice (some ⟨be, oe, none⟩) ne ce := (Roll.eval_new 6 rfl (by decide) (by decide) (by omega)).trans h6
                    have e99 : (Roll.putD Dtd25 vs [6, 7] b0).eval (.tmp 99) = .int .i64 (i : Int) := (Roll.eval_new 7 rfl (by decide) (by decide) (by omega)).trans h7
                    clear hp hlv hN
                    unfold Roll.Goes
                    simp only [Ltd25, List.getD_cons_zero, List.getD_cons_succ]
                    generalize Roll.putD Dtd25 vs [6, 7] b0 = a1 at *
                    have f1 := HIE.out
                    have f2 := HPE.out
                    have f3 := HI0.out
                    refine Roll.goes_val (w' := p) (.pointer (some ⟨be, pe, none⟩)) rfl ?_ ⟨hI, Below.refl _ _, rfl⟩
                    (have ec : ∀ x, a1.eval (.const x) = x := fun _ => rfl); (have ef : ∀ x, a1.eval (.func x) = .func (.func x) #[] #[] := fun _ => rfl); generalize a1.eval = ρ at *
                    clear h6 h7
                    go_simp <;> (intros; first | (exfalso; omega) | rfl | omega)
                  · intro vs p hI hp
                    have h8 : (vs 8) = .pointer (some ⟨be, pe, none⟩) := hp 8 (by simp [Ltd25])
                    have e100 : (Roll.putD Dtd25 vs [8] b0).eval (.tmp 100) = .pointer (some ⟨be, pe, none⟩) := (Roll.eval_new 8 rfl (by decide) (by decide) (by omega)).trans h8
                    clear hp hlv hN
                    unfold Roll.Goes
                    simp only [Ltd25, List.getD_cons_zero, List.getD_cons_succ]
                    generalize Roll.putD Dtd25 vs [8] b0 = a1 at *
                    refine Roll.goes_val (w' := p) (.pointer (some ⟨be, pe + 1, none⟩)) rfl ?_ ⟨hI, Below.refl _ _, rfl⟩
                    (have ec : ∀ x, a1.eval (.const x) = x := fun _ => rfl); (have ef : ∀ x, a1.eval (.func x) = .func (.func x) #[] #[] := fun _ => rfl); generalize a1.eval = ρ at *
                    clear h8
                    go_simp <;> (intros; first | (exfalso; omega) | rfl | omega)
                  · intro vs p hI hp
                    have h9 : (vs 9) = .pointer (some ⟨be, pe + 1, none⟩) := hp 9 (by simp [Ltd25])
                    have e101 : (Roll.putD Dtd25 vs [9] b0).eval (.tmp 101) = .pointer (some ⟨be, pe + 1, none⟩) := (Roll.eval_new 9 rfl (by decide) (by decide) (by omega)).trans h9
                    clear hp hlv hN
                    unfold Roll.Goes
                    simp only [Ltd25, List.getD_cons_zero, List.getD_cons_succ]
                    generalize Roll.putD Dtd25 vs [9] b0 = a1 at *
                    have cf : p.cell? ⟨be, pe + 1, none⟩ = some (.string ed.v) := (hI.cell (p := ⟨be, pe + 1, none⟩) HLE.out).trans HC1.out
                    refine Roll.goes_val (w' := p) (.string ed.v) rfl ?_ ⟨hI, Below.refl _ _, rfl⟩
                    (have ec : ∀ x, a1.eval (.const x) = x := fun _ => rfl); (have ef : ∀ x, a1.eval (.func x) = .func (.func x) #[] #[] := fun _ => rfl); generalize a1.eval = ρ at *
                    clear h9
                    go_simp <;> (intros; first | (exfalso; omega) | rfl | omega)
                  · intro vs p hI hp
                    have h0 : (vs 0) = .pointer (some ⟨g, 0, none⟩) := hp 0 (by simp [Ltd25])
                    have h5 : (vs 5) = .string ed.k := hp 5 (by simp [Ltd25])
                    have h10 : (vs 10) = .string ed.v := hp 10 (by simp [Ltd25])
                    have e92 : (Roll.putD Dtd25 vs [0, 5, 10] b0).eval (.tmp 92) = .pointer (some ⟨g, 0, none⟩) := (Roll.eval_new 0 rfl (by decide) (by decide) (by omega)).trans h0
                    have e97 : (Roll.putD Dtd25 vs [0, 5, 10] b0).eval (.tmp 97) = .string ed.k := (Roll.eval_new 5 rfl (by decide) (by decide) (by omega)).trans h5
                    have e102 : (Roll.putD Dtd25 vs [0, 5, 10] b0).eval (.tmp 102) = .string ed.v := (Roll.eval_new 10 rfl (by decide) (by decide) (by omega)).trans h10
                    clear hp hlv hN
                    unfold Roll.Goes
                    simp only [Ltd25, List.getD_cons_zero, List.getD_cons_succ]
                    generalize Roll.putD Dtd25 vs [0, 5, 10] b0 = a1 at *
                    refine Roll.goes_call 25 #[.pointer (some ⟨g, 0, none⟩), .string ed.k, .string ed.v] p rfl (by have ec : ∀ x, a1.eval (.const x) = x := fun _ => rfl; have ef : ∀ x, a1.eval (.func x) = .func (.func x) #[] #[] := fun _ => rfl; generalize a1.eval = ρ at *; go_simp) ?_
                    refine (put_all (HT.out.under hI) HTL.out ed.k ed.v).mono ?_
                    rintro y p2 ⟨g', t', H', rfl, ht', hl', hb2⟩
                    exact ⟨_, rfl, hI.trans (hb2.mono hI.size), hb2, g', t', H', rfl, ht', hl'⟩
                · intro vs p hI hR
                  have h0 : (vs 0) = .pointer (some ⟨g, 0, none⟩) := hR 0 (by omega)
                  have h1 : (vs 1) = .slice (some ⟨be, oe, none⟩) ne ce := hR 1 (by omega)
                  have h2 : (vs 2) = .int .i64 (i : Int) := hR 2 (by omega)
                  have h3 : (vs 3) = .pointer (some ⟨be, pe, none⟩) := hR 3 (by omega)
                  have h4 : (vs 4) = .pointer (some ⟨be, pe, none⟩) := hR 4 (by omega)
                  have h5 : (vs 5) = .string ed.k := hR 5 (by omega)
                  have h6 : (vs 6) = .slice (some ⟨be, oe, none⟩) ne ce := hR 6 (by omega)
                  have h7 : (vs 7) = .int .i64 (i : Int) := hR 7 (by omega)
                  have h8 : (vs 8) = .pointer (some ⟨be, pe, none⟩) := hR 8 (by omega)
                  have h9 : (vs 9) = .pointer (some ⟨be, pe + 1, none⟩) := hR 9 (by omega)
                  have h10 : (vs 10) = .string ed.v := hR 10 (by omega)
                  have h11 : ∃ (g' : Nat) (t' : Option BT) (H' : Nat), (vs 11) = .pointer (some ⟨g', 0, none⟩) ∧ TT p g' t' H' ∧ treeL t' = putR (treeL t) ed.k ed.v := hR 11 (by omega)
                  clear hR
                  simp only [List.range_succ, List.range_zero, List.nil_append, List.cons_append, Roll.putD, Act.put, List.getD_cons_zero, List.getD_cons_succ, List.setIfInBounds_toArray, List.set_cons_zero, List.set_cons_succ, List.drop_succ_cons, List.drop_zero, Dtd25]
                  simp only [h0, h1, h2, h3, h4, h5, h6, h7, h8, h9, h10]
                  clear h0 h1 h2 h3 h4 h5 h6 h7 h8 h9 h10
                  generalize vs 11 = v11 at *
                  obtain ⟨g8, t8, H8, rfl, ht8, hl8⟩ := h11
                  have HT8 := Lib.hid ht8
                  have HL8 := Lib.hid hl8
                  have HB8 := Lib.hid hI
                  clear ht8 hl8 hI
                  go_wp2_with fail
                  go_roundw
                  case rel =>
                    have hap : treeL t8 = aplE (treeL t) ed := by rw [HL8.out]; unfold aplE; rw [← HDD.out]; rfl
                    exact ⟨i + 1, g8, t8, H8, rfl, by go_num, by have := HLTi.out; omega, HT8.out, by rw [HSTEP.out, hap], by rw [hap]; have := apl_len (treeL t) HT.out.so ed; have := HLL.out; omega, HB.out.trans (HB8.out.mono HB.out.size)⟩
                  case measure => (try go_num); (try (simp only [intOf])); have := HLTi.out; omega
            · have hge : ¬ (i : Int) < (ne : Int) := by omega
              have HE : Hid (treeL t = treeL tB) := Lib.hid (by rw [HLT.out, show i = es.length by have := HNE.out; omega, List.take_length]; exact HAPP.out)
              have HRN : Hid (Calls Try.prog 29 #[.pointer (some ⟨g, 0, none⟩), .string ⟨#[]⟩, .string ⟨#[]⟩] wr fun e W' => ∃ a n c, e = .returned (.slice a n c) ∧ Ps (fun _ => True) W' a n c (treeL tB) ∧ Below wr.heap.size wr W') := Lib.hid ((range_any HT.out ⟨#[]⟩ ⟨#[]⟩ (Nat.le_trans HTL.out (by omega))).mono (fun e W' h => by
                obtain ⟨z, rfl, hr, hb⟩ := h
                obtain ⟨a, n, c, rfl, hp⟩ := Ps.row hr
                have hp2 : Ps (fun b => wr.heap.size ≤ b) W' a n c (rngL emptyS emptyS (treeL t)) := hp
                rw [rngL_emp, HE.out] at hp2
                exact ⟨a, n, c, rfl, hp2.dom (fun _ _ => trivial), hb⟩))
              have HSM2 : Hid (∀ (u : World) (a : Option Addr) (n c : Nat), Below W.heap.size W u → Ps (fun _ => True) u a n c (treeL tB) → Calls Try.prog 30 #[.slice a n c, .slice a3 m3 c3] u fun e W' => e = .returned (.bool true) ∧ Below u.heap.size u W') := Lib.hid (fun u a n c hu hp => by
                have h := same_any hp (HTB4.out.pp.below hu)
                rw [decide_eq_true rfl] at h
                exact h)
              have HD2 : Hid (∀ u, Below wr.heap.size wr u → Calls Try.prog 32 #[.pointer (some ⟨g, 0, none⟩), .pointer (some ⟨gB, 0, none⟩)] u fun e W' => ∃ a c, e = .returned (.slice a 0 c) ∧ Below u.heap.size u W') := Lib.hid (fun u hu => by
                have h := diff_any (HT.out.under hu) ((HTB4.out.tt.under HB.out).under hu) HTL.out (by rw [← HE.out]; exact HTL.out)
                rw [HE.out, diffR_self] at h
                refine h.mono ?_
                rintro e W' ⟨v, rfl, hr, hb⟩
                obtain ⟨a, n, c, rfl, hp⟩ := Es.row hr
                have h0 := hp.1
                simp only [List.length_nil] at h0
                subst h0
                exact ⟨a, c, rfl, hb⟩)
              clear hlt
              go_wp2_with (first
                | (go_at_call 29; refine HRN.out.mono ?_; rintro e w8 ⟨a8, n8, c8, rfl, hp8, hb8⟩; have HP8 := Lib.hid hp8; have HB8 := Lib.hid hb8; clear hp8 hb8)
                | (go_at_call 30; refine (HSM2.out _ _ _ _ (HB.out.trans (HB8.out.mono HB.out.size)) HP8.out).mono ?_; rintro e w9 ⟨rfl, hb9⟩; have HB9 := Lib.hid (HB8.out.trans (hb9.mono HB8.out.size)); clear hb9)
                | (go_at_call 32; refine (HD2.out _ HB9.out).mono ?_; rintro e w10 ⟨a10, c10, rfl, hb10⟩; have HB10 := Lib.hid (HB9.out.trans (hb10.mono HB9.out.size)); clear hb10)
                | (go_at_call 19; refine (lives_any _).mono ?_; rintro e w12 ⟨rfl, hb12⟩))
              go_ret
              exact ⟨rfl, HBWW.out.trans ((HB.out.trans ((HB10.out.trans (hb12.mono HB10.out.size)).mono HB.out.size)).mono HBWW.out.size)⟩))
end Go.Proofs.Ytfgmhidgkemfoaa

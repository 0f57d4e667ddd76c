/-
  Texts I8, I9, IA, IB, IE, IF, IG, IP, one behind the other.
-/
import Derived.WalkKit
import Derived.WalkSpells
import Derived.WalkLawsBesides
import Derived.Lib.ItoaNum
import Derived.Lib.Repeat
import Derived.Lib.Bytealg
import Derived.Lib.LaidTab
import Derived.Lib.ItoaMem
import Derived.WalkSmall
import Derived.BigQuiet
import Derived.Deep.QuietTactic
import Derived.StillTailTactics
import Derived.Deep.CutBlock
import Derived.OwnWalk
import Derived.Deep.DrawnRows
import Derived.Deep.CutRange
import Derived.Deep.LoopGhost
import Derived.Laws.Tables
import Derived.Laws.ResultCell
import Derived.Deep.WholeRow
import Derived.Shelf.LaysM
import Derived.Shelf.Strconv.Itoa3
import Derived.Shelf.Strings.Repeat
import Derived.Lib.AppendIntMem
import Derived.Laws.AppendOwn
import Derived.Laws.OwnMore
import Derived.Deep.AppendSrc
import Derived.Deep.MidRow
import Derived.Lib.Hide
import GoSem.Claim
import Derived.Orders
import Derived.Tactics
import Derived.Laws.StandIn
import Derived.Test.YtcoijmggfkjcjaaDoorRows
import Derived.Test.YtcoijmggfkjcjaaDoorChecked
import Derived.Test.YtcoijmggfkjcjaaDoorZV1200
namespace Go.Proofs.YtcoijmggfkjcjaaDoor
open Go.RowKit
set_option linter.unusedSimpArgs false
set_option linter.unusedVariables false
attribute [local go_sem ↓] exec_storeDate
attribute [local go_sem] run_storeDate
/-- a printed day -/
def printB (n : Int) : ByteArray := if okN n then ⟨(printL (yearN n) (monthN n) (mdayN n)).toArray⟩ else ⟨#[]⟩
def Dprint : List (Option Tmp) := [some 12, some 13, some 14, some 15, some 16, some 17, some 18, some 19, some 20, some 21, some 22, some 23, some 24, some 2]
def Lprint : List (List Nat) := [[], [0], [1], [2], [], [4], [5], [3, 6], [7], [], [9], [10], [8, 11], [12]]
def DrefPrint : List (Option Tmp) := [some 12, some 13, some 14, some 15, some 16, some 17, some 18, some 19, some 20, some 21, some 22, some 23, some 24, some 2]
def LrefPrint : List (List Nat) := [[], [0], [1], [2], [], [4], [5], [3, 6], [7], [], [9], [10], [8, 11], [12]]
set_option maxRecDepth 100000 in
set_option maxHeartbeats 2000000 in
theorem print_any (n : Int) (w : World) (hT : Tabs w) : Calls Tryd.prog 24 #[.int .i64 n] w fun e w' => e = .returned (.string (printB n)) ∧ Below w.heap.size w w' := by
  have HO := Lib.hid (of_any n w hT)
  by_cases hn : okN n
  · obtain ⟨e1, e2, e3, e4⟩ := of_yes hn
    have hv := (of_ok n hn.1 hn.2).1
    have hs := valid_sm hv
    obtain ⟨a, ha⟩ : ∃ a : Nat, yearN n = (a : Int) := ⟨(yearN n).toNat, by omega⟩
    obtain ⟨b, hb⟩ : ∃ b : Nat, monthN n = (b : Int) := ⟨(monthN n).toNat, by omega⟩
    obtain ⟨c, hc⟩ : ∃ c : Nat, mdayN n = (c : Int) := ⟨(mdayN n).toNat, by omega⟩
    rw [e1, e2, e3, e4, ha, hb, hc] at HO
    obtain ⟨s1, hs1⟩ : ∃ s : ByteArray, s = ⟨(p4 a).toArray⟩ := ⟨_, rfl⟩
    obtain ⟨s2, hs2⟩ : ∃ s : ByteArray, s = ⟨(p4 a ++ [45]).toArray⟩ := ⟨_, rfl⟩
    obtain ⟨s3, hs3⟩ : ∃ s : ByteArray, s = ⟨(p2 b).toArray⟩ := ⟨_, rfl⟩
    obtain ⟨s4, hs4⟩ : ∃ s : ByteArray, s = ⟨(p4 a ++ [45] ++ p2 b).toArray⟩ := ⟨_, rfl⟩
    obtain ⟨s5, hs5⟩ : ∃ s : ByteArray, s = ⟨(p4 a ++ [45] ++ p2 b ++ [45]).toArray⟩ := ⟨_, rfl⟩
    obtain ⟨s6, hs6⟩ : ∃ s : ByteArray, s = ⟨(p2 c).toArray⟩ := ⟨_, rfl⟩
    obtain ⟨s7, hs7⟩ : ∃ s : ByteArray, s = ⟨(p4 a ++ [45] ++ p2 b ++ [45] ++ p2 c).toArray⟩ := ⟨_, rfl⟩
    have E2 : Hid (s1 ++ (⟨#[45]⟩ : ByteArray) = s2) := Lib.hid (by rw [hs1, hs2]; exact app_mk _ [45])
    have E4 : Hid (s2 ++ s3 = s4) := Lib.hid (by rw [hs2, hs3, hs4, app_mk])
    have E5 : Hid (s4 ++ (⟨#[45]⟩ : ByteArray) = s5) := Lib.hid (by rw [hs4, hs5]; exact app_mk _ [45])
    have E7 : Hid (s5 ++ s6 = s7) := Lib.hid (by rw [hs5, hs6, hs7, app_mk])
    have Z1 : Hid (s1.size = 4) := Lib.hid (by rw [hs1]; rfl)
    have Z2 : Hid (s2.size = 5) := Lib.hid (by rw [hs2]; rfl)
    have Z3 : Hid (s3.size = 2) := Lib.hid (by rw [hs3]; rfl)
    have Z4 : Hid (s4.size = 7) := Lib.hid (by rw [hs4]; rfl)
    have Z5 : Hid (s5.size = 8) := Lib.hid (by rw [hs5]; rfl)
    have Z6 : Hid (s6.size = 2) := Lib.hid (by rw [hs6]; rfl)
    have ZD : Hid ((⟨#[45]⟩ : ByteArray).size = 1) := Lib.hid rfl
    have HR : Hid (printB n = s7) := Lib.hid (by
      unfold printB
      rw [if_pos hn, hs7, ha, hb, hc]
      unfold printL
      rw [Int.toNat_natCast, Int.toNat_natCast, Int.toNat_natCast]
      simp)
    have hqa := pad4 a (by omega)
    have hqb := pad2 b (by omega)
    have hqc := pad2 c (by omega)
    have HP1 : Hid (∀ p, Tabs p → Calls Tryd.prog 48 #[.int .i64 (a : Int), .int .i64 4] p fun e w' => e = .returned (.string s1) ∧ Below p.heap.size p w') := Lib.hid (fun p hp => by
      have h := padded_gen a 4 (by omega) (by omega) hqa.1 p hp
      rw [hqa.2, ← hs1] at h
      exact h)
    have HP2 : Hid (∀ p, Tabs p → Calls Tryd.prog 48 #[.int .i64 (b : Int), .int .i64 2] p fun e w' => e = .returned (.string s3) ∧ Below p.heap.size p w') := Lib.hid (fun p hp => by
      have h := padded_gen b 2 (by omega) (by omega) hqb.1 p hp
      rw [hqb.2, ← hs3] at h
      exact h)
    have HP3 : Hid (∀ p, Tabs p → Calls Tryd.prog 48 #[.int .i64 (c : Int), .int .i64 2] p fun e w' => e = .returned (.string s6) ∧ Below p.heap.size p w') := Lib.hid (fun p hp => by
      have h := padded_gen c 2 (by omega) (by omega) hqc.1 p hp
      rw [hqc.2, ← hs6] at h
      exact h)
    have HT := Lib.hid hT
    clear hT hn e1 e2 e3 e4 hv hs ha hb hc hs1 hs2 hs3 hs4 hs5 hs6 hs7 hqa hqb hqc
    go_enter Tryd.func24, Tryd.ntmps24
    go_upto_region 2 with (go_at_call 22; refine HO.out.mono ?_; rintro e w2 ⟨rfl, hb⟩; have p6 : DB (w2.alloc (.cells #[.int .i64 0, .int .i64 0, .int .i64 0] 23)) w2.heap.size := ⟨0, 0, 0, heap_new0⟩; have HB := Lib.hid hb; clear hb)
    obtain ⟨w1, hw⟩ : ∃ w1, w1 = (w2.alloc (.cells #[.int .i64 0, .int .i64 0, .int .i64 0] 23)).setRow w2.heap.size #[.int .i64 (a : Int), .int .i64 (b : Int), .int .i64 (c : Int)] := ⟨_, rfl⟩
    obtain ⟨g3, hg⟩ : ∃ g3, g3 = w2.heap.size := ⟨_, rfl⟩
    have hrow : w1.heap[g3]? = some (.cells #[.int .i64 (a : Int), .int .i64 (b : Int), .int .i64 (c : Int)] 23 (0, 0)) := by rw [hw, hg]; exact setRow_heap _ _ _ _ _ _ heap_new0
    have HW : Hid (Below w.heap.size w w1) := Lib.hid (by rw [hw]; exact ((((Kept.of_below (fun _ => False) HB.out).alloc _).setRow (fun h => by have := HB.out.size; omega) _).below (Nat.le_refl _) (fun _ _ h => h)))
    have C0 : Hid (w1.cell? ⟨g3, 0, none⟩ = some (.int .i64 (a : Int))) := Lib.hid (cell_of_row w1 g3 0 _ _ _ hrow)
    have C1 : Hid (w1.cell? ⟨g3, 1, none⟩ = some (.int .i64 (b : Int))) := Lib.hid (cell_of_row w1 g3 1 _ _ _ hrow)
    have C2 : Hid (w1.cell? ⟨g3, 2, none⟩ = some (.int .i64 (c : Int))) := Lib.hid (cell_of_row w1 g3 2 _ _ _ hrow)
    have HG : Hid (g3 < w1.heap.size) := Lib.hid (block_lt_of_cell C0.out)
    have HP1a := HP1; have HP2a := HP2; have HP3a := HP3
    clear HP1 HP2 HP3
    have HP1 : Hid (∀ p, Below w1.heap.size w1 p → _) := Lib.hid (fun p hp => HP1a.out p ((HT.out.below HW.out).below hp))
    have HP2 : Hid (∀ p, Below w1.heap.size w1 p → _) := Lib.hid (fun p hp => HP2a.out p ((HT.out.below HW.out).below hp))
    have HP3 : Hid (∀ p, Below w1.heap.size w1 p → _) := Lib.hid (fun p hp => HP3a.out p ((HT.out.below HW.out).below hp))
    rw [← hw]
    rw [← hg]
    clear hw hg hrow p6 HB HP1a HP2a HP3a HO HT
    go_upto_region 4 with fail
    refine Roll.region_f 13 25 Dprint Lprint [(3, .pointer (some ⟨g3, 0, none⟩))] (fun p => Below w1.heap.size w1 p) (fun p p2 => Below p.heap.size p p2) [fun vv p => vv = .pointer (some ⟨g3, 0, none⟩), fun vv p => vv = .int .i64 (a : Int), fun vv p => vv = .string s1, fun vv p => vv = .string s2, fun vv p => vv = .pointer (some ⟨g3, 1, none⟩), fun vv p => vv = .int .i64 (b : Int), fun vv p => vv = .string s3, fun vv p => vv = .string s4, fun vv p => vv = .string s5, fun vv p => vv = .pointer (some ⟨g3, 2, none⟩), fun vv p => vv = .int .i64 (c : Int), fun vv p => vv = .string s6, fun vv p => vv = .string s7] (by kernel_rfl) (by kernel_rfl) rfl ⟨rfl, trivial⟩ ((Below.refl _ _).drew) ?_ ?_ ?_
    · exact ⟨fun _ _ _ _ h => h, fun _ _ _ _ h => h, fun _ _ _ _ h => h, fun _ _ _ _ h => h, fun _ _ _ _ h => h, fun _ _ _ _ h => h, fun _ _ _ _ h => h, fun _ _ _ _ h => h, fun _ _ _ _ h => h, fun _ _ _ _ h => h, fun _ _ _ _ h => h, fun _ _ _ _ h => h, fun _ _ _ _ h => h, trivial⟩
    · intro b0 hN hlv
      refine ⟨?_, ?_, ?_, ?_, ?_, ?_, ?_, ?_, ?_, ?_, ?_, ?_, ?_, trivial⟩
      · intro vs p hI hp
        have e3 : (Roll.putD Dprint vs [] b0).eval (.tmp 3) = .pointer (some ⟨g3, 0, none⟩) := (Roll.eval_old rfl).trans (hlv.at 0 (3, .pointer (some ⟨g3, 0, none⟩)) rfl)
        clear hp hlv hN
        unfold Roll.Goes
        simp only [Lprint, List.getD_cons_zero, List.getD_cons_succ]
        generalize Roll.putD Dprint vs [] b0 = a1 at *
        refine Roll.goes_val (w' := p) (.pointer (some ⟨g3, 0, none⟩)) rfl ?_ ⟨hI, Below.refl _ _, rfl⟩
        (have ec : ∀ x, a1.eval (.const x) = x := fun _ => rfl); (have ef : ∀ x, a1.eval (.func x) = .func (.func x) #[] #[] := fun _ => rfl); generalize a1.eval = ρ at *
        skip
        go_simp <;> (intros; first | (exfalso; omega) | rfl | omega)
      · intro vs p hI hp
        have h0 : (vs 0) = .pointer (some ⟨g3, 0, none⟩) := hp 0 (by simp [Lprint])
        have e12 : (Roll.putD Dprint vs [0] b0).eval (.tmp 12) = .pointer (some ⟨g3, 0, none⟩) := (Roll.eval_new 0 rfl (by decide) (by decide) (by omega)).trans h0
        clear hp hlv hN
        unfold Roll.Goes
        simp only [Lprint, List.getD_cons_zero, List.getD_cons_succ]
        generalize Roll.putD Dprint vs [0] b0 = a1 at *
        have cf : p.cell? ⟨g3, 0, none⟩ = some (.int .i64 (a : Int)) := (hI.cell (p := ⟨g3, 0, none⟩) HG.out).trans C0.out
        refine Roll.goes_val (w' := p) (.int .i64 (a : Int)) rfl ?_ ⟨hI, Below.refl _ _, rfl⟩
        (have ec : ∀ x, a1.eval (.const x) = x := fun _ => rfl); (have ef : ∀ x, a1.eval (.func x) = .func (.func x) #[] #[] := fun _ => rfl); generalize a1.eval = ρ at *
        clear h0
        go_simp <;> (intros; first | (exfalso; omega) | rfl | omega)
      · intro vs p hI hp
        have h1 : (vs 1) = .int .i64 (a : Int) := hp 1 (by simp [Lprint])
        have e13 : (Roll.putD Dprint vs [1] b0).eval (.tmp 13) = .int .i64 (a : Int) := (Roll.eval_new 1 rfl (by decide) (by decide) (by omega)).trans h1
        clear hp hlv hN
        unfold Roll.Goes
        simp only [Lprint, List.getD_cons_zero, List.getD_cons_succ]
        generalize Roll.putD Dprint vs [1] b0 = a1 at *
        refine Roll.goes_call 48 #[.int .i64 (a : Int), .int .i64 4] p rfl (by have ec : ∀ x, a1.eval (.const x) = x := fun _ => rfl; have ef : ∀ x, a1.eval (.func x) = .func (.func x) #[] #[] := fun _ => rfl; generalize a1.eval = ρ at *; go_simp) ?_
        refine (HP1.out p hI).mono ?_
        rintro z p2 ⟨rfl, hb⟩
        exact ⟨_, rfl, hI.trans (hb.mono hI.size), hb, rfl⟩
      · intro vs p hI hp
        have h2 : (vs 2) = .string s1 := hp 2 (by simp [Lprint])
        have e14 : (Roll.putD Dprint vs [2] b0).eval (.tmp 14) = .string s1 := (Roll.eval_new 2 rfl (by decide) (by decide) (by omega)).trans h2
        clear hp hlv hN
        unfold Roll.Goes
        simp only [Lprint, List.getD_cons_zero, List.getD_cons_succ]
        generalize Roll.putD Dprint vs [2] b0 = a1 at *
        have f0 := E2.out
        have f1 := Z1.out
        have f2 := ZD.out
        refine Roll.goes_val (w' := p) (.string s2) rfl ?_ ⟨hI, Below.refl _ _, rfl⟩
        (have ec : ∀ x, a1.eval (.const x) = x := fun _ => rfl); (have ef : ∀ x, a1.eval (.func x) = .func (.func x) #[] #[] := fun _ => rfl); generalize a1.eval = ρ at *
        clear h2
        go_simp <;> (intros; first | (exfalso; omega) | rfl | omega)
      · intro vs p hI hp
        have e3 : (Roll.putD Dprint vs [] b0).eval (.tmp 3) = .pointer (some ⟨g3, 0, none⟩) := (Roll.eval_old rfl).trans (hlv.at 0 (3, .pointer (some ⟨g3, 0, none⟩)) rfl)
        clear hp hlv hN
        unfold Roll.Goes
        simp only [Lprint, List.getD_cons_zero, List.getD_cons_succ]
        generalize Roll.putD Dprint vs [] b0 = a1 at *
        refine Roll.goes_val (w' := p) (.pointer (some ⟨g3, 1, none⟩)) rfl ?_ ⟨hI, Below.refl _ _, rfl⟩
        (have ec : ∀ x, a1.eval (.const x) = x := fun _ => rfl); (have ef : ∀ x, a1.eval (.func x) = .func (.func x) #[] #[] := fun _ => rfl); generalize a1.eval = ρ at *
        skip
        go_simp <;> (intros; first | (exfalso; omega) | rfl | omega)
      · intro vs p hI hp
        have h4 : (vs 4) = .pointer (some ⟨g3, 1, none⟩) := hp 4 (by simp [Lprint])
        have e16 : (Roll.putD Dprint vs [4] b0).eval (.tmp 16) = .pointer (some ⟨g3, 1, none⟩) := (Roll.eval_new 4 rfl (by decide) (by decide) (by omega)).trans h4
        clear hp hlv hN
        unfold Roll.Goes
        simp only [Lprint, List.getD_cons_zero, List.getD_cons_succ]
        generalize Roll.putD Dprint vs [4] b0 = a1 at *
        have cf : p.cell? ⟨g3, 1, none⟩ = some (.int .i64 (b : Int)) := (hI.cell (p := ⟨g3, 1, none⟩) HG.out).trans C1.out
        refine Roll.goes_val (w' := p) (.int .i64 (b : Int)) rfl ?_ ⟨hI, Below.refl _ _, rfl⟩
        (have ec : ∀ x, a1.eval (.const x) = x := fun _ => rfl); (have ef : ∀ x, a1.eval (.func x) = .func (.func x) #[] #[] := fun _ => rfl); generalize a1.eval = ρ at *
        clear h4
        go_simp <;> (intros; first | (exfalso; omega) | rfl | omega)
      · intro vs p hI hp
        have h5 : (vs 5) = .int .i64 (b : Int) := hp 5 (by simp [Lprint])
        have e17 : (Roll.putD Dprint vs [5] b0).eval (.tmp 17) = .int .i64 (b : Int) := (Roll.eval_new 5 rfl (by decide) (by decide) (by omega)).trans h5
        clear hp hlv hN
        unfold Roll.Goes
        simp only [Lprint, List.getD_cons_zero, List.getD_cons_succ]
        generalize Roll.putD Dprint vs [5] b0 = a1 at *
        refine Roll.goes_call 48 #[.int .i64 (b : Int), .int .i64 2] p rfl (by have ec : ∀ x, a1.eval (.const x) = x := fun _ => rfl; have ef : ∀ x, a1.eval (.func x) = .func (.func x) #[] #[] := fun _ => rfl; generalize a1.eval = ρ at *; go_simp) ?_
        refine (HP2.out p hI).mono ?_
        rintro z p2 ⟨rfl, hb⟩
        exact ⟨_, rfl, hI.trans (hb.mono hI.size), hb, rfl⟩
      · intro vs p hI hp
        have h3 : (vs 3) = .string s2 := hp 3 (by simp [Lprint])
        have h6 : (vs 6) = .string s3 := hp 6 (by simp [Lprint])
        have e15 : (Roll.putD Dprint vs [3, 6] b0).eval (.tmp 15) = .string s2 := (Roll.eval_new 3 rfl (by decide) (by decide) (by omega)).trans h3
        have e18 : (Roll.putD Dprint vs [3, 6] b0).eval (.tmp 18) = .string s3 := (Roll.eval_new 6 rfl (by decide) (by decide) (by omega)).trans h6
        clear hp hlv hN
        unfold Roll.Goes
        simp only [Lprint, List.getD_cons_zero, List.getD_cons_succ]
        generalize Roll.putD Dprint vs [3, 6] b0 = a1 at *
        have f0 := E4.out
        have f1 := Z2.out
        have f2 := Z3.out
        refine Roll.goes_val (w' := p) (.string s4) rfl ?_ ⟨hI, Below.refl _ _, rfl⟩
        (have ec : ∀ x, a1.eval (.const x) = x := fun _ => rfl); (have ef : ∀ x, a1.eval (.func x) = .func (.func x) #[] #[] := fun _ => rfl); generalize a1.eval = ρ at *
        clear h3 h6
        go_simp <;> (intros; first | (exfalso; omega) | rfl | omega)
      · intro vs p hI hp
        have h7 : (vs 7) = .string s4 := hp 7 (by simp [Lprint])
        have e19 : (Roll.putD Dprint vs [7] b0).eval (.tmp 19) = .string s4 := (Roll.eval_new 7 rfl (by decide) (by decide) (by omega)).trans h7
        clear hp hlv hN
        unfold Roll.Goes
        simp only [Lprint, List.getD_cons_zero, List.getD_cons_succ]
        generalize Roll.putD Dprint vs [7] b0 = a1 at *
        have f0 := E5.out
        have f1 := Z4.out
        have f2 := ZD.out
        refine Roll.goes_val (w' := p) (.string s5) rfl ?_ ⟨hI, Below.refl _ _, rfl⟩
        (have ec : ∀ x, a1.eval (.const x) = x := fun _ => rfl); (have ef : ∀ x, a1.eval (.func x) = .func (.func x) #[] #[] := fun _ => rfl); generalize a1.eval = ρ at *
        clear h7
        go_simp <;> (intros; first | (exfalso; omega) | rfl | omega)
      · intro vs p hI hp
        have e3 : (Roll.putD Dprint vs [] b0).eval (.tmp 3) = .pointer (some ⟨g3, 0, none⟩) := (Roll.eval_old rfl).trans (hlv.at 0 (3, .pointer (some ⟨g3, 0, none⟩)) rfl)
        clear hp hlv hN
        unfold Roll.Goes
        simp only [Lprint, List.getD_cons_zero, List.getD_cons_succ]
        generalize Roll.putD Dprint vs [] b0 = a1 at *
        refine Roll.goes_val (w' := p) (.pointer (some ⟨g3, 2, none⟩)) rfl ?_ ⟨hI, Below.refl _ _, rfl⟩
        (have ec : ∀ x, a1.eval (.const x) = x := fun _ => rfl); (have ef : ∀ x, a1.eval (.func x) = .func (.func x) #[] #[] := fun _ => rfl); generalize a1.eval = ρ at *
        skip
        go_simp <;> (intros; first | (exfalso; omega) | rfl | omega)
      · intro vs p hI hp
        have h9 : (vs 9) = .pointer (some ⟨g3, 2, none⟩) := hp 9 (by simp [Lprint])
        have e21 : (Roll.putD Dprint vs [9] b0).eval (.tmp 21) = .pointer (some ⟨g3, 2, none⟩) := (Roll.eval_new 9 rfl (by decide) (by decide) (by omega)).trans h9
        clear hp hlv hN
        unfold Roll.Goes
        simp only [Lprint, List.getD_cons_zero, List.getD_cons_succ]
        generalize Roll.putD Dprint vs [9] b0 = a1 at *
        have cf : p.cell? ⟨g3, 2, none⟩ = some (.int .i64 (c : Int)) := (hI.cell (p := ⟨g3, 2, none⟩) HG.out).trans C2.out
        refine Roll.goes_val (w' := p) (.int .i64 (c : Int)) rfl ?_ ⟨hI, Below.refl _ _, rfl⟩
        (have ec : ∀ x, a1.eval (.const x) = x := fun _ => rfl); (have ef : ∀ x, a1.eval (.func x) = .func (.func x) #[] #[] := fun _ => rfl); generalize a1.eval = ρ at *
        clear h9
        go_simp <;> (intros; first | (exfalso; omega) | rfl | omega)
      · intro vs p hI hp
        have h10 : (vs 10) = .int .i64 (c : Int) := hp 10 (by simp [Lprint])
        have e22 : (Roll.putD Dprint vs [10] b0).eval (.tmp 22) = .int .i64 (c : Int) := (Roll.eval_new 10 rfl (by decide) (by decide) (by omega)).trans h10
        clear hp hlv hN
        unfold Roll.Goes
        simp only [Lprint, List.getD_cons_zero, List.getD_cons_succ]
        generalize Roll.putD Dprint vs [10] b0 = a1 at *
        refine Roll.goes_call 48 #[.int .i64 (c : Int), .int .i64 2] p rfl (by have ec : ∀ x, a1.eval (.const x) = x := fun _ => rfl; have ef : ∀ x, a1.eval (.func x) = .func (.func x) #[] #[] := fun _ => rfl; generalize a1.eval = ρ at *; go_simp) ?_
        refine (HP3.out p hI).mono ?_
        rintro z p2 ⟨rfl, hb⟩
        exact ⟨_, rfl, hI.trans (hb.mono hI.size), hb, rfl⟩
      · intro vs p hI hp
        have h8 : (vs 8) = .string s5 := hp 8 (by simp [Lprint])
        have h11 : (vs 11) = .string s6 := hp 11 (by simp [Lprint])
        have e20 : (Roll.putD Dprint vs [8, 11] b0).eval (.tmp 20) = .string s5 := (Roll.eval_new 8 rfl (by decide) (by decide) (by omega)).trans h8
        have e23 : (Roll.putD Dprint vs [8, 11] b0).eval (.tmp 23) = .string s6 := (Roll.eval_new 11 rfl (by decide) (by decide) (by omega)).trans h11
        clear hp hlv hN
        unfold Roll.Goes
        simp only [Lprint, List.getD_cons_zero, List.getD_cons_succ]
        generalize Roll.putD Dprint vs [8, 11] b0 = a1 at *
        have f0 := E7.out
        have f1 := Z5.out
        have f2 := Z6.out
        refine Roll.goes_val (w' := p) (.string s7) rfl ?_ ⟨hI, Below.refl _ _, rfl⟩
        (have ec : ∀ x, a1.eval (.const x) = x := fun _ => rfl); (have ef : ∀ x, a1.eval (.func x) = .func (.func x) #[] #[] := fun _ => rfl); generalize a1.eval = ρ at *
        clear h8 h11
        go_simp <;> (intros; first | (exfalso; omega) | rfl | omega)
    · intro vs p hI hR
      have h0 : (vs 0) = .pointer (some ⟨g3, 0, none⟩) := hR 0 (by omega)
      have h1 : (vs 1) = .int .i64 (a : Int) := hR 1 (by omega)
      have h2 : (vs 2) = .string s1 := hR 2 (by omega)
      have h3 : (vs 3) = .string s2 := hR 3 (by omega)
      have h4 : (vs 4) = .pointer (some ⟨g3, 1, none⟩) := hR 4 (by omega)
      have h5 : (vs 5) = .int .i64 (b : Int) := hR 5 (by omega)
      have h6 : (vs 6) = .string s3 := hR 6 (by omega)
      have h7 : (vs 7) = .string s4 := hR 7 (by omega)
      have h8 : (vs 8) = .string s5 := hR 8 (by omega)
      have h9 : (vs 9) = .pointer (some ⟨g3, 2, none⟩) := hR 9 (by omega)
      have h10 : (vs 10) = .int .i64 (c : Int) := hR 10 (by omega)
      have h11 : (vs 11) = .string s6 := hR 11 (by omega)
      have h12 : (vs 12) = .string s7 := hR 12 (by omega)
      clear hR
      simp only [List.range_succ, List.range_zero, List.nil_append, List.cons_append, Roll.putD, Act.put, List.getD_cons_zero, List.getD_cons_succ, List.setIfInBounds_toArray, List.set_cons_zero, List.set_cons_succ, List.drop_succ_cons, List.drop_zero, Dprint]
      simp only [h0, h1, h2, h3, h4, h5, h6, h7, h8, h9, h10, h11, h12]
      clear h0 h1 h2 h3 h4 h5 h6 h7 h8 h9 h10 h11 h12
      have HI := Lib.hid hI
      clear hI
      go_wp2_with fail
      go_ret
      rw [HR.out]
      exact ⟨rfl, HW.out.trans (HI.out.mono HW.out.size)⟩
  · obtain ⟨e1, e2, e3, e4⟩ := of_no hn
    rw [e1, e2, e3, e4] at HO
    have HR : Hid (printB n = ⟨#[]⟩) := Lib.hid (by unfold printB; rw [if_neg hn])
    clear hn e1 e2 e3 e4 hT
    go_enter Tryd.func24, Tryd.ntmps24
    go_wp2_with (go_at_call 22; refine HO.out.mono ?_; rintro e w2 ⟨rfl, hb⟩; have p6 : DB (w2.alloc (.cells #[.int .i64 0, .int .i64 0, .int .i64 0] 23)) w2.heap.size := ⟨0, 0, 0, heap_new0⟩; have HB := Lib.hid hb; clear hb)
    go_ret
    rw [HR.out]
    exact ⟨rfl, ((((Kept.of_below (fun _ => False) HB.out).alloc _).setRow (fun h => by have := HB.out.size; omega) _).below (Nat.le_refl _) (fun _ _ h => h))⟩

set_option maxRecDepth 100000 in
set_option maxHeartbeats 2000000 in
theorem refPrint_any (n : Int) (w : World) (hT : Tabs w) : Calls Tryd.prog 25 #[.int .i64 n] w fun e w' => e = .returned (.string (printB n)) ∧ Below w.heap.size w w' := by
  have HO := Lib.hid (refOf_any n w hT)
  by_cases hn : okN n
  · obtain ⟨e1, e2, e3, e4⟩ := of_yes hn
    have hv := (of_ok n hn.1 hn.2).1
    have hs := valid_sm hv
    obtain ⟨a, ha⟩ : ∃ a : Nat, yearN n = (a : Int) := ⟨(yearN n).toNat, by omega⟩
    obtain ⟨b, hb⟩ : ∃ b : Nat, monthN n = (b : Int) := ⟨(monthN n).toNat, by omega⟩
    obtain ⟨c, hc⟩ : ∃ c : Nat, mdayN n = (c : Int) := ⟨(mdayN n).toNat, by omega⟩
    rw [e1, e2, e3, e4, ha, hb, hc] at HO
    obtain ⟨s1, hs1⟩ : ∃ s : ByteArray, s = ⟨(p4 a).toArray⟩ := ⟨_, rfl⟩
    obtain ⟨s2, hs2⟩ : ∃ s : ByteArray, s = ⟨(p4 a ++ [45]).toArray⟩ := ⟨_, rfl⟩
    obtain ⟨s3, hs3⟩ : ∃ s : ByteArray, s = ⟨(p2 b).toArray⟩ := ⟨_, rfl⟩
    obtain ⟨s4, hs4⟩ : ∃ s : ByteArray, s = ⟨(p4 a ++ [45] ++ p2 b).toArray⟩ := ⟨_, rfl⟩
    obtain ⟨s5, hs5⟩ : ∃ s : ByteArray, s = ⟨(p4 a ++ [45] ++ p2 b ++ [45]).toArray⟩ := ⟨_, rfl⟩
    obtain ⟨s6, hs6⟩ : ∃ s : ByteArray, s = ⟨(p2 c).toArray⟩ := ⟨_, rfl⟩
    obtain ⟨s7, hs7⟩ : ∃ s : ByteArray, s = ⟨(p4 a ++ [45] ++ p2 b ++ [45] ++ p2 c).toArray⟩ := ⟨_, rfl⟩
    have E2 : Hid (s1 ++ (⟨#[45]⟩ : ByteArray) = s2) := Lib.hid (by rw [hs1, hs2]; exact app_mk _ [45])
    have E4 : Hid (s2 ++ s3 = s4) := Lib.hid (by rw [hs2, hs3, hs4, app_mk])
    have E5 : Hid (s4 ++ (⟨#[45]⟩ : ByteArray) = s5) := Lib.hid (by rw [hs4, hs5]; exact app_mk _ [45])
    have E7 : Hid (s5 ++ s6 = s7) := Lib.hid (by rw [hs5, hs6, hs7, app_mk])
    have Z1 : Hid (s1.size = 4) := Lib.hid (by rw [hs1]; rfl)
    have Z2 : Hid (s2.size = 5) := Lib.hid (by rw [hs2]; rfl)
    have Z3 : Hid (s3.size = 2) := Lib.hid (by rw [hs3]; rfl)
    have Z4 : Hid (s4.size = 7) := Lib.hid (by rw [hs4]; rfl)
    have Z5 : Hid (s5.size = 8) := Lib.hid (by rw [hs5]; rfl)
    have Z6 : Hid (s6.size = 2) := Lib.hid (by rw [hs6]; rfl)
    have ZD : Hid ((⟨#[45]⟩ : ByteArray).size = 1) := Lib.hid rfl
    have HR : Hid (printB n = s7) := Lib.hid (by
      unfold printB
      rw [if_pos hn, hs7, ha, hb, hc]
      unfold printL
      rw [Int.toNat_natCast, Int.toNat_natCast, Int.toNat_natCast]
      simp)
    have hqa := pad4 a (by omega)
    have hqb := pad2 b (by omega)
    have hqc := pad2 c (by omega)
    have HP1 : Hid (∀ p, Tabs p → Calls Tryd.prog 49 #[.int .i64 (a : Int), .int .i64 4] p fun e w' => e = .returned (.string s1) ∧ Below p.heap.size p w') := Lib.hid (fun p hp => by
      have h := refPadded_gen a 4 (by omega) (by omega) hqa.1 p
      rw [hqa.2, ← hs1] at h
      exact h.mono fun e w1 h => ⟨h.1, h.2 ▸ Below.refl _ _⟩)
    have HP2 : Hid (∀ p, Tabs p → Calls Tryd.prog 49 #[.int .i64 (b : Int), .int .i64 2] p fun e w' => e = .returned (.string s3) ∧ Below p.heap.size p w') := Lib.hid (fun p hp => by
      have h := refPadded_gen b 2 (by omega) (by omega) hqb.1 p
      rw [hqb.2, ← hs3] at h
      exact h.mono fun e w1 h => ⟨h.1, h.2 ▸ Below.refl _ _⟩)
    have HP3 : Hid (∀ p, Tabs p → Calls Tryd.prog 49 #[.int .i64 (c : Int), .int .i64 2] p fun e w' => e = .returned (.string s6) ∧ Below p.heap.size p w') := Lib.hid (fun p hp => by
      have h := refPadded_gen c 2 (by omega) (by omega) hqc.1 p
      rw [hqc.2, ← hs6] at h
      exact h.mono fun e w1 h => ⟨h.1, h.2 ▸ Below.refl _ _⟩)
    have HT := Lib.hid hT
    clear hT hn e1 e2 e3 e4 hv hs ha hb hc hs1 hs2 hs3 hs4 hs5 hs6 hs7 hqa hqb hqc
    go_enter Tryd.func25, Tryd.ntmps25
    go_upto_region 2 with (go_at_call 23; refine HO.out.mono ?_; rintro e w2 ⟨rfl, hb⟩; have p6 : DB (w2.alloc (.cells #[.int .i64 0, .int .i64 0, .int .i64 0] 23)) w2.heap.size := ⟨0, 0, 0, heap_new0⟩; have HB := Lib.hid hb; clear hb)
    obtain ⟨w1, hw⟩ : ∃ w1, w1 = (w2.alloc (.cells #[.int .i64 0, .int .i64 0, .int .i64 0] 23)).setRow w2.heap.size #[.int .i64 (a : Int), .int .i64 (b : Int), .int .i64 (c : Int)] := ⟨_, rfl⟩
    obtain ⟨g3, hg⟩ : ∃ g3, g3 = w2.heap.size := ⟨_, rfl⟩
    have hrow : w1.heap[g3]? = some (.cells #[.int .i64 (a : Int), .int .i64 (b : Int), .int .i64 (c : Int)] 23 (0, 0)) := by rw [hw, hg]; exact setRow_heap _ _ _ _ _ _ heap_new0
    have HW : Hid (Below w.heap.size w w1) := Lib.hid (by rw [hw]; exact ((((Kept.of_below (fun _ => False) HB.out).alloc _).setRow (fun h => by have := HB.out.size; omega) _).below (Nat.le_refl _) (fun _ _ h => h)))
    have C0 : Hid (w1.cell? ⟨g3, 0, none⟩ = some (.int .i64 (a : Int))) := Lib.hid (cell_of_row w1 g3 0 _ _ _ hrow)
    have C1 : Hid (w1.cell? ⟨g3, 1, none⟩ = some (.int .i64 (b : Int))) := Lib.hid (cell_of_row w1 g3 1 _ _ _ hrow)
    have C2 : Hid (w1.cell? ⟨g3, 2, none⟩ = some (.int .i64 (c : Int))) := Lib.hid (cell_of_row w1 g3 2 _ _ _ hrow)
    have HG : Hid (g3 < w1.heap.size) := Lib.hid (block_lt_of_cell C0.out)
    have HP1a := HP1; have HP2a := HP2; have HP3a := HP3
    clear HP1 HP2 HP3
    have HP1 : Hid (∀ p, Below w1.heap.size w1 p → _) := Lib.hid (fun p hp => HP1a.out p ((HT.out.below HW.out).below hp))
    have HP2 : Hid (∀ p, Below w1.heap.size w1 p → _) := Lib.hid (fun p hp => HP2a.out p ((HT.out.below HW.out).below hp))
    have HP3 : Hid (∀ p, Below w1.heap.size w1 p → _) := Lib.hid (fun p hp => HP3a.out p ((HT.out.below HW.out).below hp))
    rw [← hw]
    rw [← hg]
    clear hw hg hrow p6 HB HP1a HP2a HP3a HO HT
    go_upto_region 4 with fail
    refine Roll.region_f 13 25 DrefPrint LrefPrint [(3, .pointer (some ⟨g3, 0, none⟩))] (fun p => Below w1.heap.size w1 p) (fun p p2 => Below p.heap.size p p2) [fun vv p => vv = .pointer (some ⟨g3, 0, none⟩), fun vv p => vv = .int .i64 (a : Int), fun vv p => vv = .string s1, fun vv p => vv = .string s2, fun vv p => vv = .pointer (some ⟨g3, 1, none⟩), fun vv p => vv = .int .i64 (b : Int), fun vv p => vv = .string s3, fun vv p => vv = .string s4, fun vv p => vv = .string s5, fun vv p => vv = .pointer (some ⟨g3, 2, none⟩), fun vv p => vv = .int .i64 (c : Int), fun vv p => vv = .string s6, fun vv p => vv = .string s7] (by kernel_rfl) (by kernel_rfl) rfl ⟨rfl, trivial⟩ ((Below.refl _ _).drew) ?_ ?_ ?_
    · exact ⟨fun _ _ _ _ h => h, fun _ _ _ _ h => h, fun _ _ _ _ h => h, fun _ _ _ _ h => h, fun _ _ _ _ h => h, fun _ _ _ _ h => h, fun _ _ _ _ h => h, fun _ _ _ _ h => h, fun _ _ _ _ h => h, fun _ _ _ _ h => h, fun _ _ _ _ h => h, fun _ _ _ _ h => h, fun _ _ _ _ h => h, trivial⟩
    · intro b0 hN hlv
      refine ⟨?_, ?_, ?_, ?_, ?_, ?_, ?_, ?_, ?_, ?_, ?_, ?_, ?_, trivial⟩
      · intro vs p hI hp
        have e3 : (Roll.putD DrefPrint vs [] b0).eval (.tmp 3) = .pointer (some ⟨g3, 0, none⟩) := (Roll.eval_old rfl).trans (hlv.at 0 (3, .pointer (some ⟨g3, 0, none⟩)) rfl)
        clear hp hlv hN
        unfold Roll.Goes
        simp only [LrefPrint, List.getD_cons_zero, List.getD_cons_succ]
        generalize Roll.putD DrefPrint vs [] b0 = a1 at *
        refine Roll.goes_val (w' := p) (.pointer (some ⟨g3, 0, none⟩)) rfl ?_ ⟨hI, Below.refl _ _, rfl⟩
        (have ec : ∀ x, a1.eval (.const x) = x := fun _ => rfl); (have ef : ∀ x, a1.eval (.func x) = .func (.func x) #[] #[] := fun _ => rfl); generalize a1.eval = ρ at *
        skip
        go_simp <;> (intros; first | (exfalso; omega) | rfl | omega)
      · intro vs p hI hp
        have h0 : (vs 0) = .pointer (some ⟨g3, 0, none⟩) := hp 0 (by simp [LrefPrint])
        have e12 : (Roll.putD DrefPrint vs [0] b0).eval (.tmp 12) = .pointer (some ⟨g3, 0, none⟩) := (Roll.eval_new 0 rfl (by decide) (by decide) (by omega)).trans h0
        clear hp hlv hN
        unfold Roll.Goes
        simp only [LrefPrint, List.getD_cons_zero, List.getD_cons_succ]
        generalize Roll.putD DrefPrint vs [0] b0 = a1 at *
        have cf : p.cell? ⟨g3, 0, none⟩ = some (.int .i64 (a : Int)) := (hI.cell (p := ⟨g3, 0, none⟩) HG.out).trans C0.out
        refine Roll.goes_val (w' := p) (.int .i64 (a : Int)) rfl ?_ ⟨hI, Below.refl _ _, rfl⟩
        (have ec : ∀ x, a1.eval (.const x) = x := fun _ => rfl); (have ef : ∀ x, a1.eval (.func x) = .func (.func x) #[] #[] := fun _ => rfl); generalize a1.eval = ρ at *
        clear h0
        go_simp <;> (intros; first | (exfalso; omega) | rfl | omega)
      · intro vs p hI hp
        have h1 : (vs 1) = .int .i64 (a : Int) := hp 1 (by simp [LrefPrint])
        have e13 : (Roll.putD DrefPrint vs [1] b0).eval (.tmp 13) = .int .i64 (a : Int) := (Roll.eval_new 1 rfl (by decide) (by decide) (by omega)).trans h1
        clear hp hlv hN
        unfold Roll.Goes
        simp only [LrefPrint, List.getD_cons_zero, List.getD_cons_succ]
        generalize Roll.putD DrefPrint vs [1] b0 = a1 at *
        refine Roll.goes_call 49 #[.int .i64 (a : Int), .int .i64 4] p rfl (by have ec : ∀ x, a1.eval (.const x) = x := fun _ => rfl; have ef : ∀ x, a1.eval (.func x) = .func (.func x) #[] #[] := fun _ => rfl; generalize a1.eval = ρ at *; go_simp) ?_
        refine (HP1.out p hI).mono ?_
        rintro z p2 ⟨rfl, hb⟩
        exact ⟨_, rfl, hI.trans (hb.mono hI.size), hb, rfl⟩
      · intro vs p hI hp
        have h2 : (vs 2) = .string s1 := hp 2 (by simp [LrefPrint])
        have e14 : (Roll.putD DrefPrint vs [2] b0).eval (.tmp 14) = .string s1 := (Roll.eval_new 2 rfl (by decide) (by decide) (by omega)).trans h2
        clear hp hlv hN
        unfold Roll.Goes
        simp only [LrefPrint, List.getD_cons_zero, List.getD_cons_succ]
        generalize Roll.putD DrefPrint vs [2] b0 = a1 at *
        have f0 := E2.out
        have f1 := Z1.out
        have f2 := ZD.out
        refine Roll.goes_val (w' := p) (.string s2) rfl ?_ ⟨hI, Below.refl _ _, rfl⟩
        (have ec : ∀ x, a1.eval (.const x) = x := fun _ => rfl); (have ef : ∀ x, a1.eval (.func x) = .func (.func x) #[] #[] := fun _ => rfl); generalize a1.eval = ρ at *
        clear h2
        go_simp <;> (intros; first | (exfalso; omega) | rfl | omega)
      · intro vs p hI hp
        have e3 : (Roll.putD DrefPrint vs [] b0).eval (.tmp 3) = .pointer (some ⟨g3, 0, none⟩) := (Roll.eval_old rfl).trans (hlv.at 0 (3, .pointer (some ⟨g3, 0, none⟩)) rfl)
        clear hp hlv hN
        unfold Roll.Goes
        simp only [LrefPrint, List.getD_cons_zero, List.getD_cons_succ]
        generalize Roll.putD DrefPrint vs [] b0 = a1 at *
        refine Roll.goes_val (w' := p) (.pointer (some ⟨g3, 1, none⟩)) rfl ?_ ⟨hI, Below.refl _ _, rfl⟩
        (have ec : ∀ x, a1.eval (.const x) = x := fun _ => rfl); (have ef : ∀ x, a1.eval (.func x) = .func (.func x) #[] #[] := fun _ => rfl); generalize a1.eval = ρ at *
        skip
        go_simp <;> (intros; first | (exfalso; omega) | rfl | omega)
      · intro vs p hI hp
        have h4 : (vs 4) = .pointer (some ⟨g3, 1, none⟩) := hp 4 (by simp [LrefPrint])
        have e16 : (Roll.putD DrefPrint vs [4] b0).eval (.tmp 16) = .pointer (some ⟨g3, 1, none⟩) := (Roll.eval_new 4 rfl (by decide) (by decide) (by omega)).trans h4
        clear hp hlv hN
        unfold Roll.Goes
        simp only [LrefPrint, List.getD_cons_zero, List.getD_cons_succ]
        generalize Roll.putD DrefPrint vs [4] b0 = a1 at *
        have cf : p.cell? ⟨g3, 1, none⟩ = some (.int .i64 (b : Int)) := (hI.cell (p := ⟨g3, 1, none⟩) HG.out).trans C1.out
        refine Roll.goes_val (w' := p) (.int .i64 (b : Int)) rfl ?_ ⟨hI, Below.refl _ _, rfl⟩
        (have ec : ∀ x, a1.eval (.const x) = x := fun _ => rfl); (have ef : ∀ x, a1.eval (.func x) = .func (.func x) #[] #[] := fun _ => rfl); generalize a1.eval = ρ at *
        clear h4
        go_simp <;> (intros; first | (exfalso; omega) | rfl | omega)
      · intro vs p hI hp
        have h5 : (vs 5) = .int .i64 (b : Int) := hp 5 (by simp [LrefPrint])
        have e17 : (Roll.putD DrefPrint vs [5] b0).eval (.tmp 17) = .int .i64 (b : Int) := (Roll.eval_new 5 rfl (by decide) (by decide) (by omega)).trans h5
        clear hp hlv hN
        unfold Roll.Goes
        simp only [LrefPrint, List.getD_cons_zero, List.getD_cons_succ]
        generalize Roll.putD DrefPrint vs [5] b0 = a1 at *
        refine Roll.goes_call 49 #[.int .i64 (b : Int), .int .i64 2] p rfl (by have ec : ∀ x, a1.eval (.const x) = x := fun _ => rfl; have ef : ∀ x, a1.eval (.func x) = .func (.func x) #[] #[] := fun _ => rfl; generalize a1.eval = ρ at *; go_simp) ?_
        refine (HP2.out p hI).mono ?_
        rintro z p2 ⟨rfl, hb⟩
        exact ⟨_, rfl, hI.trans (hb.mono hI.size), hb, rfl⟩
      · intro vs p hI hp
        have h3 : (vs 3) = .string s2 := hp 3 (by simp [LrefPrint])
        have h6 : (vs 6) = .string s3 := hp 6 (by simp [LrefPrint])
        have e15 : (Roll.putD DrefPrint vs [3, 6] b0).eval (.tmp 15) = .string s2 := (Roll.eval_new 3 rfl (by decide) (by decide) (by omega)).trans h3
        have e18 : (Roll.putD DrefPrint vs [3, 6] b0).eval (.tmp 18) = .string s3 := (Roll.eval_new 6 rfl (by decide) (by decide) (by omega)).trans h6
        clear hp hlv hN
        unfold Roll.Goes
        simp only [LrefPrint, List.getD_cons_zero, List.getD_cons_succ]
        generalize Roll.putD DrefPrint vs [3, 6] b0 = a1 at *
        have f0 := E4.out
        have f1 := Z2.out
        have f2 := Z3.out
        refine Roll.goes_val (w' := p) (.string s4) rfl ?_ ⟨hI, Below.refl _ _, rfl⟩
        (have ec : ∀ x, a1.eval (.const x) = x := fun _ => rfl); (have ef : ∀ x, a1.eval (.func x) = .func (.func x) #[] #[] := fun _ => rfl); generalize a1.eval = ρ at *
        clear h3 h6
        go_simp <;> (intros; first | (exfalso; omega) | rfl | omega)
      · intro vs p hI hp
        have h7 : (vs 7) = .string s4 := hp 7 (by simp [LrefPrint])
        have e19 : (Roll.putD DrefPrint vs [7] b0).eval (.tmp 19) = .string s4 := (Roll.eval_new 7 rfl (by decide) (by decide) (by omega)).trans h7
        clear hp hlv hN
        unfold Roll.Goes
        simp only [LrefPrint, List.getD_cons_zero, List.getD_cons_succ]
        generalize Roll.putD DrefPrint vs [7] b0 = a1 at *
        have f0 := E5.out
        have f1 := Z4.out
        have f2 := ZD.out
        refine Roll.goes_val (w' := p) (.string s5) rfl ?_ ⟨hI, Below.refl _ _, rfl⟩
        (have ec : ∀ x, a1.eval (.const x) = x := fun _ => rfl); (have ef : ∀ x, a1.eval (.func x) = .func (.func x) #[] #[] := fun _ => rfl); generalize a1.eval = ρ at *
        clear h7
        go_simp <;> (intros; first | (exfalso; omega) | rfl | omega)
      · intro vs p hI hp
        have e3 : (Roll.putD DrefPrint vs [] b0).eval (.tmp 3) = .pointer (some ⟨g3, 0, none⟩) := (Roll.eval_old rfl).trans (hlv.at 0 (3, .pointer (some ⟨g3, 0, none⟩)) rfl)
        clear hp hlv hN
        unfold Roll.Goes
        simp only [LrefPrint, List.getD_cons_zero, List.getD_cons_succ]
        generalize Roll.putD DrefPrint vs [] b0 = a1 at *
        refine Roll.goes_val (w' := p) (.pointer (some ⟨g3, 2, none⟩)) rfl ?_ ⟨hI, Below.refl _ _, rfl⟩
        (have ec : ∀ x, a1.eval (.const x) = x := fun _ => rfl); (have ef : ∀ x, a1.eval (.func x) = .func (.func x) #[] #[] := fun _ => rfl); generalize a1.eval = ρ at *
        skip
        go_simp <;> (intros; first | (exfalso; omega) | rfl | omega)
      · intro vs p hI hp
        have h9 : (vs 9) = .pointer (some ⟨g3, 2, none⟩) := hp 9 (by simp [LrefPrint])
        have e21 : (Roll.putD DrefPrint vs [9] b0).eval (.tmp 21) = .pointer (some ⟨g3, 2, none⟩) := (Roll.eval_new 9 rfl (by decide) (by decide) (by omega)).trans h9
        clear hp hlv hN
        unfold Roll.Goes
        simp only [LrefPrint, List.getD_cons_zero, List.getD_cons_succ]
        generalize Roll.putD DrefPrint vs [9] b0 = a1 at *
        have cf : p.cell? ⟨g3, 2, none⟩ = some (.int .i64 (c : Int)) := (hI.cell (p := ⟨g3, 2, none⟩) HG.out).trans C2.out
        refine Roll.goes_val (w' := p) (.int .i64 (c : Int)) rfl ?_ ⟨hI, Below.refl _ _, rfl⟩
        (have ec : ∀ x, a1.eval (.const x) = x := fun _ => rfl); (have ef : ∀ x, a1.eval (.func x) = .func (.func x) #[] #[] := fun _ => rfl); generalize a1.eval = ρ at *
        clear h9
        go_simp <;> (intros; first | (exfalso; omega) | rfl | omega)
      · intro vs p hI hp
        have h10 : (vs 10) = .int .i64 (c : Int) := hp 10 (by simp [LrefPrint])
        have e22 : (Roll.putD DrefPrint vs [10] b0).eval (.tmp 22) = .int .i64 (c : Int) := (Roll.eval_new 10 rfl (by decide) (by decide) (by omega)).trans h10
        clear hp hlv hN
        unfold Roll.Goes
        simp only [LrefPrint, List.getD_cons_zero, List.getD_cons_succ]
        generalize Roll.putD DrefPrint vs [10] b0 = a1 at *
        refine Roll.goes_call 49 #[.int .i64 (c : Int), .int .i64 2] p rfl (by have ec : ∀ x, a1.eval (.const x) = x := fun _ => rfl; have ef : ∀ x, a1.eval (.func x) = .func (.func x) #[] #[] := fun _ => rfl; generalize a1.eval = ρ at *; go_simp) ?_
        refine (HP3.out p hI).mono ?_
        rintro z p2 ⟨rfl, hb⟩
        exact ⟨_, rfl, hI.trans (hb.mono hI.size), hb, rfl⟩
      · intro vs p hI hp
        have h8 : (vs 8) = .string s5 := hp 8 (by simp [LrefPrint])
        have h11 : (vs 11) = .string s6 := hp 11 (by simp [LrefPrint])
        have e20 : (Roll.putD DrefPrint vs [8, 11] b0).eval (.tmp 20) = .string s5 := (Roll.eval_new 8 rfl (by decide) (by decide) (by omega)).trans h8
        have e23 : (Roll.putD DrefPrint vs [8, 11] b0).eval (.tmp 23) = .string s6 := (Roll.eval_new 11 rfl (by decide) (by decide) (by omega)).trans h11
        clear hp hlv hN
        unfold Roll.Goes
        simp only [LrefPrint, List.getD_cons_zero, List.getD_cons_succ]
        generalize Roll.putD DrefPrint vs [8, 11] b0 = a1 at *
        have f0 := E7.out
        have f1 := Z5.out
        have f2 := Z6.out
        refine Roll.goes_val (w' := p) (.string s7) rfl ?_ ⟨hI, Below.refl _ _, rfl⟩
        (have ec : ∀ x, a1.eval (.const x) = x := fun _ => rfl); (have ef : ∀ x, a1.eval (.func x) = .func (.func x) #[] #[] := fun _ => rfl); generalize a1.eval = ρ at *
        clear h8 h11
        go_simp <;> (intros; first | (exfalso; omega) | rfl | omega)
    · intro vs p hI hR
      have h0 : (vs 0) = .pointer (some ⟨g3, 0, none⟩) := hR 0 (by omega)
      have h1 : (vs 1) = .int .i64 (a : Int) := hR 1 (by omega)
      have h2 : (vs 2) = .string s1 := hR 2 (by omega)
      have h3 : (vs 3) = .string s2 := hR 3 (by omega)
      have h4 : (vs 4) = .pointer (some ⟨g3, 1, none⟩) := hR 4 (by omega)
      have h5 : (vs 5) = .int .i64 (b : Int) := hR 5 (by omega)
      have h6 : (vs 6) = .string s3 := hR 6 (by omega)
      have h7 : (vs 7) = .string s4 := hR 7 (by omega)
      have h8 : (vs 8) = .string s5 := hR 8 (by omega)
      have h9 : (vs 9) = .pointer (some ⟨g3, 2, none⟩) := hR 9 (by omega)
      have h10 : (vs 10) = .int .i64 (c : Int) := hR 10 (by omega)
      have h11 : (vs 11) = .string s6 := hR 11 (by omega)
      have h12 : (vs 12) = .string s7 := hR 12 (by omega)
      clear hR
      simp only [List.range_succ, List.range_zero, List.nil_append, List.cons_append, Roll.putD, Act.put, List.getD_cons_zero, List.getD_cons_succ, List.setIfInBounds_toArray, List.set_cons_zero, List.set_cons_succ, List.drop_succ_cons, List.drop_zero, DrefPrint]
      simp only [h0, h1, h2, h3, h4, h5, h6, h7, h8, h9, h10, h11, h12]
      clear h0 h1 h2 h3 h4 h5 h6 h7 h8 h9 h10 h11 h12
      have HI := Lib.hid hI
      clear hI
      go_wp2_with fail
      go_ret
      rw [HR.out]
      exact ⟨rfl, HW.out.trans (HI.out.mono HW.out.size)⟩
  · obtain ⟨e1, e2, e3, e4⟩ := of_no hn
    rw [e1, e2, e3, e4] at HO
    have HR : Hid (printB n = ⟨#[]⟩) := Lib.hid (by unfold printB; rw [if_neg hn])
    clear hn e1 e2 e3 e4 hT
    go_enter Tryd.func25, Tryd.ntmps25
    go_wp2_with (go_at_call 23; refine HO.out.mono ?_; rintro e w2 ⟨rfl, hb⟩; have p6 : DB (w2.alloc (.cells #[.int .i64 0, .int .i64 0, .int .i64 0] 23)) w2.heap.size := ⟨0, 0, 0, heap_new0⟩; have HB := Lib.hid hb; clear hb)
    go_ret
    rw [HR.out]
    exact ⟨rfl, ((((Kept.of_below (fun _ => False) HB.out).alloc _).setRow (fun h => by have := HB.out.size; omega) _).below (Nat.le_refl _) (fun _ _ h => h))⟩
end Go.Proofs.YtcoijmggfkjcjaaDoor
namespace Go.Proofs.YtcoijmggfkjcjaaDoor
open Go.RowKit
set_option linter.unusedSimpArgs false
set_option linter.unusedVariables false
theorem run_indexCall (s : ByteArray) (c : Int) (w : World) :
    (callFunc 115 #[.string s, .int .u8 c]).run Tryd.prog w = .ok (.value (.int .i64 (Go.Lib.indexByte s.data.toList c.toNat.toUInt8))) w := by
  rw [run_callFunc_indexByte Tryd.func115 (by kernel_rfl) (by kernel_rfl) (by kernel_rfl) (by kernel_rfl), Go.Lib.run_indexByteString]
  rfl
attribute [local go_sem] run_indexCall
theorem str_beqD (a b : ByteArray) : (a.toList == b.toList) = decide (a = b) := by
  rw [ByteArray.toList_eq, ByteArray.toList_eq, Bool.eq_iff_iff]
  simp only [beq_iff_eq, decide_eq_true_eq]
  constructor
  · intro h
    obtain ⟨⟨la⟩⟩ := a
    obtain ⟨⟨lb⟩⟩ := b
    simp only at h
    rw [h]
  · intro h
    rw [h]
/-- where the first '-' is; -1: nowhere -/
def dashI (s : ByteArray) : Int := Go.Lib.indexByte s.data.toList 45
theorem idx_lt (l : List UInt8) (c : UInt8) : Go.Lib.indexByte l c < (l.length : Int) := by
  induction l with
  | nil => exact (by decide : (-1 : Int) < 0)
  | cons b l ih =>
    unfold Go.Lib.indexByte
    split
    · simp only [List.length_cons]; omega
    · split
      · simp only [List.length_cons]; omega
      · simp only [List.length_cons]; omega
theorem dashI_cases (s : ByteArray) : dashI s = -1 ∨ ∃ i : Nat, dashI s = (i : Int) ∧ i < s.size := by
  have h1 := Go.Lib.indexByte_ge s.data.toList 45
  have h2 := idx_lt s.data.toList 45
  have e : s.data.toList.length = s.size := by rw [Array.length_toList]; rfl
  unfold dashI
  rcases Int.lt_or_le (Go.Lib.indexByte s.data.toList 45) 0 with h | h
  · left; omega
  · right; exact ⟨(Go.Lib.indexByte s.data.toList 45).toNat, by omega, by omega⟩
def cutA (s : ByteArray) : ByteArray := if 0 ≤ dashI s then s.extract 0 (dashI s).toNat else s
def cutB (s : ByteArray) : ByteArray := if 0 ≤ dashI s then s.extract ((dashI s).toNat + 1) s.size else ⟨#[]⟩
def cutF (s : ByteArray) : Bool := decide (0 ≤ dashI s)
set_option maxRecDepth 100000 in
theorem slIndexByte_any (s : ByteArray) (w : World) :
    Calls Tryd.prog 98 #[.string s, .int .u8 45] w fun e w' => e = .returned (.int .i64 (dashI s)) ∧ w = w' := by
  go_enter Tryd.func98, Tryd.ntmps98
  go_wp2_with fail
  go_ret
  exact ⟨rfl, rfl⟩
set_option maxRecDepth 100000 in
theorem slIndex_any (s : ByteArray) (w : World) :
    Calls Tryd.prog 83 #[.string s, .string ⟨#[45]⟩] w fun e w' => e = .returned (.int .i64 (dashI s)) ∧ w = w' := by
  have HC := Lib.hid (slIndexByte_any s w)
  by_cases hd : s = ⟨#[45]⟩
  · subst hd
    have HD : Hid (dashI ⟨#[45]⟩ = 0) := Lib.hid (by decide)
    clear HC
    go_enter Tryd.func83, Tryd.ntmps83
    go_wp2_with fail
    go_ret
    rw [HD.out]
    exact ⟨rfl, rfl⟩
  have hk : ([45] == s.toList) = false := by
    have := str_beqD ⟨#[45]⟩ s
    rw [decide_eq_false (fun h => hd h.symm), ByteArray.toList_eq] at this
    exact this
  clear hd
  go_enter Tryd.func83, Tryd.ntmps83
  go_wp2_with (go_at_call 98; refine HC.out.mono ?_; rintro e w1 ⟨rfl, rfl⟩)
  go_ret
  exact ⟨rfl, rfl⟩
set_option maxRecDepth 100000 in
set_option maxHeartbeats 1000000 in
theorem slCut_any (s : ByteArray) (w : World) (hs : s.size ≤ 9223372036854775807) :
    Calls Tryd.prog 65 #[.string s, .string ⟨#[45]⟩] w fun e w' => e = .returned (.tuple #[.string (cutA s), .string (cutB s), .bool (cutF s)]) ∧ Below w.heap.size w w' := by
  have HC := Lib.hid (slIndex_any s w)
  rcases dashI_cases s with hi | ⟨i, hi, hlt⟩
  · have HR : Hid (cutA s = s ∧ cutB s = ⟨#[]⟩ ∧ cutF s = false) := Lib.hid (by unfold cutA cutB cutF; rw [hi]; simp)
    rw [hi] at HC
    clear hi
    go_enter Tryd.func65, Tryd.ntmps65
    go_wp2_with (go_at_call 83; refine HC.out.mono ?_; rintro e w1 ⟨rfl, rfl⟩)
    refine bodyPost_ret (results_tmp3 rfl _ _ _) rfl ?_
    rw [HR.out.1, HR.out.2.1, HR.out.2.2]
    exact ⟨rfl, Below.refl _ _⟩
  · have HR : Hid (cutA s = s.extract 0 i ∧ cutB s = s.extract (i + 1) s.size ∧ cutF s = true) := Lib.hid (by unfold cutA cutB cutF; rw [hi]; simp)
    rw [hi] at HC
    have h0 : (0 : Int) ≤ (i : Int) := by omega
    have h1 : (i : Int) ≤ (s.size : Int) := by omega
    have h2 : (i : Int) + 1 ≤ (s.size : Int) := by omega
    have h3 : IntKind.i64.wrap ((i : Int) + 1) = (i : Int) + 1 := i64_id _ (by omega) (by omega)
    have hz : (⟨#[45]⟩ : ByteArray).size = 1 := rfl
    clear hi
    go_enter Tryd.func65, Tryd.ntmps65
    go_wp2_with (go_at_call 83; refine HC.out.mono ?_; rintro e w1 ⟨rfl, rfl⟩)
    go_quiet (fail)
    go_wp2
    refine bodyPost_ret (results_tmp3 rfl _ _ _) rfl ?_
    rw [HR.out.1, HR.out.2.1, HR.out.2.2]
    exact ⟨rfl, below_drewN (Below.refl _ _) _⟩
set_option maxRecDepth 100000 in
set_option maxHeartbeats 1000000 in
theorem cut_any (s : ByteArray) (w : World) (hs : s.size ≤ 9223372036854775807) :
    Calls Tryd.prog 54 #[.string s, .string ⟨#[45]⟩] w fun e w' => e = .returned (.tuple #[.string (cutA s), .string (cutB s), .bool (cutF s)]) ∧ Below w.heap.size w w' := by
  have HC := Lib.hid (slCut_any s w hs)
  go_enter Tryd.func54, Tryd.ntmps54
  go_wp2_with (go_at_call 65; refine HC.out.mono ?_; rintro e w1 ⟨rfl, hb⟩; have HB := Lib.hid hb; clear hb)
  refine bodyPost_ret (results_tmp3 rfl _ _ _) rfl ?_
  exact ⟨rfl, HB.out⟩
end Go.Proofs.YtcoijmggfkjcjaaDoor
namespace Go.Proofs.YtcoijmggfkjcjaaDoor
open Go.RowKit
set_option linter.unusedSimpArgs false
set_option linter.unusedVariables false
theorem numF_bd : ∀ (l : List UInt8) (n : Int), 0 ≤ n → 0 ≤ numF n l ∧ numF n l ≤ (n + 29) * 10 ^ l.length
  | [], n, h => by simp [numF]; omega
  | c :: l, n, h => by
    have hc := (c - 48).toNat_lt
    have h1 := numF_bd l (10 * n + ((c - 48).toNat : Int)) (by omega)
    have e : numF n (c :: l) = numF (10 * n + ((c - 48).toNat : Int)) l := rfl
    rw [e]
    refine ⟨h1.1, Int.le_trans h1.2 ?_⟩
    rw [List.length_cons, Int.pow_succ]
    have hp : (0 : Int) ≤ 10 ^ l.length := by
      have : (0 : Int) < 10 ^ l.length := Int.pow_pos (by decide)
      omega
    have h2 : 10 * n + ((c - 48).toNat : Int) + 29 ≤ (n + 29) * 10 := by omega
    have h3 := Int.mul_le_mul_of_nonneg_right h2 hp
    rw [Int.mul_assoc, Int.mul_comm 10 (10 ^ l.length)] at h3
    exact h3
theorem numL_bd (l : List UInt8) (h : l.length ≤ 4) : 0 ≤ numL l ∧ numL l ≤ 290000 := by
  have h1 := numF_bd l 0 (by omega)
  refine ⟨h1.1, Int.le_trans h1.2 ?_⟩
  have : l.length = 0 ∨ l.length = 1 ∨ l.length = 2 ∨ l.length = 3 ∨ l.length = 4 := by omega
  rcases this with h | h | h | h | h <;> (rw [h]; decide)
theorem numL_snoc (l : List UInt8) (c : UInt8) : numL (l ++ [c]) = 10 * numL l + ((c - 48).toNat : Int) := by simp [numL, numF, List.foldl_append]
theorem sub48 (c : UInt8) : IntKind.u8.wrap ((c.toNat : Int) - 48) = ((c - 48).toNat : Int) := by
  have h : ∀ n : Fin 256, IntKind.u8.wrap (((UInt8.ofNat n.val).toNat : Int) - 48) = (((UInt8.ofNat n.val) - 48).toNat : Int) := by decide +kernel
  have e : UInt8.ofNat c.toNat = c := by simp
  have := h ⟨c.toNat, c.toNat_lt⟩
  rw [e] at this
  exact this
theorem isD_yes (c : UInt8) (h1 : 48 ≤ c.toNat) (h2 : c.toNat ≤ 57) : [c].all isD = true := by simp [isD, h1, h2]
theorem isD_no (c : UInt8) (h : c.toNat < 48 ∨ 57 < c.toNat) : [c].all isD = false := by
  have : ¬ (48 ≤ c.toNat ∧ c.toNat ≤ 57) := by omega
  simp only [List.all_cons, List.all_nil, Bool.and_true, isD, decide_eq_false this]
/-- what the closure leaves in the error that it keeps -/
def errV (v : Int) (l : List UInt8) (k : Nat) : Int := if l.length = k ∧ l.all isD = true then v else 7
set_option maxRecDepth 100000 in
set_option maxHeartbeats 2000000 in
theorem number_clo (s : ByteArray) (k : Nat) (hk : k ≤ 4) (g : Nat) (v : Int) (w : World) (hrow : w.heap[g]? = some (.cells #[.int .i64 v] 26 (0, 0))) :
    Calls Tryd.prog 53 #[.string s, .int .i64 (k : Int), .pointer (some ⟨g, 0, none⟩)] w fun e w' => e = .returned (.int .i64 (if s.size = k then numL s.data.toList else 0)) ∧ w'.heap[g]? = some (.cells #[.int .i64 (errV v s.data.toList k)] 26 (0, 0)) ∧ Kept (fun b => b = g) w w' := by
  have hls : s.data.toList.length = s.size := by rw [Array.length_toList]; rfl
  have c0 : w.cell? ⟨g, 0, none⟩ = some (.int .i64 v) := cell_of_row w g 0 _ _ _ hrow
  have f0 : w.frozen? ⟨g, 0, none⟩ = false := frozen_of_row w g 0 _ _ hrow
  by_cases hz : s.size = k
  · have hz2 : ¬ (s.size : Int) = (k : Int) → False := fun h => h (by omega)
    have hz3 : (s.size : Int) = (k : Int) := by omega
    obtain ⟨l, hl⟩ : ∃ l, l = s.data.toList := ⟨_, rfl⟩
    rw [← hl] at hls
    rw [if_pos hz, ← hl]
    have HL := Lib.hid hl
    have HLS := Lib.hid hls
    have HROW0 := Lib.hid hrow
    have HZ := Lib.hid hz
    clear hrow hl hls c0 f0 hz hz2
    go_enter Tryd.func53, Tryd.ntmps53
    go_wp2
    go_loopw [6, 14] (fun n i wr => ∃ j : Nat, j ≤ k ∧ i = .int .i64 (j : Int) ∧ n = .int .i64 (numL (l.take j)) ∧ wr.heap[g]? = some (.cells #[.int .i64 (if (l.take j).all isD = true then v else 7)] 26 (0, 0)) ∧ Kept (fun b => b = g) w wr) (fun _ i _ => ((k : Int) - intOf i).toNat)
    case atStart => exact ⟨0, by omega, rfl, rfl, HROW0.out, Kept.refl _ _⟩
    case round =>
      obtain ⟨j, hj, rfl, rfl, hrow, hkept⟩ := hrel
      have HROW := Lib.hid hrow
      have HK := Lib.hid hkept
      have c0 : ∃ x, wr.cell? ⟨g, 0, none⟩ = some (.int .i64 x) := ⟨_, cell_of_row wr g 0 _ _ _ hrow⟩
      have f0 : wr.frozen? ⟨g, 0, none⟩ = false := frozen_of_row wr g 0 _ _ hrow
      obtain ⟨x0, c0⟩ := c0
      clear hrow hkept
      by_cases hjk : j < k
      · have hjs : j < s.size := by have := HZ.out; omega
        have hji : (j : Int) < (s.size : Int) := by omega
        have hjl : j < l.length := by have := HLS.out; omega
        obtain ⟨c, hc⟩ : ∃ c, s[j]'hjs = c := ⟨_, rfl⟩
        have hlc : l[j] = c := by
          have e : l[j] = s.data[j]'hjs := by simp only [HL.out]; simp
          rw [e]; exact hc
        have htk : l.take (j + 1) = l.take j ++ [c] := by rw [List.take_succ_eq_append_getElem hjl, hlc]
        obtain ⟨n0, hn0⟩ : ∃ n0, n0 = numL (l.take j) := ⟨_, rfl⟩
        obtain ⟨z, hz⟩ : ∃ z : Nat, z = (c - 48).toNat := ⟨_, rfl⟩
        have hzb : z < 256 := by rw [hz]; exact (c - 48).toNat_lt
        have hnb : 0 ≤ n0 ∧ n0 ≤ 290000 := by rw [hn0]; exact numL_bd _ (by rw [List.length_take]; omega)
        have HN : Hid (numL (l.take (j + 1)) = 10 * n0 + (z : Int)) := Lib.hid (by rw [htk, numL_snoc, hn0, hz])
        have hw1 : IntKind.u8.wrap ((c.toNat : Int) - 48) = (z : Int) := by rw [hz]; exact sub48 c
        have hw2 : IntKind.i64.wrap (10 * n0) = 10 * n0 := i64_id _ (by omega) (by omega)
        have hw3 : IntKind.i64.wrap (10 * n0 + (z : Int)) = 10 * n0 + (z : Int) := i64_id _ (by omega) (by omega)
        have hw4 : IntKind.i64.wrap (z : Int) = (z : Int) := i64_id _ (by omega) (by omega)
        have hw5 : IntKind.i64.wrap ((j : Int) + 1) = (j : Int) + 1 := i64_id _ (by omega) (by omega)
        have hcb := c.toNat_lt
        obtain ⟨X, hX⟩ : ∃ X : Nat, X = c.toNat := ⟨_, rfl⟩
        rw [← hX] at hw1
        have hX2 : c.toNat = X := hX.symm
        rw [← hn0]
        have HTK := Lib.hid htk
        clear hlc htk hn0 hz hX hcb
        by_cases hlo : (X : Int) < 48
        · have HV : Hid ((if (l.take (j + 1)).all isD = true then v else 7) = 7) := Lib.hid (by rw [HTK.out, List.all_append, isD_no c (by omega)]; simp)
          have HROWN : Hid ((wr.setCell ⟨g, 0, none⟩ (.int .i64 7)).heap[g]? = some (.cells #[.int .i64 7] 26 (0, 0))) := Lib.hid (heap_setCell_same _ _ _ _ _ _ HROW.out)
          go_wp2
          go_roundw
          case rel => exact ⟨j + 1, by omega, by go_num, by rw [HN.out], HROWN.out.trans (by rw [HV.out]), HK.out.setCell (fun _ => rfl) _⟩
          case measure => simp only [intOf]; omega
        · by_cases hhi : 57 < (X : Int)
          · have HV : Hid ((if (l.take (j + 1)).all isD = true then v else 7) = 7) := Lib.hid (by rw [HTK.out, List.all_append, isD_no c (by omega)]; simp)
            have HROWN : Hid ((wr.setCell ⟨g, 0, none⟩ (.int .i64 7)).heap[g]? = some (.cells #[.int .i64 7] 26 (0, 0))) := Lib.hid (heap_setCell_same _ _ _ _ _ _ HROW.out)
            go_wp2
            go_roundw
            case rel => exact ⟨j + 1, by omega, by go_num, by rw [HN.out], HROWN.out.trans (by rw [HV.out]), HK.out.setCell (fun _ => rfl) _⟩
            case measure => simp only [intOf]; omega
          · have HV : Hid ((if (l.take (j + 1)).all isD = true then v else 7) = (if (l.take j).all isD = true then v else 7)) := Lib.hid (by rw [HTK.out, List.all_append, isD_yes c (by omega) (by omega)]; simp)
            go_wp2
            go_roundw
            case rel => exact ⟨j + 1, by omega, by go_num, by rw [HN.out], HROW.out.trans (by rw [HV.out]), HK.out⟩
            case measure => simp only [intOf]; omega
      · obtain rfl : j = k := by omega
        have HT : Hid (l.take j = l) := Lib.hid (by rw [List.take_of_length_le]; have := HLS.out; have := HZ.out; omega)
        go_wp2
        go_ret
        have h := HROW.out
        rw [HT.out] at h ⊢
        refine ⟨rfl, ?_, HK.out⟩
        rw [h]
        unfold errV
        have hlk : l.length = j := by have := HLS.out; have := HZ.out; omega
        by_cases ha : l.all isD = true
        · rw [if_pos ha, if_pos ⟨hlk, ha⟩]
        · rw [if_neg ha, if_neg (fun h => ha h.2)]
  · have hz3 : ¬ (s.size : Int) = (k : Int) := by omega
    have HE : Hid (errV v s.data.toList k = 7) := Lib.hid (by unfold errV; rw [if_neg]; intro h; omega)
    rw [if_neg hz]
    have HR : Hid ((w.setCell ⟨g, 0, none⟩ (.int .i64 7)).heap[g]? = some (.cells #[.int .i64 7] 26 (0, 0))) := Lib.hid (heap_setCell_same _ _ _ _ _ _ hrow)
    clear hrow hls hz
    go_enter Tryd.func53, Tryd.ntmps53
    go_wp2
    go_ret
    rw [HE.out]
    exact ⟨rfl, HR.out, (Kept.refl (fun b => b = g) w).setCell (fun _ => rfl) _⟩
end Go.Proofs.YtcoijmggfkjcjaaDoor
namespace Go.Proofs.YtcoijmggfkjcjaaDoor
open Go.RowKit
set_option linter.unusedSimpArgs false
set_option linter.unusedVariables false
attribute [local go_sem ↓] exec_storeDate
attribute [local go_sem] run_storeDate
def prsE (l : List UInt8) : Int := if wellF l = true then chk (numL (l.take 4)) (numL ((l.drop 5).take 2)) (numL (l.drop 8)) else 7
def prsN (l : List UInt8) : Int := if wellF l = true then dayR (numL (l.take 4)) (numL ((l.drop 5).take 2)) (numL (l.drop 8)) else 0
theorem idx_split (c : UInt8) : ∀ l : List UInt8, 0 ≤ Go.Lib.indexByte l c → l = l.take (Go.Lib.indexByte l c).toNat ++ c :: l.drop ((Go.Lib.indexByte l c).toNat + 1)
  | [], h => by simp [Go.Lib.indexByte] at h
  | b :: l, h => by
    unfold Go.Lib.indexByte at h ⊢
    by_cases hb : (b == c) = true
    · rw [if_pos hb]
      have : b = c := by simpa using hb
      simp [this]
    · rw [if_neg hb] at h ⊢
      by_cases h1 : (Go.Lib.indexByte l c == -1) = true
      · rw [if_pos h1] at h; omega
      · rw [if_neg h1] at h ⊢
        have hg := Go.Lib.indexByte_ge l c
        have h2 : Go.Lib.indexByte l c ≠ -1 := by simpa using h1
        have ih := idx_split c l (by omega)
        rw [show (Go.Lib.indexByte l c + 1).toNat = (Go.Lib.indexByte l c).toNat + 1 by omega, List.take_succ_cons, List.drop_succ_cons, List.cons_append, ← ih]
theorem idx_app (c : UInt8) : ∀ (a r : List UInt8), (∀ x ∈ a, x ≠ c) → Go.Lib.indexByte (a ++ c :: r) c = (a.length : Int)
  | [], r, _ => by simp [Go.Lib.indexByte]
  | b :: a, r, h => by
    have ih := idx_app c a r (fun x hx => h x (List.mem_cons_of_mem _ hx))
    have hb : (b == c) = false := by simpa using h b (List.mem_cons_self ..)
    rw [List.cons_append]
    unfold Go.Lib.indexByte
    rw [hb, ih]
    have : ((a.length : Int) == -1) = false := by rw [beq_eq_false_iff_ne]; omega
    rw [this]
    simp
theorem ext_take (s : ByteArray) (i : Nat) : (s.extract 0 i).data.toList = s.data.toList.take i := by rw [Go.Lib.extract_eq]; simp
theorem ext_drop (s : ByteArray) (i : Nat) : (s.extract i s.size).data.toList = s.data.toList.drop i := by
  have h : s.size = s.data.toList.length := by rw [Array.length_toList]; rfl
  rw [Go.Lib.extract_eq, h]
  show ((s.data.toList.drop i).take (s.data.toList.length - i)) = _
  rw [List.take_of_length_le (by rw [List.length_drop]; exact Nat.le_refl _)]
theorem cut_list (s : ByteArray) : (dashI s = -1 ∧ (cutA s).data.toList = s.data.toList ∧ (cutB s).data.toList = []) ∨ s.data.toList = (cutA s).data.toList ++ 45 :: (cutB s).data.toList := by
  rcases dashI_cases s with h | ⟨i, h, hi⟩
  · left; unfold cutA cutB; rw [h]; exact ⟨rfl, rfl, rfl⟩
  · right
    have hs := idx_split 45 s.data.toList (by have : dashI s = Go.Lib.indexByte s.data.toList 45 := rfl; omega)
    have e : Go.Lib.indexByte s.data.toList 45 = (i : Int) := h
    rw [e, Int.toNat_natCast] at hs
    unfold cutA cutB
    rw [if_pos (by omega), if_pos (by omega), h, Int.toNat_natCast, ext_take, ext_drop]
    exact hs
theorem cut_of (s : ByteArray) (a r : List UInt8) (hs : s.data.toList = a ++ 45 :: r) (ha : a.all isD = true) : (cutA s).data.toList = a ∧ (cutB s).data.toList = r := by
  have hi : dashI s = (a.length : Int) := by
    unfold dashI
    rw [hs]
    refine idx_app 45 a r (fun x hx e => ?_)
    have := List.all_eq_true.1 ha x hx
    rw [e] at this
    exact absurd this (by decide)
  unfold cutA cutB
  rw [if_pos (by omega), if_pos (by omega), hi, Int.toNat_natCast, ext_take, ext_drop, hs]
  simp
theorem wellF_of (a b c : List UInt8) (ha : a.length = 4) (hb : b.length = 2) (hc : c.length = 2) (da : a.all isD = true) (db : b.all isD = true) (dc : c.all isD = true) :
    wellF (a ++ 45 :: (b ++ 45 :: c)) = true ∧ (a ++ 45 :: (b ++ 45 :: c)).take 4 = a ∧ ((a ++ 45 :: (b ++ 45 :: c)).drop 5).take 2 = b ∧ (a ++ 45 :: (b ++ 45 :: c)).drop 8 = c := by
  match a, b, c, ha, hb, hc with
  | [a0, a1, a2, a3], [b0, b1], [c0, c1], _, _, _ =>
    refine ⟨?_, rfl, rfl, rfl⟩
    show ((true && true && true && [a0, a1, a2, a3].all isD && [b0, b1].all isD && [c0, c1].all isD) = true)
    rw [da, db, dc]
    rfl
theorem of_wellF (l : List UInt8) (h : wellF l = true) : ∃ a b c : List UInt8, l = a ++ 45 :: (b ++ 45 :: c) ∧ a.length = 4 ∧ b.length = 2 ∧ c.length = 2 ∧ a.all isD = true ∧ b.all isD = true ∧ c.all isD = true := by
  unfold wellF at h
  simp only [Bool.and_eq_true, beq_iff_eq] at h
  obtain ⟨⟨⟨⟨⟨h1, h2⟩, h3⟩, h4⟩, h5⟩, h6⟩ := h
  match l, h1 with
  | [x0, x1, x2, x3, x4, x5, x6, x7, x8, x9], _ =>
    have e4 : x4 = 45 := h2
    have e7 : x7 = 45 := h3
    subst e4 e7
    exact ⟨[x0, x1, x2, x3], [x5, x6], [x8, x9], rfl, rfl, rfl, rfl, h4, h5, h6⟩
theorem errV_zero {v : Int} {l : List UInt8} {k : Nat} : errV v l k = 0 ↔ v = 0 ∧ l.length = k ∧ l.all isD = true := by
  unfold errV
  by_cases h : l.length = k ∧ l.all isD = true
  · rw [if_pos h]; exact ⟨fun e => ⟨e, h⟩, fun e => e.1⟩
  · rw [if_neg h]; exact ⟨fun e => by omega, fun e => absurd e.2 h⟩
theorem errV_7 {v : Int} {l : List UInt8} {k : Nat} (h : v = 0 ∨ v = 7) : errV v l k = 0 ∨ errV v l k = 7 := by
  unfold errV
  split
  · exact h
  · exact .inr rfl
def errP (s : ByteArray) : Int := errV (errV (errV 0 (cutA s).data.toList 4) (cutA (cutB s)).data.toList 2) (cutB (cutB s)).data.toList 2
theorem errP_cases (s : ByteArray) : errP s = 0 ∨ errP s = 7 := errV_7 (errV_7 (errV_7 (.inl rfl)))
/-- what the parts are, of a text of the right form -/
theorem errP_zero (s : ByteArray) : errP s = 0 ↔ wellF s.data.toList = true := by
  unfold errP
  rw [errV_zero, errV_zero, errV_zero]
  constructor
  · rintro ⟨⟨⟨-, a1, a2⟩, b1, b2⟩, c1, c2⟩
    rcases cut_list s with ⟨-, -, h⟩ | h
    · exfalso
      rcases cut_list (cutB s) with ⟨-, h2, -⟩ | h2
      · rw [h2, h] at b1; simp at b1
      · rw [h] at h2
        have := congrArg List.length h2
        simp at this
    · rcases cut_list (cutB s) with ⟨-, -, h2⟩ | h2
      · exfalso; rw [h2] at c1; simp at c1
      · rw [h, h2]
        exact (wellF_of _ _ _ a1 b1 c1 a2 b2 c2).1
  · intro h
    obtain ⟨a, b, c, e, la, lb, lc, da, db, dc⟩ := of_wellF _ h
    obtain ⟨h1, h2⟩ := cut_of s a _ e da
    obtain ⟨h3, h4⟩ := cut_of (cutB s) b c h2 db
    rw [h1, h3, h4]
    exact ⟨⟨⟨rfl, la, da⟩, lb, db⟩, lc, dc⟩
theorem parts_ok (s : ByteArray) (h : wellF s.data.toList = true) : (cutA s).data.toList = s.data.toList.take 4 ∧ (cutA (cutB s)).data.toList = (s.data.toList.drop 5).take 2 ∧ (cutB (cutB s)).data.toList = s.data.toList.drop 8 ∧ (cutA s).size = 4 ∧ (cutA (cutB s)).size = 2 ∧ (cutB (cutB s)).size = 2 := by
  obtain ⟨a, b, c, e, la, lb, lc, da, db, dc⟩ := of_wellF _ h
  obtain ⟨h1, h2⟩ := cut_of s a _ e da
  obtain ⟨h3, h4⟩ := cut_of (cutB s) b c h2 db
  have hw := wellF_of a b c la lb lc da db dc
  rw [e, hw.2.1, hw.2.2.1, hw.2.2.2]
  have z : ∀ t : ByteArray, t.size = t.data.toList.length := fun t => by rw [Array.length_toList]; rfl
  rw [z, z, z, h1, h3, h4]
  exact ⟨rfl, rfl, rfl, la, lb, lc⟩
theorem cutB_size (s : ByteArray) : (cutB s).size ≤ s.size := by
  unfold cutB
  split
  · rw [ByteArray.size_extract]; omega
  · exact Nat.zero_le _
set_option maxRecDepth 100000 in
set_option maxHeartbeats 2000000 in
theorem parse_any (s : ByteArray) (w : World) (hs : s.size ≤ 9223372036854775807) (hT : Tabs w) : Calls Tryd.prog 36 #[.string s] w fun e w' => e = .returned (.tuple #[.int .i64 (prsN s.data.toList), .int .i64 (prsE s.data.toList)]) ∧ Below w.heap.size w w' := by
  have HS := Lib.hid hs
  have HS2 : Hid ((cutB s).size ≤ 9223372036854775807) := Lib.hid (Nat.le_trans (cutB_size s) hs)
  have HN4 : Hid (∀ (t : ByteArray) (g : Nat) (v : Int) (u : World), u.heap[g]? = some (.cells #[.int .i64 v] 26 (0, 0)) → Calls Tryd.prog 53 #[.string t, .int .i64 4, .pointer (some ⟨g, 0, none⟩)] u fun e w' => e = .returned (.int .i64 (if t.size = 4 then numL t.data.toList else 0)) ∧ w'.heap[g]? = some (.cells #[.int .i64 (errV v t.data.toList 4)] 26 (0, 0)) ∧ Kept (fun b => b = g) u w') := Lib.hid (fun t g v u h => number_clo t 4 (by omega) g v u h)
  have HN2 : Hid (∀ (t : ByteArray) (g : Nat) (v : Int) (u : World), u.heap[g]? = some (.cells #[.int .i64 v] 26 (0, 0)) → Calls Tryd.prog 53 #[.string t, .int .i64 2, .pointer (some ⟨g, 0, none⟩)] u fun e w' => e = .returned (.int .i64 (if t.size = 2 then numL t.data.toList else 0)) ∧ w'.heap[g]? = some (.cells #[.int .i64 (errV v t.data.toList 2)] 26 (0, 0)) ∧ Kept (fun b => b = g) u w') := Lib.hid (fun t g v u h => number_clo t 2 (by omega) g v u h)
  have HT := Lib.hid hT
  clear hs hT
  go_enter Tryd.func36, Tryd.ntmps36
  go_upto_region 3 with fail
  obtain ⟨w1, hw⟩ : ∃ w1, w1 = w.alloc (.cells #[.int .i64 0] 26) := ⟨_, rfl⟩
  obtain ⟨g4, hg⟩ : ∃ g4, g4 = w.heap.size := ⟨_, rfl⟩
  have HROW1 : Hid (w1.heap[g4]? = some (.cells #[.int .i64 0] 26 (0, 0))) := Lib.hid (by rw [hw, hg]; exact heap_new0)
  have HB1 : Hid (Below w.heap.size w w1) := Lib.hid (by rw [hw]; exact (Below.refl _ w).alloc (Nat.le_refl _) _)
  have HG : Hid (w.heap.size ≤ g4) := Lib.hid (by omega)
  rw [← hw]
  rw [← hg]
  clear hw hg
  go_upto_region 4 with (go_at_call 54; refine (cut_any _ _ HS.out).mono ?_; rintro e w2 ⟨rfl, hb⟩; have HB2 := Lib.hid hb; clear hb HS)
  go_upto_region 5 with (go_at_call 54; refine (cut_any _ _ HS2.out).mono ?_; rintro e w3 ⟨rfl, hb⟩; have HB3 := Lib.hid hb; clear hb HS2)
  have HROW3 : Hid (w3.heap[g4]? = some (.cells #[.int .i64 0] 26 (0, 0))) := Lib.hid (by
    have h1 := heap_lt HROW1.out
    have h2 := (HB2.out.block g4 h1).trans HROW1.out
    exact (HB3.out.block g4 (heap_lt h2)).trans h2)
  have HW3 : Hid (Below w.heap.size w w3) := Lib.hid ((HB1.out.trans (HB2.out.mono HB1.out.size)).trans (HB3.out.mono (Nat.le_trans HB1.out.size HB2.out.size)))
  clear HROW1 HB1 HB2 HB3
  go_upto_region 6 with (first
    | (go_at_call 53; refine (HN4.out _ _ _ _ HROW3.out).mono ?_; rintro e u ⟨rfl, hr, hk⟩; have HRa := Lib.hid hr; have HKa := Lib.hid hk; clear hr hk HROW3; have pd : DB (u.alloc (.cells #[.int .i64 0, .int .i64 0, .int .i64 0] 23)) u.heap.size := ⟨0, 0, 0, heap_new0⟩)
    | (go_at_call 53; refine (HN2.out _ _ _ _ HRa.out).mono ?_; rintro e u ⟨rfl, hr, hk⟩; have HRb := Lib.hid hr; have HKb := Lib.hid (HKa.out.trans hk (fun _ _ h => h)); clear hr hk HRa HKa pd; have pd : DB (u.alloc (.cells #[.int .i64 0, .int .i64 0, .int .i64 0] 23)) u.heap.size := ⟨0, 0, 0, heap_new0⟩)
    | (go_at_call 53; refine (HN2.out _ _ _ _ HRb.out).mono ?_; rintro e u ⟨rfl, hr, hk⟩; have HRc := Lib.hid hr; have HKc := Lib.hid (HKb.out.trans hk (fun _ _ h => h)); clear hr hk HRb HKb pd; have pd : DB (u.alloc (.cells #[.int .i64 0, .int .i64 0, .int .i64 0] 23)) u.heap.size := ⟨0, 0, 0, heap_new0⟩))
  obtain ⟨A, hA⟩ : ∃ A : Int, A = if (cutA s).size = 4 then numL (cutA s).data.toList else 0 := ⟨_, rfl⟩
  obtain ⟨B, hB⟩ : ∃ B : Int, B = if (cutA (cutB s)).size = 2 then numL (cutA (cutB s)).data.toList else 0 := ⟨_, rfl⟩
  obtain ⟨C, hC⟩ : ∃ C : Int, C = if (cutB (cutB s)).size = 2 then numL (cutB (cutB s)).data.toList else 0 := ⟨_, rfl⟩
  rw [← hA, ← hB, ← hC]
  obtain ⟨w6, hw6⟩ : ∃ w6, w6 = (u.alloc (.cells #[.int .i64 0, .int .i64 0, .int .i64 0] 23)).setRow u.heap.size #[.int .i64 A, .int .i64 B, .int .i64 C] := ⟨_, rfl⟩
  obtain ⟨g12, hg12⟩ : ∃ g12, g12 = u.heap.size := ⟨_, rfl⟩
  have hE : u.heap[g4]? = some (.cells #[.int .i64 (errP s)] 26 (0, 0)) := HRc.out
  have hlt := heap_lt hE
  have hrow : w6.heap[g12]? = some (.cells #[.int .i64 A, .int .i64 B, .int .i64 C] 23 (0, 0)) := by rw [hw6, hg12]; exact setRow_heap _ _ _ _ _ _ heap_new0
  have hrow4 : w6.heap[g4]? = some (.cells #[.int .i64 (errP s)] 26 (0, 0)) := by rw [hw6]; exact ((setRow_other _ _ _ _ (by omega)).trans (heap_alloc_old _ _ hlt)).trans hE
  have hbu : Below w.heap.size w u := HW3.out.trans (HKc.out.below HW3.out.size (fun j hj e => by have := HG.out; omega))
  have hb6 : Below w.heap.size w w6 := by rw [hw6]; exact ((((Kept.of_below (fun _ => False) hbu).alloc _).setRow (fun h => by have := hbu.size; omega) _).below (Nat.le_refl _) (fun _ _ h => h))
  have c4 : w6.cell? ⟨g4, 0, none⟩ = some (.int .i64 (errP s)) := cell_of_row w6 g4 0 _ _ _ hrow4
  have d0 : w6.cell? ⟨g12, 0, none⟩ = some (.int .i64 A) := cell_of_row w6 g12 0 _ _ _ hrow
  have d1 : w6.cell? ⟨g12, 1, none⟩ = some (.int .i64 B) := cell_of_row w6 g12 1 _ _ _ hrow
  have d2 : w6.cell? ⟨g12, 2, none⟩ = some (.int .i64 C) := cell_of_row w6 g12 2 _ _ _ hrow
  rw [← hw6]
  rw [← hg12]
  have HD := Lib.hid (day_any A B C w6 (HT.out.below hb6))
  have HB6 := Lib.hid hb6
  clear hw6 hg12 hE hlt hrow hrow4 hbu hb6 HRc HKc pd
  have HZ := Lib.hid (errP_zero s)
  rcases errP_cases s with he | he
  · have hwf := HZ.out.1 he
    obtain ⟨e1, e2, e3, z1, z2, z3⟩ := parts_ok s hwf
    rw [if_pos z1, e1] at hA
    rw [if_pos z2, e2] at hB
    rw [if_pos z3, e3] at hC
    have HR : Hid (prsN s.data.toList = dayR A B C ∧ prsE s.data.toList = chk A B C) := Lib.hid (by
      unfold prsN prsE
      rw [if_pos hwf, if_pos hwf, ← hA, ← hB, ← hC]
      exact ⟨rfl, rfl⟩)
    rw [he] at c4
    clear he hA hB hC e1 e2 e3 z1 z2 z3 hwf HZ
    go_wp2_with (go_at_call 16; refine HD.out.mono ?_; rintro e w7 ⟨rfl, hb⟩; have HB7 := Lib.hid hb; clear hb)
    go_ret2
    rw [HR.out.1, HR.out.2]
    exact ⟨rfl, HB6.out.trans (HB7.out.mono HB6.out.size)⟩
  · have HR : Hid (prsN s.data.toList = 0 ∧ prsE s.data.toList = 7) := Lib.hid (by
      have hn : ¬ wellF s.data.toList = true := fun h => by have := HZ.out.2 h; omega
      unfold prsN prsE
      rw [if_neg hn, if_neg hn]
      exact ⟨rfl, rfl⟩)
    rw [he] at c4
    clear he hA hB hC HZ HD
    go_wp2_with fail
    go_quiet (fail)
    go_wp2
    go_ret2
    rw [HR.out.1, HR.out.2]
    exact ⟨rfl, below_drewN HB6.out _⟩
end Go.Proofs.YtcoijmggfkjcjaaDoor
namespace Go.Proofs.YtcoijmggfkjcjaaDoor
open Go.RowKit
set_option linter.unusedSimpArgs false
set_option linter.unusedVariables false
def eG (y : Int) : Int := y % 19 + 1
def eC (y : Int) : Int := y / 100 + 1
def eX (y : Int) : Int := 3 * eC y / 4 - 12
def eZ (y : Int) : Int := (8 * eC y + 5) / 25 - 5
def eD (y : Int) : Int := 5 * y / 4 - eX y - 10
def eE0 (y : Int) : Int := (11 * eG y + 20 + eZ y - eX y) % 30
def eE (y : Int) : Int := if eE0 y = 24 ∨ eE0 y = 25 ∧ 11 < eG y then eE0 y + 1 else eE0 y
def eN (y : Int) : Int := if 44 - eE y < 21 then 44 - eE y + 30 else 44 - eE y
/-- the day of March on which Easter Sunday is -/
def easterM (y : Int) : Int := eN y + 7 - (eD y + eN y) % 7
set_option maxRecDepth 100000 in
set_option maxHeartbeats 4000000 in
theorem easterMarch_any (y : Int) (w : World) (h1 : 1583 ≤ y) (h2 : y ≤ 9999) : Calls Tryd.prog 51 #[.int .i64 y] w fun e w' => e = .returned (.int .i64 (easterM y)) ∧ w = w' := by
  have HREM : Hid (∀ (a m : Int) u, -9223372036854775808 ≤ a → a ≤ 9223372036854775807 → 0 < m → m ≤ 1000 → Calls Tryd.prog 50 #[.int .i64 a, .int .i64 m] u fun e w' => e = .returned (.int .i64 (a % m)) ∧ u = w') := Lib.hid (fun a m u => remainder_any a m u)
  obtain ⟨g0, hg0⟩ : ∃ g0, g0 = y % 19 := ⟨_, rfl⟩
  have bg0 : 0 ≤ g0 ∧ g0 ≤ 18 := by omega
  have wg0 : y % 19 = g0 := hg0.symm
  obtain ⟨G, hG⟩ : ∃ G, G = g0 + 1 := ⟨_, rfl⟩
  have bG : 1 ≤ G ∧ G ≤ 19 := by omega
  have wG : IntKind.i64.wrap (g0 + 1) = G := by rw [hG]; exact i64_id _ (by omega) (by omega)
  obtain ⟨c0, hc0⟩ : ∃ c0, c0 = y / 100 := ⟨_, rfl⟩
  have bc0 : 15 ≤ c0 ∧ c0 ≤ 99 := by omega
  have wc0 : y / 100 = c0 := hc0.symm
  obtain ⟨C, hC⟩ : ∃ C, C = c0 + 1 := ⟨_, rfl⟩
  have bC : 16 ≤ C ∧ C ≤ 100 := by omega
  have wC : IntKind.i64.wrap (c0 + 1) = C := by rw [hC]; exact i64_id _ (by omega) (by omega)
  obtain ⟨a1, ha1⟩ : ∃ a1, a1 = 3 * C := ⟨_, rfl⟩
  have ba1 : 48 ≤ a1 ∧ a1 ≤ 300 := by omega
  have wa1 : IntKind.i64.wrap (3 * C) = a1 := by rw [ha1]; exact i64_id _ (by omega) (by omega)
  obtain ⟨a2, ha2⟩ : ∃ a2, a2 = a1 / 4 := ⟨_, rfl⟩
  have ba2 : 12 ≤ a2 ∧ a2 ≤ 75 := by omega
  have wa2 : a1 / 4 = a2 := ha2.symm
  obtain ⟨X, hX⟩ : ∃ X, X = a2 - 12 := ⟨_, rfl⟩
  have bX : 0 ≤ X ∧ X ≤ 63 := by omega
  have wX : IntKind.i64.wrap (a2 - 12) = X := by rw [hX]; exact i64_id _ (by omega) (by omega)
  obtain ⟨b1, hb1⟩ : ∃ b1, b1 = 8 * C := ⟨_, rfl⟩
  have bb1 : 128 ≤ b1 ∧ b1 ≤ 800 := by omega
  have wb1 : IntKind.i64.wrap (8 * C) = b1 := by rw [hb1]; exact i64_id _ (by omega) (by omega)
  obtain ⟨b2, hb2⟩ : ∃ b2, b2 = b1 + 5 := ⟨_, rfl⟩
  have bb2 : 133 ≤ b2 ∧ b2 ≤ 805 := by omega
  have wb2 : IntKind.i64.wrap (b1 + 5) = b2 := by rw [hb2]; exact i64_id _ (by omega) (by omega)
  obtain ⟨b3, hb3⟩ : ∃ b3, b3 = b2 / 25 := ⟨_, rfl⟩
  have bb3 : 5 ≤ b3 ∧ b3 ≤ 32 := by omega
  have wb3 : b2 / 25 = b3 := hb3.symm
  obtain ⟨Z, hZ⟩ : ∃ Z, Z = b3 - 5 := ⟨_, rfl⟩
  have bZ : 0 ≤ Z ∧ Z ≤ 27 := by omega
  have wZ : IntKind.i64.wrap (b3 - 5) = Z := by rw [hZ]; exact i64_id _ (by omega) (by omega)
  obtain ⟨d1, hd1⟩ : ∃ d1, d1 = 5 * y := ⟨_, rfl⟩
  have bd1 : 7915 ≤ d1 ∧ d1 ≤ 49995 := by omega
  have wd1 : IntKind.i64.wrap (5 * y) = d1 := by rw [hd1]; exact i64_id _ (by omega) (by omega)
  obtain ⟨d2, hd2⟩ : ∃ d2, d2 = d1 / 4 := ⟨_, rfl⟩
  have bd2 : 1978 ≤ d2 ∧ d2 ≤ 12498 := by omega
  have wd2 : d1 / 4 = d2 := hd2.symm
  obtain ⟨d3, hd3⟩ : ∃ d3, d3 = d2 - X := ⟨_, rfl⟩
  have bd3 : 1915 ≤ d3 ∧ d3 ≤ 12498 := by omega
  have wd3 : IntKind.i64.wrap (d2 - X) = d3 := by rw [hd3]; exact i64_id _ (by omega) (by omega)
  obtain ⟨D, hD⟩ : ∃ D, D = d3 - 10 := ⟨_, rfl⟩
  have bD : 1905 ≤ D ∧ D ≤ 12488 := by omega
  have wD : IntKind.i64.wrap (d3 - 10) = D := by rw [hD]; exact i64_id _ (by omega) (by omega)
  obtain ⟨e1, he1⟩ : ∃ e1, e1 = 11 * G := ⟨_, rfl⟩
  have be1 : 11 ≤ e1 ∧ e1 ≤ 209 := by omega
  have we1 : IntKind.i64.wrap (11 * G) = e1 := by rw [he1]; exact i64_id _ (by omega) (by omega)
  obtain ⟨e2, he2⟩ : ∃ e2, e2 = e1 + 20 := ⟨_, rfl⟩
  have be2 : 31 ≤ e2 ∧ e2 ≤ 229 := by omega
  have we2 : IntKind.i64.wrap (e1 + 20) = e2 := by rw [he2]; exact i64_id _ (by omega) (by omega)
  obtain ⟨e3, he3⟩ : ∃ e3, e3 = e2 + Z := ⟨_, rfl⟩
  have be3 : 31 ≤ e3 ∧ e3 ≤ 256 := by omega
  have we3 : IntKind.i64.wrap (e2 + Z) = e3 := by rw [he3]; exact i64_id _ (by omega) (by omega)
  obtain ⟨e4, he4⟩ : ∃ e4, e4 = e3 - X := ⟨_, rfl⟩
  have be4 : -32 ≤ e4 ∧ e4 ≤ 256 := by omega
  have we4 : IntKind.i64.wrap (e3 - X) = e4 := by rw [he4]; exact i64_id _ (by omega) (by omega)
  obtain ⟨E0, hE0⟩ : ∃ E0, E0 = e4 % 30 := ⟨_, rfl⟩
  have bE0 : 0 ≤ E0 ∧ E0 ≤ 29 := by omega
  have wE0 : e4 % 30 = E0 := hE0.symm
  have qG : eG y = G := by unfold eG; omega
  have qC : eC y = C := by unfold eC; omega
  have qX : eX y = X := by unfold eX; rw [qC]; omega
  have qZ : eZ y = Z := by unfold eZ; rw [qC]; omega
  have qD : eD y = D := by unfold eD; rw [qX]; omega
  have qE : eE0 y = E0 := by unfold eE0; rw [qG, qZ, qX]; rw [hE0]; congr 1; omega
  by_cases k24 : E0 = 24
  · obtain ⟨N1, hN0⟩ : ∃ N1, N1 = 44 - (E0 + 1) := ⟨_, rfl⟩
    by_cases hsm : N1 < 21
    · obtain ⟨E1, hE1⟩ : ∃ E1, E1 = E0 + 1 := ⟨_, rfl⟩
      have wE1 : IntKind.i64.wrap (E0 + 1) = E1 := by rw [hE1]; exact i64_id _ (by omega) (by omega)
      have hN1 : N1 = 44 - E1 := by omega
      have wN1 : IntKind.i64.wrap (44 - E1) = N1 := by rw [hN1]; exact i64_id _ (by omega) (by omega)
      obtain ⟨N2, hN2⟩ : ∃ N2, N2 = N1 + 30 := ⟨_, rfl⟩
      have wN2 : IntKind.i64.wrap (N1 + 30) = N2 := by rw [hN2]; exact i64_id _ (by omega) (by omega)
      obtain ⟨n3, hn3⟩ : ∃ n3, n3 = N2 + 7 := ⟨_, rfl⟩
      have wn3 : IntKind.i64.wrap (N2 + 7) = n3 := by rw [hn3]; exact i64_id _ (by omega) (by omega)
      obtain ⟨s1, hs1⟩ : ∃ s1, s1 = D + N2 := ⟨_, rfl⟩
      have ws1 : IntKind.i64.wrap (D + N2) = s1 := by rw [hs1]; exact i64_id _ (by omega) (by omega)
      have bs1 : 0 ≤ s1 ∧ s1 ≤ 20000 := by omega
      obtain ⟨r7, hr7⟩ : ∃ r7, r7 = s1 % 7 := ⟨_, rfl⟩
      have wr7 : s1 % 7 = r7 := hr7.symm
      obtain ⟨N, hN⟩ : ∃ N, N = n3 - r7 := ⟨_, rfl⟩
      have wN : IntKind.i64.wrap (n3 - r7) = N := by rw [hN]; exact i64_id _ (by omega) (by omega)
      have HE : Hid (easterM y = N) := Lib.hid (by
        have q1 : eE y = E1 := by unfold eE; rw [qG, qE, if_pos (by omega)]; omega
        have q2 : eN y = N2 := by unfold eN; rw [q1, if_pos (by omega)]; omega
        unfold easterM; rw [qD, q2, ← hs1]; omega)
      have HNX : Hid (N = 44 - (E0 + 1) + 30 + 7 - (D + (44 - (E0 + 1) + 30)) % 7) := Lib.hid (by omega)
      clear hg0 hG hc0 hC ha1 ha2 hX hb1 hb2 hb3 hZ hd1 hd2 hd3 hD he1 he2 he3 he4 hE0 qG qC qX qZ qD qE hN1 hn3 hs1 hr7 hN hE1 hN2
      clear hN0
      go_enter Tryd.func51, Tryd.ntmps51
      go_wp2_with (go_at_call 50; refine (HREM.out _ _ _ (by omega) (by omega) (by omega) (by omega)).mono ?_; rintro e w1 ⟨rfl, rfl⟩)
      go_ret
      exact ⟨ret_intD (by have h := HE.out; have h2 := HNX.out; omega), rfl⟩
    · exfalso; omega
  · by_cases k25 : E0 = 25
    · by_cases kG : 11 < G
      · obtain ⟨N1, hN0⟩ : ∃ N1, N1 = 44 - (E0 + 1) := ⟨_, rfl⟩
        by_cases hsm : N1 < 21
        · obtain ⟨E1, hE1⟩ : ∃ E1, E1 = E0 + 1 := ⟨_, rfl⟩
          have wE1 : IntKind.i64.wrap (E0 + 1) = E1 := by rw [hE1]; exact i64_id _ (by omega) (by omega)
          have hN1 : N1 = 44 - E1 := by omega
          have wN1 : IntKind.i64.wrap (44 - E1) = N1 := by rw [hN1]; exact i64_id _ (by omega) (by omega)
          obtain ⟨N2, hN2⟩ : ∃ N2, N2 = N1 + 30 := ⟨_, rfl⟩
          have wN2 : IntKind.i64.wrap (N1 + 30) = N2 := by rw [hN2]; exact i64_id _ (by omega) (by omega)
          obtain ⟨n3, hn3⟩ : ∃ n3, n3 = N2 + 7 := ⟨_, rfl⟩
          have wn3 : IntKind.i64.wrap (N2 + 7) = n3 := by rw [hn3]; exact i64_id _ (by omega) (by omega)
          obtain ⟨s1, hs1⟩ : ∃ s1, s1 = D + N2 := ⟨_, rfl⟩
          have ws1 : IntKind.i64.wrap (D + N2) = s1 := by rw [hs1]; exact i64_id _ (by omega) (by omega)
          have bs1 : 0 ≤ s1 ∧ s1 ≤ 20000 := by omega
          obtain ⟨r7, hr7⟩ : ∃ r7, r7 = s1 % 7 := ⟨_, rfl⟩
          have wr7 : s1 % 7 = r7 := hr7.symm
          obtain ⟨N, hN⟩ : ∃ N, N = n3 - r7 := ⟨_, rfl⟩
          have wN : IntKind.i64.wrap (n3 - r7) = N := by rw [hN]; exact i64_id _ (by omega) (by omega)
          have HE : Hid (easterM y = N) := Lib.hid (by
            have q1 : eE y = E1 := by unfold eE; rw [qG, qE, if_pos (by omega)]; omega
            have q2 : eN y = N2 := by unfold eN; rw [q1, if_pos (by omega)]; omega
            unfold easterM; rw [qD, q2, ← hs1]; omega)
          have HNX : Hid (N = 44 - (E0 + 1) + 30 + 7 - (D + (44 - (E0 + 1) + 30)) % 7) := Lib.hid (by omega)
          clear hg0 hG hc0 hC ha1 ha2 hX hb1 hb2 hb3 hZ hd1 hd2 hd3 hD he1 he2 he3 he4 hE0 qG qC qX qZ qD qE hN1 hn3 hs1 hr7 hN hE1 hN2
          clear hN0
          go_enter Tryd.func51, Tryd.ntmps51
          go_wp2_with (go_at_call 50; refine (HREM.out _ _ _ (by omega) (by omega) (by omega) (by omega)).mono ?_; rintro e w1 ⟨rfl, rfl⟩)
          go_ret
          exact ⟨ret_intD (by have h := HE.out; have h2 := HNX.out; omega), rfl⟩
        · exfalso; omega
      · obtain ⟨N1, hN0⟩ : ∃ N1, N1 = 44 - E0 := ⟨_, rfl⟩
        by_cases hsm : N1 < 21
        · have hN1 : N1 = 44 - E0 := by omega
          have wN1 : IntKind.i64.wrap (44 - E0) = N1 := by rw [hN1]; exact i64_id _ (by omega) (by omega)
          obtain ⟨N2, hN2⟩ : ∃ N2, N2 = N1 + 30 := ⟨_, rfl⟩
          have wN2 : IntKind.i64.wrap (N1 + 30) = N2 := by rw [hN2]; exact i64_id _ (by omega) (by omega)
          obtain ⟨n3, hn3⟩ : ∃ n3, n3 = N2 + 7 := ⟨_, rfl⟩
          have wn3 : IntKind.i64.wrap (N2 + 7) = n3 := by rw [hn3]; exact i64_id _ (by omega) (by omega)
          obtain ⟨s1, hs1⟩ : ∃ s1, s1 = D + N2 := ⟨_, rfl⟩
          have ws1 : IntKind.i64.wrap (D + N2) = s1 := by rw [hs1]; exact i64_id _ (by omega) (by omega)
          have bs1 : 0 ≤ s1 ∧ s1 ≤ 20000 := by omega
          obtain ⟨r7, hr7⟩ : ∃ r7, r7 = s1 % 7 := ⟨_, rfl⟩
          have wr7 : s1 % 7 = r7 := hr7.symm
          obtain ⟨N, hN⟩ : ∃ N, N = n3 - r7 := ⟨_, rfl⟩
          have wN : IntKind.i64.wrap (n3 - r7) = N := by rw [hN]; exact i64_id _ (by omega) (by omega)
          have HE : Hid (easterM y = N) := Lib.hid (by
            have q1 : eE y = E0 := by unfold eE; rw [qG, qE, if_neg (by omega)]
            have q2 : eN y = N2 := by unfold eN; rw [q1, if_pos (by omega)]; omega
            unfold easterM; rw [qD, q2, ← hs1]; omega)
          have HNX : Hid (N = 44 - E0 + 30 + 7 - (D + (44 - E0 + 30)) % 7) := Lib.hid (by omega)
          clear hg0 hG hc0 hC ha1 ha2 hX hb1 hb2 hb3 hZ hd1 hd2 hd3 hD he1 he2 he3 he4 hE0 qG qC qX qZ qD qE hN1 hn3 hs1 hr7 hN hN2
          clear hN0
          go_enter Tryd.func51, Tryd.ntmps51
          go_wp2_with (go_at_call 50; refine (HREM.out _ _ _ (by omega) (by omega) (by omega) (by omega)).mono ?_; rintro e w1 ⟨rfl, rfl⟩)
          go_ret
          exact ⟨ret_intD (by have h := HE.out; have h2 := HNX.out; omega), rfl⟩
        · exfalso; omega
    · obtain ⟨N1, hN0⟩ : ∃ N1, N1 = 44 - E0 := ⟨_, rfl⟩
      by_cases hsm : N1 < 21
      · have hN1 : N1 = 44 - E0 := by omega
        have wN1 : IntKind.i64.wrap (44 - E0) = N1 := by rw [hN1]; exact i64_id _ (by omega) (by omega)
        obtain ⟨N2, hN2⟩ : ∃ N2, N2 = N1 + 30 := ⟨_, rfl⟩
        have wN2 : IntKind.i64.wrap (N1 + 30) = N2 := by rw [hN2]; exact i64_id _ (by omega) (by omega)
        obtain ⟨n3, hn3⟩ : ∃ n3, n3 = N2 + 7 := ⟨_, rfl⟩
        have wn3 : IntKind.i64.wrap (N2 + 7) = n3 := by rw [hn3]; exact i64_id _ (by omega) (by omega)
        obtain ⟨s1, hs1⟩ : ∃ s1, s1 = D + N2 := ⟨_, rfl⟩
        have ws1 : IntKind.i64.wrap (D + N2) = s1 := by rw [hs1]; exact i64_id _ (by omega) (by omega)
        have bs1 : 0 ≤ s1 ∧ s1 ≤ 20000 := by omega
        obtain ⟨r7, hr7⟩ : ∃ r7, r7 = s1 % 7 := ⟨_, rfl⟩
        have wr7 : s1 % 7 = r7 := hr7.symm
        obtain ⟨N, hN⟩ : ∃ N, N = n3 - r7 := ⟨_, rfl⟩
        have wN : IntKind.i64.wrap (n3 - r7) = N := by rw [hN]; exact i64_id _ (by omega) (by omega)
        have HE : Hid (easterM y = N) := Lib.hid (by
          have q1 : eE y = E0 := by unfold eE; rw [qG, qE, if_neg (by omega)]
          have q2 : eN y = N2 := by unfold eN; rw [q1, if_pos (by omega)]; omega
          unfold easterM; rw [qD, q2, ← hs1]; omega)
        have HNX : Hid (N = 44 - E0 + 30 + 7 - (D + (44 - E0 + 30)) % 7) := Lib.hid (by omega)
        clear hg0 hG hc0 hC ha1 ha2 hX hb1 hb2 hb3 hZ hd1 hd2 hd3 hD he1 he2 he3 he4 hE0 qG qC qX qZ qD qE hN1 hn3 hs1 hr7 hN hN2
        clear hN0
        go_enter Tryd.func51, Tryd.ntmps51
        go_wp2_with (go_at_call 50; refine (HREM.out _ _ _ (by omega) (by omega) (by omega) (by omega)).mono ?_; rintro e w1 ⟨rfl, rfl⟩)
        go_ret
        exact ⟨ret_intD (by have h := HE.out; have h2 := HNX.out; omega), rfl⟩
      · have hN1 : N1 = 44 - E0 := by omega
        have wN1 : IntKind.i64.wrap (44 - E0) = N1 := by rw [hN1]; exact i64_id _ (by omega) (by omega)
        obtain ⟨n3, hn3⟩ : ∃ n3, n3 = N1 + 7 := ⟨_, rfl⟩
        have wn3 : IntKind.i64.wrap (N1 + 7) = n3 := by rw [hn3]; exact i64_id _ (by omega) (by omega)
        obtain ⟨s1, hs1⟩ : ∃ s1, s1 = D + N1 := ⟨_, rfl⟩
        have ws1 : IntKind.i64.wrap (D + N1) = s1 := by rw [hs1]; exact i64_id _ (by omega) (by omega)
        have bs1 : 0 ≤ s1 ∧ s1 ≤ 20000 := by omega
        obtain ⟨r7, hr7⟩ : ∃ r7, r7 = s1 % 7 := ⟨_, rfl⟩
        have wr7 : s1 % 7 = r7 := hr7.symm
        obtain ⟨N, hN⟩ : ∃ N, N = n3 - r7 := ⟨_, rfl⟩
        have wN : IntKind.i64.wrap (n3 - r7) = N := by rw [hN]; exact i64_id _ (by omega) (by omega)
        have HE : Hid (easterM y = N) := Lib.hid (by
          have q1 : eE y = E0 := by unfold eE; rw [qG, qE, if_neg (by omega)]
          have q2 : eN y = N1 := by unfold eN; rw [q1, if_neg (by omega)]; omega
          unfold easterM; rw [qD, q2, ← hs1]; omega)
        have HNX : Hid (N = 44 - E0 + 7 - (D + (44 - E0)) % 7) := Lib.hid (by omega)
        clear hg0 hG hc0 hC ha1 ha2 hX hb1 hb2 hb3 hZ hd1 hd2 hd3 hD he1 he2 he3 he4 hE0 qG qC qX qZ qD qE hN1 hn3 hs1 hr7 hN
        clear hN0
        go_enter Tryd.func51, Tryd.ntmps51
        go_wp2_with (go_at_call 50; refine (HREM.out _ _ _ (by omega) (by omega) (by omega) (by omega)).mono ?_; rintro e w1 ⟨rfl, rfl⟩)
        go_ret
        exact ⟨ret_intD (by have h := HE.out; have h2 := HNX.out; omega), rfl⟩
def easOk (y : Int) : Prop := 1583 ≤ y ∧ y ≤ 9999
instance (y : Int) : Decidable (easOk y) := inferInstanceAs (Decidable (_ ∧ _))
def easR (y : Int) : Int := if easOk y then dayN y 3 1 + easterM y - 1 else 0
def easE (y : Int) : Int := if easOk y then 0 else 5
theorem easM_bd (y : Int) : -8 ≤ easterM y ∧ easterM y ≤ 100 := by
  unfold easterM
  have h0 : 0 ≤ eE0 y ∧ eE0 y < 30 := by unfold eE0; omega
  have h1 : 0 ≤ eE y ∧ eE y ≤ 30 := by unfold eE; split <;> omega
  have h2 : 14 ≤ eN y ∧ eN y ≤ 50 := by unfold eN; split <;> omega
  omega
theorem march1 {y : Int} (h : easOk y) : validD y 3 1 := by
  refine ⟨by have := h.1; omega, h.2, by omega, ?_⟩
  have := len_pos y 3 (by omega) (by omega)
  omega
theorem ret_tup {a b c : Int} (h : a = b) : Ending.returned (.tuple #[.int .i64 a, .int .i64 c]) = .returned (.tuple #[.int .i64 b, .int .i64 c]) := by rw [h]
set_option maxRecDepth 100000 in
set_option maxHeartbeats 1000000 in
theorem easter_any (y : Int) (w : World) (hT : Tabs w) : Calls Tryd.prog 32 #[.int .i64 y] w fun e w' => e = .returned (.tuple #[.int .i64 (easR y), .int .i64 (easE y)]) ∧ Below w.heap.size w w' := by
  by_cases hy : easOk y
  · have hv := march1 hy
    have hr := day_rng hv
    have hm := easM_bd y
    have HR : Hid (easR y = dayN y 3 1 + easterM y - 1 ∧ easE y = 0) := Lib.hid (by unfold easR easE; rw [if_pos hy, if_pos hy]; exact ⟨rfl, rfl⟩)
    have hd := day_any y 3 1 w hT
    have e1 : dayR y 3 1 = dayN y 3 1 := by unfold dayR; rw [if_pos hv]
    rw [chk_ok hv, e1] at hd
    have HD := Lib.hid hd
    have HM : Hid (∀ u, Calls Tryd.prog 51 #[.int .i64 y] u fun e w' => e = .returned (.int .i64 (easterM y)) ∧ u = w') := Lib.hid (fun u => easterMarch_any y u hy.1 hy.2)
    obtain ⟨h1, h2⟩ := hy
    obtain ⟨dn, hdn⟩ : ∃ dn, dn = dayN y 3 1 := ⟨_, rfl⟩
    obtain ⟨em, hem⟩ : ∃ em, em = easterM y := ⟨_, rfl⟩
    rw [← hdn] at hr HD HR
    rw [← hem] at hm HM HR
    have w1 : IntKind.i64.wrap (dn + em) = dn + em := i64_id _ (by omega) (by omega)
    have w2 : IntKind.i64.wrap (dn + em - 1) = dn + em - 1 := i64_id _ (by omega) (by omega)
    clear hv hd e1 hdn hem hT
    go_enter Tryd.func32, Tryd.ntmps32
    go_wp2_with (first
      | (go_at_call 16; refine HD.out.mono ?_; rintro e w1 ⟨rfl, hb⟩; have HB := Lib.hid hb; clear hb)
      | (go_at_call 51; refine (HM.out _).mono ?_; rintro e w2 ⟨rfl, rfl⟩))
    go_ret2
    rw [HR.out.1, HR.out.2]
    exact ⟨rfl, HB.out⟩
  · have HR : Hid (easR y = 0 ∧ easE y = 5) := Lib.hid (by unfold easR easE; rw [if_neg hy, if_neg hy]; exact ⟨rfl, rfl⟩)
    by_cases h1 : y < 1583
    · clear hy hT
      go_enter Tryd.func32, Tryd.ntmps32
      go_wp2_with fail
      go_ret2
      rw [HR.out.1, HR.out.2]
      exact ⟨rfl, Below.refl _ _⟩
    · have h2 : 9999 < y := by unfold easOk at hy; omega
      clear hy hT
      go_enter Tryd.func32, Tryd.ntmps32
      go_wp2_with fail
      go_ret2
      rw [HR.out.1, HR.out.2]
      exact ⟨rfl, Below.refl _ _⟩
end Go.Proofs.YtcoijmggfkjcjaaDoor
namespace Go.Proofs.YtcoijmggfkjcjaaDoor
open Go.RowKit
set_option linter.unusedSimpArgs false
set_option linter.unusedVariables false
attribute [local go_sem ↓] exec_storeDate
attribute [local go_sem] run_storeDate
def amM (n k : Int) : Int := 12 * (yearN n - 1) + monthN n - 1 + k
def amY (n k : Int) : Int := amM n k / 12 + 1
def amMo (n k : Int) : Int := amM n k % 12 + 1
def amD (n k : Int) : Int := min (mdayN n) (lenD (amY n k) (amMo n k))
def amE (n k : Int) : Int := if k < -200000 ∨ 200000 < k then 2 else if okN n ∧ 0 ≤ amM n k ∧ amY n k ≤ 9999 then 0 else 5
def amR (n k : Int) : Int := if amE n k = 0 then dayN (amY n k) (amMo n k) (amD n k) else 0
theorem am_lim {n k : Int} (h : k < -200000 ∨ 200000 < k) : amR n k = 0 ∧ amE n k = 2 := by
  have e : amE n k = 2 := by unfold amE; rw [if_pos h]
  exact ⟨by unfold amR; rw [e]; rfl, e⟩
theorem am_bad {n k : Int} (h1 : -200000 ≤ k) (h2 : k ≤ 200000) (h : ¬ okN n ∨ amM n k < 0 ∨ 9999 < amY n k) : amR n k = 0 ∧ amE n k = 5 := by
  have e : amE n k = 5 := by
    unfold amE
    rw [if_neg (by omega), if_neg]
    rintro ⟨a, b, c⟩
    rcases h with h | h | h
    · exact h a
    · omega
    · omega
  exact ⟨by unfold amR; rw [e]; rfl, e⟩
theorem am_good {n k : Int} (h1 : -200000 ≤ k) (h2 : k ≤ 200000) (h : okN n) (hm : 0 ≤ amM n k) (hy : amY n k ≤ 9999) : amR n k = dayN (amY n k) (amMo n k) (amD n k) ∧ amE n k = 0 ∧ validD (amY n k) (amMo n k) (amD n k) := by
  have e : amE n k = 0 := by
    unfold amE
    rw [if_neg (by omega), if_pos ⟨h, hm, hy⟩]
  have hv := valid_sm (of_ok n h.1 h.2).1
  have hl := len_pos (amY n k) (amMo n k) (by unfold amMo; omega) (by unfold amMo; omega)
  refine ⟨by unfold amR; rw [if_pos e], e, by unfold amY; omega, hy, ?_, ?_⟩
  · unfold amD; omega
  · unfold amD; omega
set_option maxRecDepth 100000 in
set_option maxHeartbeats 2000000 in
theorem addMonths_any (n k : Int) (w : World) (hT : Tabs w) : Calls Tryd.prog 34 #[.int .i64 n, .int .i64 k] w fun e w' => e = .returned (.tuple #[.int .i64 (amR n k), .int .i64 (amE n k)]) ∧ Below w.heap.size w w' := by
  by_cases h1 : k < -200000
  · have HR : Hid (amR n k = 0 ∧ amE n k = 2) := Lib.hid (am_lim (.inl h1))
    clear hT
    go_enter Tryd.func34, Tryd.ntmps34
    go_wp2_with fail
    go_ret2
    rw [HR.out.1, HR.out.2]
    exact ⟨rfl, Below.refl _ _⟩
  by_cases h2 : 200000 < k
  · have HR : Hid (amR n k = 0 ∧ amE n k = 2) := Lib.hid (am_lim (.inr h2))
    clear hT
    go_enter Tryd.func34, Tryd.ntmps34
    go_wp2_with fail
    go_ret2
    rw [HR.out.1, HR.out.2]
    exact ⟨rfl, Below.refl _ _⟩
  have HO := Lib.hid (of_any n w hT)
  by_cases hn : okN n
  rotate_left
  · obtain ⟨e1, e2, e3, e4⟩ := of_no hn
    rw [e1, e2, e3, e4] at HO
    have HR : Hid (amR n k = 0 ∧ amE n k = 5) := Lib.hid (am_bad (by omega) (by omega) (.inl hn))
    clear hn e1 e2 e3 e4 hT
    go_enter Tryd.func34, Tryd.ntmps34
    go_wp2_with (go_at_call 22; refine HO.out.mono ?_; rintro e w2 ⟨rfl, hb⟩; have p6 : DB (w2.alloc (.cells #[.int .i64 0, .int .i64 0, .int .i64 0] 23)) w2.heap.size := ⟨0, 0, 0, heap_new0⟩; have HB := Lib.hid hb; clear hb)
    go_ret2
    rw [HR.out.1, HR.out.2]
    exact ⟨rfl, ((((Kept.of_below (fun _ => False) HB.out).alloc _).setRow (fun h => by have := HB.out.size; omega) _).below (Nat.le_refl _) (fun _ _ h => h))⟩
  have HOK := Lib.hid hn
  obtain ⟨e1, e2, e3, e4⟩ := of_yes hn
  have hv := (of_ok n hn.1 hn.2).1
  have hs := valid_sm hv
  rw [e1, e2, e3, e4] at HO
  obtain ⟨a, ha⟩ : ∃ a, a = yearN n := ⟨_, rfl⟩
  obtain ⟨b, hb⟩ : ∃ b, b = monthN n := ⟨_, rfl⟩
  obtain ⟨c, hc⟩ : ∃ c, c = mdayN n := ⟨_, rfl⟩
  rw [← ha, ← hb, ← hc] at HO hs
  have hM : amM n k = 12 * (a - 1) + b - 1 + k := by unfold amM; rw [ha, hb]
  obtain ⟨M, hMM⟩ : ∃ M, M = 12 * (a - 1) + b - 1 + k := ⟨_, rfl⟩
  rw [← hMM] at hM
  have hMb : -400000 ≤ M ∧ M ≤ 400000 := by omega
  have i1 : IntKind.i64.wrap (a - 1) = a - 1 := i64_id _ (by omega) (by omega)
  have i2 : IntKind.i64.wrap (12 * (a - 1)) = 12 * (a - 1) := i64_id _ (by omega) (by omega)
  have i3 : IntKind.i64.wrap (12 * (a - 1) + b) = 12 * (a - 1) + b := i64_id _ (by omega) (by omega)
  have i4 : IntKind.i64.wrap (12 * (a - 1) + b - 1) = 12 * (a - 1) + b - 1 := i64_id _ (by omega) (by omega)
  have i5 : IntKind.i64.wrap (12 * (a - 1) + b - 1 + k) = M := by rw [← hMM]; exact i64_id _ (by omega) (by omega)
  have HMM := Lib.hid hMM
  have HM := Lib.hid hM
  have HC := Lib.hid hc
  have HT := Lib.hid hT
  clear hn e1 e2 e3 e4 hv ha hb hc hM hMM hT
  go_enter Tryd.func34, Tryd.ntmps34
  go_upto_region 4 with (go_at_call 22; refine HO.out.mono ?_; rintro e w2 ⟨rfl, hb⟩; have p6 : DB (w2.alloc (.cells #[.int .i64 0, .int .i64 0, .int .i64 0] 23)) w2.heap.size := ⟨0, 0, 0, heap_new0⟩; have HB := Lib.hid hb; clear hb)
  obtain ⟨w3, hw3⟩ : ∃ w3, w3 = (w2.alloc (.cells #[.int .i64 0, .int .i64 0, .int .i64 0] 23)).setRow w2.heap.size #[.int .i64 a, .int .i64 b, .int .i64 c] := ⟨_, rfl⟩
  obtain ⟨g6, hg6⟩ : ∃ g6, g6 = w2.heap.size := ⟨_, rfl⟩
  have hrow : w3.heap[g6]? = some (.cells (dc a b c) 23 (0, 0)) := by rw [hw3, hg6]; exact setRow_heap _ _ _ _ _ _ heap_new0
  have hb3 : Below w.heap.size w w3 := by rw [hw3]; exact ((((Kept.of_below (fun _ => False) HB.out).alloc _).setRow (fun h => by have := HB.out.size; omega) _).below (Nat.le_refl _) (fun _ _ h => h))
  have HG : Hid (w.heap.size ≤ g6) := Lib.hid (by rw [hg6]; exact HB.out.size)
  have c0 : w3.cell? ⟨g6, 0, none⟩ = some (.int .i64 a) := cell_of_row w3 g6 0 _ _ _ hrow
  have c1 : w3.cell? ⟨g6, 1, none⟩ = some (.int .i64 b) := cell_of_row w3 g6 1 _ _ _ hrow
  have c2 : w3.cell? ⟨g6, 2, none⟩ = some (.int .i64 c) := cell_of_row w3 g6 2 _ _ _ hrow
  have f0 : w3.frozen? ⟨g6, 0, none⟩ = false := frozen_of_row w3 g6 0 _ _ hrow
  have f1 : w3.frozen? ⟨g6, 1, none⟩ = false := frozen_of_row w3 g6 1 _ _ hrow
  have HROW := Lib.hid hrow
  have HB3 := Lib.hid hb3
  rw [← hw3]
  rw [← hg6]
  clear hw3 hg6 hrow hb3 p6 HB
  by_cases hneg : M < 0
  · have HR : Hid (amR n k = 0 ∧ amE n k = 5) := Lib.hid (am_bad (by omega) (by omega) (.inr (.inl (by rw [HM.out]; exact hneg))))
    go_wp2_with fail
    go_ret2
    rw [HR.out.1, HR.out.2]
    exact ⟨rfl, HB3.out⟩
  obtain ⟨q, hq⟩ : ∃ q, M / 12 = q := ⟨_, rfl⟩
  obtain ⟨r, hr⟩ : ∃ r, M % 12 = r := ⟨_, rfl⟩
  have hM0 : 0 ≤ M := by omega
  have hqb : 0 ≤ q ∧ q ≤ 400000 := by omega
  have hrb : 0 ≤ r ∧ r ≤ 11 := by omega
  obtain ⟨Y, hY⟩ : ∃ Y, Y = 1 + q := ⟨_, rfl⟩
  obtain ⟨Mo, hMo⟩ : ∃ Mo, Mo = 1 + r := ⟨_, rfl⟩
  have i6 : IntKind.i64.wrap (1 + q) = Y := by rw [hY]; exact i64_id _ (by omega) (by omega)
  have i7 : IntKind.i64.wrap (1 + r) = Mo := by rw [hMo]; exact i64_id _ (by omega) (by omega)
  have HY : Hid (amY n k = Y) := Lib.hid (by unfold amY; rw [HM.out]; omega)
  have HMO : Hid (amMo n k = Mo) := Lib.hid (by unfold amMo; rw [HM.out]; omega)
  have HYB : Hid (1 ≤ Y ∧ Y ≤ 400001 ∧ 1 ≤ Mo ∧ Mo ≤ 12) := Lib.hid (by omega)
  clear hY hMo
  go_upto_region 10 with fail
  obtain ⟨w4, hw4⟩ : ∃ w4, w4 = (w3.setCell ⟨g6, 0, none⟩ (.int .i64 Y)).setCell ⟨g6, 1, none⟩ (.int .i64 Mo) := ⟨_, rfl⟩
  have hrow : w4.heap[g6]? = some (.cells (dc Y Mo c) 23 (0, 0)) := by rw [hw4]; exact heap_setCell_same _ _ _ _ _ _ (heap_setCell_same _ _ _ _ _ _ HROW.out)
  have hb4 : Below w.heap.size w w4 := by rw [hw4]; exact ((((Kept.of_below (fun _ => False) HB3.out).setCell (fun h => absurd (show g6 < w.heap.size from h) (by have := HG.out; omega)) _).setCell (fun h => absurd (show g6 < w.heap.size from h) (by have := HG.out; omega)) _).below (Nat.le_refl _) (fun _ _ h => h))
  rw [← hw4]
  clear hw4 c0 c1 c2 f0 f1
  have c0 : w4.cell? ⟨g6, 0, none⟩ = some (.int .i64 Y) := cell_of_row w4 g6 0 _ _ _ hrow
  have c1 : w4.cell? ⟨g6, 1, none⟩ = some (.int .i64 Mo) := cell_of_row w4 g6 1 _ _ _ hrow
  have c2 : w4.cell? ⟨g6, 2, none⟩ = some (.int .i64 c) := cell_of_row w4 g6 2 _ _ _ hrow
  have f2 : w4.frozen? ⟨g6, 2, none⟩ = false := frozen_of_row w4 g6 2 _ _ hrow
  have HROW4 := Lib.hid hrow
  have HB4 := Lib.hid hb4
  clear hrow hb4 HROW HB3
  obtain ⟨L, hL⟩ : ∃ L, L = lenD Y Mo := ⟨_, rfl⟩
  have HLEN : Hid (Calls Tryd.prog 30 #[.int .i64 Y, .int .i64 Mo] w4.drew fun e w' => e = .returned (.int .i64 L) ∧ w' = w4.drew) := Lib.hid (by rw [hL]; exact (length_any Y Mo w4.drew (HT.out.below HB4.out.drew)).mono fun e w' h => ⟨h.1, h.2.symm⟩)
  obtain ⟨D, hD⟩ : ∃ D, D = min c L := ⟨_, rfl⟩
  have HDD : Hid (D = min c (lenD Y Mo)) := Lib.hid (by rw [hD, hL])
  have hmin : (if L < c then L else c) = D := by rw [hD, Int.min_def]; split <;> split <;> omega
  clear hL hD
  go_still_tail 9, (by kernel_rfl)
  still_call (HLEN.out)
  repeat still_step
  refine wpStill_nil ?_
  change wpList _ _ _ _ _ w4.drew
  obtain ⟨w5, hw5⟩ : ∃ w5, w5 = (w4.setCell ⟨g6, 2, none⟩ (.int .i64 D)).drew := ⟨_, rfl⟩
  have hrow : w5.heap[g6]? = some (.cells (dc Y Mo D) 23 (0, 0)) := by rw [hw5]; exact heap_setCell_same _ _ _ _ _ _ HROW4.out
  have hb5 : Below w.heap.size w w5 := by rw [hw5]; exact (((Kept.of_below (fun _ => False) HB4.out).setCell (fun h => absurd (show g6 < w.heap.size from h) (by have := HG.out; omega)) _).below (Nat.le_refl _) (fun _ _ h => h)).drew
  go_upto_region 11 with fail
  rw [← hw5]
  have d0 : w5.cell? ⟨g6, 0, none⟩ = some (.int .i64 Y) := cell_of_row w5 g6 0 _ _ _ hrow
  have d1 : w5.cell? ⟨g6, 1, none⟩ = some (.int .i64 Mo) := cell_of_row w5 g6 1 _ _ _ hrow
  have d2 : w5.cell? ⟨g6, 2, none⟩ = some (.int .i64 D) := cell_of_row w5 g6 2 _ _ _ hrow
  have HB5 := Lib.hid hb5
  have HAD : Hid (amD n k = D) := Lib.hid (by unfold amD; rw [HY.out, HMO.out, HDD.out, HC.out])
  clear hw5 hrow hb5 HROW4 hmin c0 c1 c2 f2
  have HDAY := Lib.hid (day_any Y Mo D w5 (HT.out.below HB5.out))
  have HR : Hid (amR n k = dayR Y Mo D ∧ amE n k = chk Y Mo D) := Lib.hid (by
    by_cases hy : Y ≤ 9999
    · obtain ⟨q1, q2, q3⟩ := am_good (n := n) (k := k) (by omega) (by omega) HOK.out (by rw [HM.out]; exact hM0) (by rw [HY.out]; exact hy)
      rw [HY.out, HMO.out, HAD.out] at q1 q3
      rw [q1, q2, chk_ok q3]
      unfold dayR
      rw [if_pos q3]
      exact ⟨rfl, rfl⟩
    · obtain ⟨q1, q2⟩ := am_bad (n := n) (k := k) (by omega) (by omega) (.inr (.inr (by rw [HY.out]; omega)))
      have hnv : ¬ validD Y Mo D := fun h => hy h.2.1
      rw [q1, q2, chk_no hnv]
      unfold dayR
      rw [if_neg hnv]
      exact ⟨rfl, rfl⟩)
  go_wp2_with (go_at_call 16; refine HDAY.out.mono ?_; rintro e w6 ⟨rfl, hb⟩; have HB6 := Lib.hid hb; clear hb)
  go_ret2
  rw [HR.out.1, HR.out.2]
  exact ⟨rfl, HB5.out.trans (HB6.out.mono HB5.out.size)⟩
theorem floor_any12 (m : Int) (w : World) (h1 : -1000000 ≤ m) (h2 : m ≤ 1000000) : Calls Tryd.prog 52 #[.int .i64 m, .int .i64 12] w fun e w' => e = .returned (.int .i64 (m / 12)) ∧ w = w' := by
  by_cases hm : m < 0
  · obtain ⟨p, hp⟩ : ∃ p, p = -m := ⟨_, rfl⟩
    have e : m = -p := by omega
    have t1 : m.tdiv 12 = -(p / 12) := by rw [e, Int.neg_tdiv, Int.tdiv_eq_ediv_of_nonneg (by omega)]
    have t2 : m.tmod 12 = -(p % 12) := by rw [e, Int.neg_tmod, Int.tmod_eq_emod_of_nonneg (by omega)]
    obtain ⟨q, hq⟩ : ∃ q, q = -(p / 12) := ⟨_, rfl⟩
    obtain ⟨r, hr⟩ : ∃ r, r = -(p % 12) := ⟨_, rfl⟩
    rw [← hq] at t1
    rw [← hr] at t2
    have i1 : IntKind.i64.wrap q = q := i64_id _ (by omega) (by omega)
    have i2 : IntKind.i64.wrap r = r := i64_id _ (by omega) (by omega)
    by_cases hr0 : r < 0
    · have HF : Hid (m / 12 = q - 1) := Lib.hid (by omega)
      have i3 : IntKind.i64.wrap (q - 1) = q - 1 := i64_id _ (by omega) (by omega)
      clear hp e hq hr
      go_enter Tryd.func52, Tryd.ntmps52
      go_wp2
      go_ret
      exact ⟨ret_intD HF.out.symm, rfl⟩
    · have HF : Hid (m / 12 = q) := Lib.hid (by omega)
      clear hp e hq hr
      go_enter Tryd.func52, Tryd.ntmps52
      go_wp2
      go_ret
      exact ⟨ret_intD HF.out.symm, rfl⟩
  · have h0 : 0 ≤ m := by omega
    obtain ⟨q, hq⟩ : ∃ q, m / 12 = q := ⟨_, rfl⟩
    obtain ⟨r, hr⟩ : ∃ r, m % 12 = r := ⟨_, rfl⟩
    have hr0 : 0 ≤ r := by omega
    have HQ := Lib.hid hq
    go_enter Tryd.func52, Tryd.ntmps52
    go_wp2
    go_ret
    exact ⟨ret_intD (by have := HQ.out; omega), rfl⟩
set_option maxRecDepth 100000 in
set_option maxHeartbeats 2000000 in
theorem refAddMonths_any (n k : Int) (w : World) (hT : Tabs w) : Calls Tryd.prog 35 #[.int .i64 n, .int .i64 k] w fun e w' => e = .returned (.tuple #[.int .i64 (amR n k), .int .i64 (amE n k)]) ∧ Below w.heap.size w w' := by
  by_cases h1 : k < -200000
  · have HR : Hid (amR n k = 0 ∧ amE n k = 2) := Lib.hid (am_lim (.inl h1))
    clear hT
    go_enter Tryd.func35, Tryd.ntmps35
    go_wp2_with fail
    go_ret2
    rw [HR.out.1, HR.out.2]
    exact ⟨rfl, Below.refl _ _⟩
  by_cases h2 : 200000 < k
  · have HR : Hid (amR n k = 0 ∧ amE n k = 2) := Lib.hid (am_lim (.inr h2))
    clear hT
    go_enter Tryd.func35, Tryd.ntmps35
    go_wp2_with fail
    go_ret2
    rw [HR.out.1, HR.out.2]
    exact ⟨rfl, Below.refl _ _⟩
  have HO := Lib.hid (refOf_any n w hT)
  by_cases hn : okN n
  rotate_left
  · obtain ⟨e1, e2, e3, e4⟩ := of_no hn
    rw [e1, e2, e3, e4] at HO
    have HR : Hid (amR n k = 0 ∧ amE n k = 5) := Lib.hid (am_bad (by omega) (by omega) (.inl hn))
    clear hn e1 e2 e3 e4 hT
    go_enter Tryd.func35, Tryd.ntmps35
    go_wp2_with (go_at_call 23; refine HO.out.mono ?_; rintro e w2 ⟨rfl, hb⟩; have p6 : DB (w2.alloc (.cells #[.int .i64 0, .int .i64 0, .int .i64 0] 23)) w2.heap.size := ⟨0, 0, 0, heap_new0⟩; have HB := Lib.hid hb; clear hb)
    go_ret2
    rw [HR.out.1, HR.out.2]
    exact ⟨rfl, ((((Kept.of_below (fun _ => False) HB.out).alloc _).setRow (fun h => by have := HB.out.size; omega) _).below (Nat.le_refl _) (fun _ _ h => h))⟩
  have HOK := Lib.hid hn
  obtain ⟨e1, e2, e3, e4⟩ := of_yes hn
  have hv := (of_ok n hn.1 hn.2).1
  have hs := valid_sm hv
  rw [e1, e2, e3, e4] at HO
  obtain ⟨a, ha⟩ : ∃ a, a = yearN n := ⟨_, rfl⟩
  obtain ⟨b, hb⟩ : ∃ b, b = monthN n := ⟨_, rfl⟩
  obtain ⟨c, hc⟩ : ∃ c, c = mdayN n := ⟨_, rfl⟩
  rw [← ha, ← hb, ← hc] at HO hs
  have hM : amM n k = 12 * (a - 1) + b - 1 + k := by unfold amM; rw [ha, hb]
  obtain ⟨M, hMM⟩ : ∃ M, M = 12 * (a - 1) + b - 1 + k := ⟨_, rfl⟩
  rw [← hMM] at hM
  have hMb : -400000 ≤ M ∧ M ≤ 400000 := by omega
  obtain ⟨m2, hm2⟩ : ∃ m2, m2 = 12 * a + b - 1 + k := ⟨_, rfl⟩
  have i2 : IntKind.i64.wrap (12 * a) = 12 * a := i64_id _ (by omega) (by omega)
  have i3 : IntKind.i64.wrap (12 * a + b) = 12 * a + b := i64_id _ (by omega) (by omega)
  have i4 : IntKind.i64.wrap (12 * a + b - 1) = 12 * a + b - 1 := i64_id _ (by omega) (by omega)
  have i5 : IntKind.i64.wrap (12 * a + b - 1 + k) = m2 := by rw [← hm2]; exact i64_id _ (by omega) (by omega)
  obtain ⟨Y, hY⟩ : ∃ Y, Y = m2 / 12 := ⟨_, rfl⟩
  have HFL : Hid (∀ u, Calls Tryd.prog 52 #[.int .i64 m2, .int .i64 12] u fun e w' => e = .returned (.int .i64 Y) ∧ u = w') := Lib.hid (fun u => by rw [hY]; exact floor_any12 m2 u (by omega) (by omega))
  have HY : Hid (amY n k = Y) := Lib.hid (by unfold amY; rw [hM]; omega)
  obtain ⟨Mo, hMo⟩ : ∃ Mo, Mo = m2 - 12 * Y + 1 := ⟨_, rfl⟩
  have HMO : Hid (amMo n k = Mo) := Lib.hid (by unfold amMo; rw [hM]; omega)
  have hYb : -40000 ≤ Y ∧ Y ≤ 40000 ∧ 1 ≤ Mo ∧ Mo ≤ 12 := by omega
  have hm2b : -1000000 ≤ m2 ∧ m2 ≤ 1000000 := by omega
  have HM0 : Hid (0 ≤ amM n k ↔ 1 ≤ Y) := Lib.hid (by rw [hM]; omega)
  have j1 : IntKind.i64.wrap (12 * Y) = 12 * Y := i64_id _ (by omega) (by omega)
  have j2 : IntKind.i64.wrap (m2 - 12 * Y) = m2 - 12 * Y := i64_id _ (by omega) (by omega)
  have j3 : IntKind.i64.wrap (m2 - 12 * Y + 1) = Mo := by rw [← hMo]; exact i64_id _ (by omega) (by omega)
  have HC := Lib.hid hc
  have HT := Lib.hid hT
  clear hn e1 e2 e3 e4 hv ha hb hc hM hMM hT hm2 hY hMo
  go_enter Tryd.func35, Tryd.ntmps35
  go_upto_region 4 with (go_at_call 23; refine HO.out.mono ?_; rintro e w2 ⟨rfl, hb⟩; have p6 : DB (w2.alloc (.cells #[.int .i64 0, .int .i64 0, .int .i64 0] 23)) w2.heap.size := ⟨0, 0, 0, heap_new0⟩; have HB := Lib.hid hb; clear hb)
  obtain ⟨w3, hw3⟩ : ∃ w3, w3 = (w2.alloc (.cells #[.int .i64 0, .int .i64 0, .int .i64 0] 23)).setRow w2.heap.size #[.int .i64 a, .int .i64 b, .int .i64 c] := ⟨_, rfl⟩
  obtain ⟨g6, hg6⟩ : ∃ g6, g6 = w2.heap.size := ⟨_, rfl⟩
  have hrow : w3.heap[g6]? = some (.cells (dc a b c) 23 (0, 0)) := by rw [hw3, hg6]; exact setRow_heap _ _ _ _ _ _ heap_new0
  have hb3 : Below w.heap.size w w3 := by rw [hw3]; exact ((((Kept.of_below (fun _ => False) HB.out).alloc _).setRow (fun h => by have := HB.out.size; omega) _).below (Nat.le_refl _) (fun _ _ h => h))
  have HG : Hid (w.heap.size ≤ g6) := Lib.hid (by rw [hg6]; exact HB.out.size)
  have c0 : w3.cell? ⟨g6, 0, none⟩ = some (.int .i64 a) := cell_of_row w3 g6 0 _ _ _ hrow
  have c1 : w3.cell? ⟨g6, 1, none⟩ = some (.int .i64 b) := cell_of_row w3 g6 1 _ _ _ hrow
  have c2 : w3.cell? ⟨g6, 2, none⟩ = some (.int .i64 c) := cell_of_row w3 g6 2 _ _ _ hrow
  have f0 : w3.frozen? ⟨g6, 0, none⟩ = false := frozen_of_row w3 g6 0 _ _ hrow
  have f1 : w3.frozen? ⟨g6, 1, none⟩ = false := frozen_of_row w3 g6 1 _ _ hrow
  have HROW := Lib.hid hrow
  have HB3 := Lib.hid hb3
  rw [← hw3]
  rw [← hg6]
  clear hw3 hg6 hrow hb3 p6 HB
  by_cases hlo : Y < 1
  · have HR : Hid (amR n k = 0 ∧ amE n k = 5) := Lib.hid (am_bad (by omega) (by omega) (.inr (.inl (by have := HM0.out; omega))))
    go_wp2_with (go_at_call 52; refine (HFL.out _).mono ?_; rintro e w9 ⟨rfl, rfl⟩)
    go_ret2
    rw [HR.out.1, HR.out.2]
    exact ⟨rfl, HB3.out⟩
  by_cases hhi : 9999 < Y
  · have HR : Hid (amR n k = 0 ∧ amE n k = 5) := Lib.hid (am_bad (by omega) (by omega) (.inr (.inr (by rw [HY.out]; exact hhi))))
    go_wp2_with (go_at_call 52; refine (HFL.out _).mono ?_; rintro e w9 ⟨rfl, rfl⟩)
    go_ret2
    rw [HR.out.1, HR.out.2]
    exact ⟨rfl, HB3.out⟩
  go_upto_region 12 with (go_at_call 52; refine (HFL.out _).mono ?_; rintro e w9 ⟨rfl, rfl⟩)
  obtain ⟨w4, hw4⟩ : ∃ w4, w4 = (w3.setCell ⟨g6, 0, none⟩ (.int .i64 Y)).setCell ⟨g6, 1, none⟩ (.int .i64 Mo) := ⟨_, rfl⟩
  have hrow : w4.heap[g6]? = some (.cells (dc Y Mo c) 23 (0, 0)) := by rw [hw4]; exact heap_setCell_same _ _ _ _ _ _ (heap_setCell_same _ _ _ _ _ _ HROW.out)
  have hb4 : Below w.heap.size w w4 := by rw [hw4]; exact ((((Kept.of_below (fun _ => False) HB3.out).setCell (fun h => absurd (show g6 < w.heap.size from h) (by have := HG.out; omega)) _).setCell (fun h => absurd (show g6 < w.heap.size from h) (by have := HG.out; omega)) _).below (Nat.le_refl _) (fun _ _ h => h))
  rw [← hw4]
  clear hw4 c0 c1 c2 f0 f1
  have c0 : w4.cell? ⟨g6, 0, none⟩ = some (.int .i64 Y) := cell_of_row w4 g6 0 _ _ _ hrow
  have c1 : w4.cell? ⟨g6, 1, none⟩ = some (.int .i64 Mo) := cell_of_row w4 g6 1 _ _ _ hrow
  have c2 : w4.cell? ⟨g6, 2, none⟩ = some (.int .i64 c) := cell_of_row w4 g6 2 _ _ _ hrow
  have f2 : w4.frozen? ⟨g6, 2, none⟩ = false := frozen_of_row w4 g6 2 _ _ hrow
  have HROW4 := Lib.hid hrow
  have HB4 := Lib.hid hb4
  clear hrow hb4 HROW HB3
  obtain ⟨L, hL⟩ : ∃ L, L = lenD Y Mo := ⟨_, rfl⟩
  have HLEN : Hid (Calls Tryd.prog 31 #[.int .i64 Y, .int .i64 Mo] w4.drew fun e w' => e = .returned (.int .i64 L) ∧ w' = w4.drew) := Lib.hid (by rw [hL]; exact (refLength_any Y Mo w4.drew).mono fun e w' h => ⟨h.1, h.2.symm⟩)
  obtain ⟨D, hD⟩ : ∃ D, D = min c L := ⟨_, rfl⟩
  have HDD : Hid (D = min c (lenD Y Mo)) := Lib.hid (by rw [hD, hL])
  have hmin : (if L < c then L else c) = D := by rw [hD, Int.min_def]; split <;> split <;> omega
  clear hL hD
  go_still_tail 9, (by kernel_rfl)
  still_call (HLEN.out)
  repeat still_step
  refine wpStill_nil ?_
  change wpList _ _ _ _ _ w4.drew
  obtain ⟨w5, hw5⟩ : ∃ w5, w5 = (w4.setCell ⟨g6, 2, none⟩ (.int .i64 D)).drew := ⟨_, rfl⟩
  have hrow : w5.heap[g6]? = some (.cells (dc Y Mo D) 23 (0, 0)) := by rw [hw5]; exact heap_setCell_same _ _ _ _ _ _ HROW4.out
  have hb5 : Below w.heap.size w w5 := by rw [hw5]; exact (((Kept.of_below (fun _ => False) HB4.out).setCell (fun h => absurd (show g6 < w.heap.size from h) (by have := HG.out; omega)) _).below (Nat.le_refl _) (fun _ _ h => h)).drew
  go_upto_region 13 with fail
  rw [← hw5]
  have d0 : w5.cell? ⟨g6, 0, none⟩ = some (.int .i64 Y) := cell_of_row w5 g6 0 _ _ _ hrow
  have d1 : w5.cell? ⟨g6, 1, none⟩ = some (.int .i64 Mo) := cell_of_row w5 g6 1 _ _ _ hrow
  have d2 : w5.cell? ⟨g6, 2, none⟩ = some (.int .i64 D) := cell_of_row w5 g6 2 _ _ _ hrow
  have HB5 := Lib.hid hb5
  have HAD : Hid (amD n k = D) := Lib.hid (by unfold amD; rw [HY.out, HMO.out, HDD.out, HC.out])
  clear hw5 hrow hb5 HROW4 hmin c0 c1 c2 f2
  obtain ⟨q1, q2, q3⟩ := am_good (n := n) (k := k) (by omega) (by omega) HOK.out (HM0.out.2 (by omega)) (by rw [HY.out]; omega)
  rw [HY.out, HMO.out, HAD.out] at q1 q3
  have HN := Lib.hid (number_any Y Mo D w5 q3)
  have HQ1 := Lib.hid q1
  have HQ2 := Lib.hid q2
  clear q1 q2 q3
  go_wp2_with (go_at_call 45; refine HN.out.mono ?_; rintro e w6 ⟨rfl, hb⟩; have HB6 := Lib.hid hb; clear hb)
  go_ret2
  rw [HQ1.out, HQ2.out]
  exact ⟨rfl, HB5.out.trans (HB6.out.mono HB5.out.size)⟩
end Go.Proofs.YtcoijmggfkjcjaaDoor
namespace Go.Proofs.YtcoijmggfkjcjaaDoor
open Go.RowKit
set_option linter.unusedSimpArgs false
set_option linter.unusedVariables false
theorem Bel_stepD {w p w' : World} (h : Hid (Below w.heap.size w p)) (hb : Below p.heap.size p w') : Hid (Below w.heap.size w w') := Lib.hid (h.out.trans (hb.mono h.out.size))
theorem Tab_stepD {p w' : World} (h : Hid (Tabs p)) (hb : Below p.heap.size p w') : Hid (Tabs w') := Lib.hid (h.out.below hb)
/-- a day from any number; a number near the range -/
def dayOfN (n : Int) : Int := aroundD n 3652059
def nearN (n : Int) : Int := aroundD n 3652065 - 3
theorem dayOfN_ok (n : Int) : okN (dayOfN n) := by
  have := aroundD_bd n 3652059 (by omega)
  unfold okN dayOfN
  omega
theorem dayHelp_any (n : Int) (w : World) (h1 : -9223372036854775808 ≤ n) (h2 : n ≤ 9223372036854775807) : Calls Tryd.prog 21 #[.int .i64 n] w fun e w' => e = .returned (.int .i64 (dayOfN n)) ∧ w = w' := by
  have HA := Lib.hid (aroundD_any n 3652059 w h1 h2 (by omega) (by omega))
  go_enter Tryd.func21, Tryd.ntmps21
  go_wp2_with (go_at_call 15; refine HA.out.mono ?_; rintro e w1 ⟨rfl, rfl⟩)
  go_ret
  exact ⟨rfl, rfl⟩
theorem near_any (n : Int) (w : World) (h1 : -9223372036854775808 ≤ n) (h2 : n ≤ 9223372036854775807) : Calls Tryd.prog 20 #[.int .i64 n] w fun e w' => e = .returned (.int .i64 (nearN n)) ∧ w = w' := by
  have HA := Lib.hid (aroundD_any n 3652065 w h1 h2 (by omega) (by omega))
  have hb := aroundD_bd n 3652065 (by omega)
  obtain ⟨x, hx⟩ : ∃ x, x = aroundD n 3652065 := ⟨_, rfl⟩
  have HN : Hid (nearN n = x - 3) := Lib.hid (by unfold nearN; rw [hx])
  rw [← hx] at HA hb
  have hw : IntKind.i64.wrap (x - 3) = x - 3 := i64_id _ (by omega) (by omega)
  clear hx
  go_enter Tryd.func20, Tryd.ntmps20
  go_wp2_with (go_at_call 15; refine HA.out.mono ?_; rintro e w1 ⟨rfl, rfl⟩)
  go_ret
  exact ⟨ret_intD HN.out.symm, rfl⟩
set_option maxRecDepth 100000 in
set_option maxHeartbeats 4000000 in
theorem lives_any (w : World) (hT : Tabs w) : Calls Tryd.prog 19 #[] w fun e w' => e = .returned (.bool true) ∧ Below w.heap.size w w' := by
  have C1 : Hid (∀ u, Tabs u → Calls Tryd.prog 16 #[.agg #[.int .i64 2000, .int .i64 2, .int .i64 29]] u fun e w' => e = .returned (.tuple #[.int .i64 730178, .int .i64 0]) ∧ Below u.heap.size u w') := Lib.hid (fun u hu => by
    have h := day_any 2000 2 29 u hu
    have e1 : dayR 2000 2 29 = 730178 := by decide +kernel
    have e2 : chk 2000 2 29 = 0 := by decide +kernel
    rw [e1, e2] at h
    exact h)
  have C2 : Hid (∀ u, Tabs u → Calls Tryd.prog 16 #[.agg #[.int .i64 9999, .int .i64 12, .int .i64 31]] u fun e w' => e = .returned (.tuple #[.int .i64 3652058, .int .i64 0]) ∧ Below u.heap.size u w') := Lib.hid (fun u hu => by
    have h := day_any 9999 12 31 u hu
    have e1 : dayR 9999 12 31 = 3652058 := by decide +kernel
    have e2 : chk 9999 12 31 = 0 := by decide +kernel
    rw [e1, e2] at h
    exact h)
  have C3 : Hid (∀ u, Tabs u → Calls Tryd.prog 32 #[.int .i64 2026] u fun e w' => e = .returned (.tuple #[.int .i64 739710, .int .i64 0]) ∧ Below u.heap.size u w') := Lib.hid (fun u hu => by
    have h := easter_any 2026 u hu
    have e1 : easR 2026 = 739710 := by decide +kernel
    have e2 : easE 2026 = 0 := by decide +kernel
    rw [e1, e2] at h
    exact h)
  have C4 : Hid (∀ u, Tabs u → Calls Tryd.prog 36 #[.string ⟨#[50, 48, 50, 54, 45, 48, 49, 45, 51, 49]⟩] u fun e w' => e = .returned (.tuple #[.int .i64 739646, .int .i64 0]) ∧ Below u.heap.size u w') := Lib.hid (fun u hu => by
    have h := parse_any ⟨#[50, 48, 50, 54, 45, 48, 49, 45, 51, 49]⟩ u (by decide) hu
    have e1 : prsN ((⟨#[50, 48, 50, 54, 45, 48, 49, 45, 51, 49]⟩ : ByteArray).data.toList) = 739646 := by decide +kernel
    have e2 : prsE ((⟨#[50, 48, 50, 54, 45, 48, 49, 45, 51, 49]⟩ : ByteArray).data.toList) = 0 := by decide +kernel
    rw [e1, e2] at h
    exact h)
  have C5 : Hid (∀ u, Tabs u → Calls Tryd.prog 34 #[.int .i64 739646, .int .i64 1] u fun e w' => e = .returned (.tuple #[.int .i64 739674, .int .i64 0]) ∧ Below u.heap.size u w') := Lib.hid (fun u hu => by
    have h := addMonths_any 739646 (1) u hu
    have e1 : amR 739646 (1) = 739674 := by decide +kernel
    have e2 : amE 739646 (1) = 0 := by decide +kernel
    rw [e1, e2] at h
    exact h)
  have C6 : Hid (∀ u, Tabs u → Calls Tryd.prog 36 #[.string ⟨#[50, 48, 50, 52, 45, 48, 51, 45, 51, 49]⟩] u fun e w' => e = .returned (.tuple #[.int .i64 738975, .int .i64 0]) ∧ Below u.heap.size u w') := Lib.hid (fun u hu => by
    have h := parse_any ⟨#[50, 48, 50, 52, 45, 48, 51, 45, 51, 49]⟩ u (by decide) hu
    have e1 : prsN ((⟨#[50, 48, 50, 52, 45, 48, 51, 45, 51, 49]⟩ : ByteArray).data.toList) = 738975 := by decide +kernel
    have e2 : prsE ((⟨#[50, 48, 50, 52, 45, 48, 51, 45, 51, 49]⟩ : ByteArray).data.toList) = 0 := by decide +kernel
    rw [e1, e2] at h
    exact h)
  have C7 : Hid (∀ u, Tabs u → Calls Tryd.prog 34 #[.int .i64 738975, .int .i64 (-13)] u fun e w' => e = .returned (.tuple #[.int .i64 738578, .int .i64 0]) ∧ Below u.heap.size u w') := Lib.hid (fun u hu => by
    have h := addMonths_any 738975 (-13) u hu
    have e1 : amR 738975 (-13) = 738578 := by decide +kernel
    have e2 : amE 738975 (-13) = 0 := by decide +kernel
    rw [e1, e2] at h
    exact h)
  have C8 : Hid (∀ u, Tabs u → Calls Tryd.prog 36 #[.string ⟨#[50, 48, 50, 54, 45, 48, 50, 45, 50, 57]⟩] u fun e w' => e = .returned (.tuple #[.int .i64 0, .int .i64 5]) ∧ Below u.heap.size u w') := Lib.hid (fun u hu => by
    have h := parse_any ⟨#[50, 48, 50, 54, 45, 48, 50, 45, 50, 57]⟩ u (by decide) hu
    have e1 : prsN ((⟨#[50, 48, 50, 54, 45, 48, 50, 45, 50, 57]⟩ : ByteArray).data.toList) = 0 := by decide +kernel
    have e2 : prsE ((⟨#[50, 48, 50, 54, 45, 48, 50, 45, 50, 57]⟩ : ByteArray).data.toList) = 5 := by decide +kernel
    rw [e1, e2] at h
    exact h)
  have C9 : Hid (∀ u, Tabs u → Calls Tryd.prog 36 #[.string ⟨#[50, 48, 50, 54, 45, 50, 45, 57]⟩] u fun e w' => e = .returned (.tuple #[.int .i64 0, .int .i64 7]) ∧ Below u.heap.size u w') := Lib.hid (fun u hu => by
    have h := parse_any ⟨#[50, 48, 50, 54, 45, 50, 45, 57]⟩ u (by decide) hu
    have e1 : prsN ((⟨#[50, 48, 50, 54, 45, 50, 45, 57]⟩ : ByteArray).data.toList) = 0 := by decide +kernel
    have e2 : prsE ((⟨#[50, 48, 50, 54, 45, 50, 45, 57]⟩ : ByteArray).data.toList) = 7 := by decide +kernel
    rw [e1, e2] at h
    exact h)
  have P0 : Hid (∀ u, Tabs u → Calls Tryd.prog 24 #[.int .i64 739710] u fun e w' => e = .returned (.string ⟨#[50, 48, 50, 54, 45, 48, 52, 45, 48, 53]⟩) ∧ Below u.heap.size u w') := Lib.hid (fun u hu => by
    have h := print_any 739710 u hu
    have e1 : printB 739710 = ⟨#[50, 48, 50, 54, 45, 48, 52, 45, 48, 53]⟩ := by decide +kernel
    rw [e1] at h
    exact h)
  have P1 : Hid (∀ u, Tabs u → Calls Tryd.prog 24 #[.int .i64 739674] u fun e w' => e = .returned (.string ⟨#[50, 48, 50, 54, 45, 48, 50, 45, 50, 56]⟩) ∧ Below u.heap.size u w') := Lib.hid (fun u hu => by
    have h := print_any 739674 u hu
    have e1 : printB 739674 = ⟨#[50, 48, 50, 54, 45, 48, 50, 45, 50, 56]⟩ := by decide +kernel
    rw [e1] at h
    exact h)
  have P2 : Hid (∀ u, Tabs u → Calls Tryd.prog 24 #[.int .i64 738578] u fun e w' => e = .returned (.string ⟨#[50, 48, 50, 51, 45, 48, 50, 45, 50, 56]⟩) ∧ Below u.heap.size u w') := Lib.hid (fun u hu => by
    have h := print_any 738578 u hu
    have e1 : printB 738578 = ⟨#[50, 48, 50, 51, 45, 48, 50, 45, 50, 56]⟩ := by decide +kernel
    rw [e1] at h
    exact h)
  have P3 : Hid (∀ u, Tabs u → Calls Tryd.prog 24 #[.int .i64 0] u fun e w' => e = .returned (.string ⟨#[48, 48, 48, 49, 45, 48, 49, 45, 48, 49]⟩) ∧ Below u.heap.size u w') := Lib.hid (fun u hu => by
    have h := print_any 0 u hu
    have e1 : printB 0 = ⟨#[48, 48, 48, 49, 45, 48, 49, 45, 48, 49]⟩ := by decide +kernel
    rw [e1] at h
    exact h)
  have HTP := Lib.hid hT
  have HBP : Hid (Below w.heap.size w w) := Lib.hid (Below.refl _ _)
  have HWD : Hid (∀ u, Calls Tryd.prog 26 #[.int .i64 730178] u fun e w' => e = .returned (.int .i64 1) ∧ u = w') := Lib.hid (fun u => weekday_any 730178 u (by omega) (by omega))
  clear hT
  go_enter Tryd.func19, Tryd.ntmps19
  go_upto_region 2 with (go_at_call 16; refine (C1.out _ HTP.out).mono ?_; rintro e p1 ⟨rfl, hb⟩; have HTN := Tab_stepD HTP hb; have HBN := Bel_stepD HBP hb; clear HTP HBP hb C1; have HTP := HTN; have HBP := HBN; clear HTN HBN)
  go_upto_region 3 with (go_at_call 16; refine (C2.out _ HTP.out).mono ?_; rintro e p2 ⟨rfl, hb⟩; have HTN := Tab_stepD HTP hb; have HBN := Bel_stepD HBP hb; clear HTP HBP hb C2; have HTP := HTN; have HBP := HBN; clear HTN HBN)
  go_upto_region 4 with (go_at_call 32; refine (C3.out _ HTP.out).mono ?_; rintro e p3 ⟨rfl, hb⟩; have HTN := Tab_stepD HTP hb; have HBN := Bel_stepD HBP hb; clear HTP HBP hb C3; have HTP := HTN; have HBP := HBN; clear HTN HBN)
  go_upto_region 5 with (go_at_call 36; refine (C4.out _ HTP.out).mono ?_; rintro e p4 ⟨rfl, hb⟩; have HTN := Tab_stepD HTP hb; have HBN := Bel_stepD HBP hb; clear HTP HBP hb C4; have HTP := HTN; have HBP := HBN; clear HTN HBN)
  go_upto_region 6 with (go_at_call 34; refine (C5.out _ HTP.out).mono ?_; rintro e p5 ⟨rfl, hb⟩; have HTN := Tab_stepD HTP hb; have HBN := Bel_stepD HBP hb; clear HTP HBP hb C5; have HTP := HTN; have HBP := HBN; clear HTN HBN)
  go_upto_region 7 with (go_at_call 36; refine (C6.out _ HTP.out).mono ?_; rintro e p6 ⟨rfl, hb⟩; have HTN := Tab_stepD HTP hb; have HBN := Bel_stepD HBP hb; clear HTP HBP hb C6; have HTP := HTN; have HBP := HBN; clear HTN HBN)
  go_upto_region 8 with (go_at_call 34; refine (C7.out _ HTP.out).mono ?_; rintro e p7 ⟨rfl, hb⟩; have HTN := Tab_stepD HTP hb; have HBN := Bel_stepD HBP hb; clear HTP HBP hb C7; have HTP := HTN; have HBP := HBN; clear HTN HBN)
  go_upto_region 9 with (go_at_call 36; refine (C8.out _ HTP.out).mono ?_; rintro e p8 ⟨rfl, hb⟩; have HTN := Tab_stepD HTP hb; have HBN := Bel_stepD HBP hb; clear HTP HBP hb C8; have HTP := HTN; have HBP := HBN; clear HTN HBN)
  go_upto_region 10 with (go_at_call 36; refine (C9.out _ HTP.out).mono ?_; rintro e p9 ⟨rfl, hb⟩; have HTN := Tab_stepD HTP hb; have HBN := Bel_stepD HBP hb; clear HTP HBP hb C9; have HTP := HTN; have HBP := HBN; clear HTN HBN)
  go_upto_region 12 with fail
  go_wp2_with (first
    | (go_at_call 26; refine (HWD.out _).mono ?_; rintro e w1 ⟨rfl, rfl⟩)
    | (have _t := P0; go_at_call 24; refine (P0.out _ HTP.out).mono ?_; rintro e q0 ⟨rfl, hb⟩; have HTN := Tab_stepD HTP hb; have HBN := Bel_stepD HBP hb; clear _t HTP HBP hb P0; have HTP := HTN; have HBP := HBN; clear HTN HBN)
    | (have _t := P1; go_at_call 24; refine (P1.out _ HTP.out).mono ?_; rintro e q1 ⟨rfl, hb⟩; have HTN := Tab_stepD HTP hb; have HBN := Bel_stepD HBP hb; clear _t HTP HBP hb P1; have HTP := HTN; have HBP := HBN; clear HTN HBN)
    | (have _t := P2; go_at_call 24; refine (P2.out _ HTP.out).mono ?_; rintro e q2 ⟨rfl, hb⟩; have HTN := Tab_stepD HTP hb; have HBN := Bel_stepD HBP hb; clear _t HTP HBP hb P2; have HTP := HTN; have HBP := HBN; clear HTN HBN)
    | (have _t := P3; go_at_call 24; refine (P3.out _ HTP.out).mono ?_; rintro e q3 ⟨rfl, hb⟩; have HTN := Tab_stepD HTP hb; have HBN := Bel_stepD HBP hb; clear _t HTP HBP hb P3; have HTP := HTN; have HBP := HBN; clear HTN HBN))
  go_ret
  exact ⟨rfl, HBP.out⟩
end Go.Proofs.YtcoijmggfkjcjaaDoor
namespace Go.Proofs.YtcoijmggfkjcjaaDoor
open Go.RowKit
set_option linter.unusedSimpArgs false
set_option linter.unusedVariables false
attribute [local go_sem ↓] exec_storeDate
attribute [local go_sem] run_storeDate
theorem leap_400 (y : Int) : leapB (y + 400) = leapB y := by
  rw [Bool.eq_iff_iff, leap_iff, leap_iff]
  omega
theorem len_400 (y m : Int) : lenD (y + 400) m = lenD y m := by unfold lenD; rw [leap_400]
theorem cum_400 (y : Int) : ∀ k : Nat, cumD (y + 400) k = cumD y k
  | 0 => rfl
  | k + 1 => by
    show cumD (y + 400) k + lenD (y + 400) (k : Int) = cumD y k + lenD y (k : Int)
    rw [cum_400 y k, len_400]
theorem day_400 (y m d : Int) : dayN (y + 400) m d = dayN y m d + 146097 := by
  unfold dayN newY
  rw [cum_400]
  omega
theorem day_first (y : Int) : dayN y 1 1 = newY y := by
  unfold dayN
  rw [show (1 : Int).toNat = 1 from rfl, cum_one]
  omega
theorem valid_first {y : Int} (h1 : 1 ≤ y) (h2 : y ≤ 9999) : validD y 1 1 := ⟨h1, h2, by omega, by have := (len_pos y 1 (by omega) (by omega)).1; omega⟩
theorem day_good {y m d : Int} (hv : validD y m d) (u : World) (hu : Tabs u) : Calls Tryd.prog 16 #[.agg #[.int .i64 y, .int .i64 m, .int .i64 d]] u fun e w' => e = .returned (.tuple #[.int .i64 (dayN y m d), .int .i64 0]) ∧ Below u.heap.size u w' := by
  have h := day_any y m d u hu
  rw [chk_ok hv, show dayR y m d = dayN y m d by unfold dayR; rw [if_pos hv]] at h
  exact h
theorem run_allocD (W : World) : (Instr.alloc 23 true (.tuple #[])).run Tryd.prog W = .ok (.pointer (some ⟨W.heap.size, 0, none⟩)) (W.alloc (.cells #[.int .i64 0, .int .i64 0, .int .i64 0] 23)) := by kernel_rfl
def Dcy1 : List (Option Tmp) := [some 14, some 15, some 16, some 17, some 18, some 19, some 20, some 21, some 22, some 3, none]
def Lcy1 : List (List Nat) := [[], [0], [1], [2], [], [4], [5], [6], [3, 7], [], [9, 8]]
set_option maxRecDepth 100000 in
set_option maxHeartbeats 4000000 in
theorem cycles_law (A B C : Int) (w : World) (hT : Tabs w) (a1 : -9223372036854775808 ≤ A) (a2 : A ≤ 9223372036854775807) (b1 : -9223372036854775808 ≤ B) (b2 : B ≤ 9223372036854775807) (c1 : -9223372036854775808 ≤ C) (c2 : C ≤ 9223372036854775807) : Calls Tryd.prog 11 #[.agg #[.int .i64 A, .int .i64 B, .int .i64 C]] w fun e w' => e = .returned (.bool true) ∧ Below w.heap.size w w' := by
  have bA := aroundD_bd A 9599 (by omega)
  have bB := aroundD_bd B 12 (by omega)
  have HA1 : Hid (∀ u, Calls Tryd.prog 15 #[.int .i64 A, .int .i64 9599] u fun e w' => e = .returned (.int .i64 (aroundD A 9599)) ∧ w' = u) := Lib.hid (fun u => (aroundD_any A 9599 u a1 a2 (by omega) (by omega)).mono fun e w' h => ⟨h.1, h.2.symm⟩)
  have HA2 : Hid (∀ u, Calls Tryd.prog 15 #[.int .i64 B, .int .i64 12] u fun e w' => e = .returned (.int .i64 (aroundD B 12)) ∧ w' = u) := Lib.hid (fun u => (aroundD_any B 12 u b1 b2 (by omega) (by omega)).mono fun e w' h => ⟨h.1, h.2.symm⟩)
  obtain ⟨x, hx⟩ : ∃ x, x = aroundD A 9599 := ⟨_, rfl⟩
  obtain ⟨z, hz⟩ : ∃ z, z = aroundD B 12 := ⟨_, rfl⟩
  rw [← hx] at HA1 bA
  rw [← hz] at HA2 bB
  obtain ⟨y, hy⟩ : ∃ y, y = 1 + x := ⟨_, rfl⟩
  obtain ⟨m, hm⟩ : ∃ m, m = 1 + z := ⟨_, rfl⟩
  have i1 : IntKind.i64.wrap (1 + x) = y := by rw [hy]; exact i64_id _ (by omega) (by omega)
  have i2 : IntKind.i64.wrap (1 + z) = m := by rw [hm]; exact i64_id _ (by omega) (by omega)
  have hyb : 1 ≤ y ∧ y ≤ 9599 := by omega
  have hmb : 1 ≤ m ∧ m ≤ 12 := by omega
  have hL := len_pos y m hmb.1 hmb.2
  obtain ⟨L, hLL⟩ : ∃ L, L = lenD y m := ⟨_, rfl⟩
  rw [← hLL] at hL
  have bC := aroundD_bd C L (by omega)
  have HA3 : Hid (∀ u, Calls Tryd.prog 15 #[.int .i64 C, .int .i64 L] u fun e w' => e = .returned (.int .i64 (aroundD C L)) ∧ w' = u) := Lib.hid (fun u => (aroundD_any C L u c1 c2 (by omega) (by omega)).mono fun e w' h => ⟨h.1, h.2.symm⟩)
  obtain ⟨v, hv⟩ : ∃ v, v = aroundD C L := ⟨_, rfl⟩
  rw [← hv] at HA3 bC
  obtain ⟨d, hd⟩ : ∃ d, d = 1 + v := ⟨_, rfl⟩
  have i3 : IntKind.i64.wrap (1 + v) = d := by rw [hd]; exact i64_id _ (by omega) (by omega)
  have hmx : max 1 L = L := Int.max_eq_right (by omega)
  have hval : validD y m d := ⟨hyb.1, by omega, by omega, by rw [← hLL]; omega⟩
  have HLN : Hid (∀ u, Tabs u → Calls Tryd.prog 30 #[.int .i64 y, .int .i64 m] u fun e w' => e = .returned (.int .i64 L) ∧ w' = u) := Lib.hid (fun u hu => by rw [hLL]; exact (length_any y m u hu).mono fun e w' h => ⟨h.1, h.2.symm⟩)
  have hval2 : validD (y + 400) m d := ⟨by omega, by omega, hval.2.2.1, by rw [len_400]; exact hval.2.2.2⟩
  have r1 := day_rng hval
  have r2 := day_rng hval2
  have hv1 := valid_first hyb.1 (by omega)
  have hv2 := valid_first (y := y + 1) (by omega) (by omega)
  have r3 := day_rng hv1
  have r4 := day_rng hv2
  have e400 := day_400 y m d
  have ef1 := day_first y
  have ef2 := day_first (y + 1)
  have ens := new_succ y
  rw [cum_13] at ens
  obtain ⟨a, ha⟩ : ∃ a, a = dayN y m d := ⟨_, rfl⟩
  obtain ⟨b, hb⟩ : ∃ b, b = dayN (y + 400) m d := ⟨_, rfl⟩
  obtain ⟨n1, hn1⟩ : ∃ n1, n1 = dayN y 1 1 := ⟨_, rfl⟩
  obtain ⟨n2, hn2⟩ : ∃ n2, n2 = dayN (y + 1) 1 1 := ⟨_, rfl⟩
  have D1 : Hid (∀ u, Tabs u → Calls Tryd.prog 16 #[.agg #[.int .i64 y, .int .i64 m, .int .i64 d]] u fun e w' => e = .returned (.tuple #[.int .i64 a, .int .i64 0]) ∧ Below u.heap.size u w') := Lib.hid (fun u hu => by rw [ha]; exact day_good hval u hu)
  have D2 : Hid (∀ u, Tabs u → Calls Tryd.prog 16 #[.agg #[.int .i64 (y + 400), .int .i64 m, .int .i64 d]] u fun e w' => e = .returned (.tuple #[.int .i64 b, .int .i64 0]) ∧ Below u.heap.size u w') := Lib.hid (fun u hu => by rw [hb]; exact day_good hval2 u hu)
  have D3 : Hid (∀ u, Tabs u → Calls Tryd.prog 16 #[.agg #[.int .i64 y, .int .i64 1, .int .i64 1]] u fun e w' => e = .returned (.tuple #[.int .i64 n1, .int .i64 0]) ∧ Below u.heap.size u w') := Lib.hid (fun u hu => by rw [hn1]; exact day_good hv1 u hu)
  have D4 : Hid (∀ u, Tabs u → Calls Tryd.prog 16 #[.agg #[.int .i64 (y + 1), .int .i64 1, .int .i64 1]] u fun e w' => e = .returned (.tuple #[.int .i64 n2, .int .i64 0]) ∧ Below u.heap.size u w') := Lib.hid (fun u hu => by rw [hn2]; exact day_good hv2 u hu)
  rw [← ha, ← hb] at e400
  rw [← ha] at r1
  rw [← hb] at r2
  rw [← hn1] at r3 ef1
  rw [← hn2] at r4 ef2
  have HDIF : Hid (n2 - n1 = 365 + (if leapB y = true then 1 else 0)) := Lib.hid (by rw [ef1, ef2, ens]; omega)
  have hba : b - a = 146097 := by omega
  have i4 : IntKind.i64.wrap (b - a) = 146097 := by rw [hba]; rfl
  have hb7 : b % 7 = a % 7 := by omega
  have HWA : Hid (∀ t u, t = a ∨ t = b → Calls Tryd.prog 26 #[.int .i64 t] u fun e w' => e = .returned (.int .i64 (a % 7)) ∧ u = w') := Lib.hid (fun t u ht => by
    rcases ht with rfl | rfl
    · exact weekday_any t u (by omega) (by omega)
    · rw [← hb7]; exact weekday_any t u (by omega) (by omega))
  have i5 : IntKind.i64.wrap (y + 400) = y + 400 := i64_id _ (by omega) (by omega)
  have i7 : IntKind.i64.wrap (y + 1) = y + 1 := i64_id _ (by omega) (by omega)
  have HTP := Lib.hid hT
  have HT0 := HTP
  have HBP : Hid (Below w.heap.size w w) := Lib.hid (Below.refl _ _)
  clear hT hx hz hy hm hLL hv hd bA bB bC hval hval2 hv1 hv2 e400 ef1 ef2 ens ha hb hn1 hn2 hba hb7 r1 r2
  go_enter Tryd.func11, Tryd.ntmps11
  go_upto_region 1 with fail
  obtain ⟨w1, hw⟩ : ∃ w1, w1 = w.alloc (.cells #[.int .i64 A, .int .i64 B, .int .i64 C] 23) := ⟨_, rfl⟩
  obtain ⟨g1, hg⟩ : ∃ g1, g1 = w.heap.size := ⟨_, rfl⟩
  have hrow : w1.heap[g1]? = some (.cells #[.int .i64 A, .int .i64 B, .int .i64 C] 23 (0, 0)) := by rw [hw, hg]; exact heap_new0
  have hb : Below w.heap.size w w1 := by rw [hw]; exact (Below.refl _ _).alloc (Nat.le_refl _) _
  have HR_g1 := Lib.hid hrow
  have HTN := Tab_stepD HTP hb
  have HBN := Bel_stepD HBP hb
  clear HTP HBP
  have HTP := HTN
  have HBP := HBN
  clear HTN HBN
  rw [← hw]
  rw [← hg]
  clear hw hg hrow hb
  have c_g1_0 : w1.cell? ⟨g1, 0, none⟩ = some (.int .i64 A) := cell_of_row w1 g1 0 _ _ _ HR_g1.out
  have c_g1_1 : w1.cell? ⟨g1, 1, none⟩ = some (.int .i64 B) := cell_of_row w1 g1 1 _ _ _ HR_g1.out
  have c_g1_2 : w1.cell? ⟨g1, 2, none⟩ = some (.int .i64 C) := cell_of_row w1 g1 2 _ _ _ HR_g1.out
  have CR0 := Lib.hid c_g1_0
  have CR1 := Lib.hid c_g1_1
  have HGL := Lib.hid (heap_lt HR_g1.out)
  have I1 := Lib.hid i1
  have I2 := Lib.hid i2
  clear c_g1_0 c_g1_1 c_g1_2
  refine Roll.region_f 10 102 Dcy1 Lcy1 [(1, .pointer (some ⟨g1, 0, none⟩))] (fun p => Below w1.heap.size w1 p) (fun p p2 => Below p.heap.size p p2) [fun vv p => vv = .pointer (some ⟨g1, 0, none⟩), fun vv p => vv = .int .i64 A, fun vv p => vv = .int .i64 x, fun vv p => vv = .int .i64 y, fun vv p => vv = .pointer (some ⟨g1, 1, none⟩), fun vv p => vv = .int .i64 B, fun vv p => vv = .int .i64 z, fun vv p => vv = .int .i64 m, fun vv p => vv = .agg #[.int .i64 y, .int .i64 m, .int .i64 0], fun vv p => ∃ r, vv = .pointer (some ⟨r, 0, none⟩) ∧ w1.heap.size ≤ r ∧ p.heap[r]? = some (.cells #[.int .i64 0, .int .i64 0, .int .i64 0] 23 (0, 0))] (by kernel_rfl) (by kernel_rfl) rfl ⟨rfl, trivial⟩ ((Below.refl _ _).drew) ?_ ?_ ?_
  · exact ⟨fun _ _ _ _ h => h, fun _ _ _ _ h => h, fun _ _ _ _ h => h, fun _ _ _ _ h => h, fun _ _ _ _ h => h, fun _ _ _ _ h => h, fun _ _ _ _ h => h, fun _ _ _ _ h => h, fun _ _ _ _ h => h, fun _ _ _ hs h => by obtain ⟨r, e1, e2, e3⟩ := h; exact ⟨r, e1, e2, (Kept.of_below (fun _ => False) hs).heap e3 (fun h => h)⟩, trivial⟩
  · intro b0 hN hlv
    refine ⟨?_, ?_, ?_, ?_, ?_, ?_, ?_, ?_, ?_, ?_, trivial⟩
    · intro vs p hI hp
      have e1 : (Roll.putD Dcy1 vs [] b0).eval (.tmp 1) = .pointer (some ⟨g1, 0, none⟩) := (Roll.eval_old rfl).trans (hlv.at 0 (1, .pointer (some ⟨g1, 0, none⟩)) rfl)
      clear hp hlv hN
      unfold Roll.Goes
      simp only [Lcy1, List.getD_cons_zero, List.getD_cons_succ]
      generalize Roll.putD Dcy1 vs [] b0 = a1 at *
      refine Roll.goes_val (w' := p) (.pointer (some ⟨g1, 0, none⟩)) rfl ?_ ⟨hI, Below.refl _ _, rfl⟩
      (have ec : ∀ x, a1.eval (.const x) = x := fun _ => rfl); (have ef : ∀ x, a1.eval (.func x) = .func (.func x) #[] #[] := fun _ => rfl); generalize a1.eval = ρ at *
      skip
      go_simp <;> (intros; first | (exfalso; omega) | rfl | omega)
    · intro vs p hI hp
      have h0 : (vs 0) = .pointer (some ⟨g1, 0, none⟩) := hp 0 (by simp [Lcy1])
      have e14 : (Roll.putD Dcy1 vs [0] b0).eval (.tmp 14) = .pointer (some ⟨g1, 0, none⟩) := (Roll.eval_new 0 rfl (by decide) (by decide) (by omega)).trans h0
      clear hp hlv hN
      unfold Roll.Goes
      simp only [Lcy1, List.getD_cons_zero, List.getD_cons_succ]
      generalize Roll.putD Dcy1 vs [0] b0 = a1 at *
      have cf : p.cell? ⟨g1, 0, none⟩ = some (.int .i64 A) := (hI.cell (p := ⟨g1, 0, none⟩) HGL.out).trans CR0.out
      refine Roll.goes_val (w' := p) (.int .i64 A) rfl ?_ ⟨hI, Below.refl _ _, rfl⟩
      (have ec : ∀ x, a1.eval (.const x) = x := fun _ => rfl); (have ef : ∀ x, a1.eval (.func x) = .func (.func x) #[] #[] := fun _ => rfl); generalize a1.eval = ρ at *
      clear h0
      go_simp <;> (intros; first | (exfalso; omega) | rfl | omega)
    · intro vs p hI hp
      have h1 : (vs 1) = .int .i64 A := hp 1 (by simp [Lcy1])
      have e15 : (Roll.putD Dcy1 vs [1] b0).eval (.tmp 15) = .int .i64 A := (Roll.eval_new 1 rfl (by decide) (by decide) (by omega)).trans h1
      clear hp hlv hN
      unfold Roll.Goes
      simp only [Lcy1, List.getD_cons_zero, List.getD_cons_succ]
      generalize Roll.putD Dcy1 vs [1] b0 = a1 at *
      refine Roll.goes_call 15 #[.int .i64 A, .int .i64 9599] p rfl (by have ec : ∀ x, a1.eval (.const x) = x := fun _ => rfl; have ef : ∀ x, a1.eval (.func x) = .func (.func x) #[] #[] := fun _ => rfl; generalize a1.eval = ρ at *; go_simp) ?_
      refine (HA1.out p).mono ?_
      rintro q p2 ⟨rfl, rfl⟩
      exact ⟨_, rfl, hI, Below.refl _ _, rfl⟩
    · intro vs p hI hp
      have h2 : (vs 2) = .int .i64 x := hp 2 (by simp [Lcy1])
      have e16 : (Roll.putD Dcy1 vs [2] b0).eval (.tmp 16) = .int .i64 x := (Roll.eval_new 2 rfl (by decide) (by decide) (by omega)).trans h2
      clear hp hlv hN
      unfold Roll.Goes
      simp only [Lcy1, List.getD_cons_zero, List.getD_cons_succ]
      generalize Roll.putD Dcy1 vs [2] b0 = a1 at *
      have f0 := I1.out
      refine Roll.goes_val (w' := p) (.int .i64 y) rfl ?_ ⟨hI, Below.refl _ _, rfl⟩
      (have ec : ∀ x, a1.eval (.const x) = x := fun _ => rfl); (have ef : ∀ x, a1.eval (.func x) = .func (.func x) #[] #[] := fun _ => rfl); generalize a1.eval = ρ at *
      clear h2
      go_simp <;> (intros; first | (exfalso; omega) | rfl | omega)
    · intro vs p hI hp
      have e1 : (Roll.putD Dcy1 vs [] b0).eval (.tmp 1) = .pointer (some ⟨g1, 0, none⟩) := (Roll.eval_old rfl).trans (hlv.at 0 (1, .pointer (some ⟨g1, 0, none⟩)) rfl)
      clear hp hlv hN
      unfold Roll.Goes
      simp only [Lcy1, List.getD_cons_zero, List.getD_cons_succ]
      generalize Roll.putD Dcy1 vs [] b0 = a1 at *
      refine Roll.goes_val (w' := p) (.pointer (some ⟨g1, 1, none⟩)) rfl ?_ ⟨hI, Below.refl _ _, rfl⟩
      (have ec : ∀ x, a1.eval (.const x) = x := fun _ => rfl); (have ef : ∀ x, a1.eval (.func x) = .func (.func x) #[] #[] := fun _ => rfl); generalize a1.eval = ρ at *
      skip
      go_simp <;> (intros; first | (exfalso; omega) | rfl | omega)
    · intro vs p hI hp
      have h4 : (vs 4) = .pointer (some ⟨g1, 1, none⟩) := hp 4 (by simp [Lcy1])
      have e18 : (Roll.putD Dcy1 vs [4] b0).eval (.tmp 18) = .pointer (some ⟨g1, 1, none⟩) := (Roll.eval_new 4 rfl (by decide) (by decide) (by omega)).trans h4
      clear hp hlv hN
      unfold Roll.Goes
      simp only [Lcy1, List.getD_cons_zero, List.getD_cons_succ]
      generalize Roll.putD Dcy1 vs [4] b0 = a1 at *
      have cf : p.cell? ⟨g1, 1, none⟩ = some (.int .i64 B) := (hI.cell (p := ⟨g1, 1, none⟩) HGL.out).trans CR1.out
      refine Roll.goes_val (w' := p) (.int .i64 B) rfl ?_ ⟨hI, Below.refl _ _, rfl⟩
      (have ec : ∀ x, a1.eval (.const x) = x := fun _ => rfl); (have ef : ∀ x, a1.eval (.func x) = .func (.func x) #[] #[] := fun _ => rfl); generalize a1.eval = ρ at *
      clear h4
      go_simp <;> (intros; first | (exfalso; omega) | rfl | omega)
    · intro vs p hI hp
      have h5 : (vs 5) = .int .i64 B := hp 5 (by simp [Lcy1])
      have e19 : (Roll.putD Dcy1 vs [5] b0).eval (.tmp 19) = .int .i64 B := (Roll.eval_new 5 rfl (by decide) (by decide) (by omega)).trans h5
      clear hp hlv hN
      unfold Roll.Goes
      simp only [Lcy1, List.getD_cons_zero, List.getD_cons_succ]
      generalize Roll.putD Dcy1 vs [5] b0 = a1 at *
      refine Roll.goes_call 15 #[.int .i64 B, .int .i64 12] p rfl (by have ec : ∀ x, a1.eval (.const x) = x := fun _ => rfl; have ef : ∀ x, a1.eval (.func x) = .func (.func x) #[] #[] := fun _ => rfl; generalize a1.eval = ρ at *; go_simp) ?_
      refine (HA2.out p).mono ?_
      rintro q p2 ⟨rfl, rfl⟩
      exact ⟨_, rfl, hI, Below.refl _ _, rfl⟩
    · intro vs p hI hp
      have h6 : (vs 6) = .int .i64 z := hp 6 (by simp [Lcy1])
      have e20 : (Roll.putD Dcy1 vs [6] b0).eval (.tmp 20) = .int .i64 z := (Roll.eval_new 6 rfl (by decide) (by decide) (by omega)).trans h6
      clear hp hlv hN
      unfold Roll.Goes
      simp only [Lcy1, List.getD_cons_zero, List.getD_cons_succ]
      generalize Roll.putD Dcy1 vs [6] b0 = a1 at *
      have f0 := I2.out
      refine Roll.goes_val (w' := p) (.int .i64 m) rfl ?_ ⟨hI, Below.refl _ _, rfl⟩
      (have ec : ∀ x, a1.eval (.const x) = x := fun _ => rfl); (have ef : ∀ x, a1.eval (.func x) = .func (.func x) #[] #[] := fun _ => rfl); generalize a1.eval = ρ at *
      clear h6
      go_simp <;> (intros; first | (exfalso; omega) | rfl | omega)
    · intro vs p hI hp
      have h3 : (vs 3) = .int .i64 y := hp 3 (by simp [Lcy1])
      have h7 : (vs 7) = .int .i64 m := hp 7 (by simp [Lcy1])
      have e17 : (Roll.putD Dcy1 vs [3, 7] b0).eval (.tmp 17) = .int .i64 y := (Roll.eval_new 3 rfl (by decide) (by decide) (by omega)).trans h3
      have e21 : (Roll.putD Dcy1 vs [3, 7] b0).eval (.tmp 21) = .int .i64 m := (Roll.eval_new 7 rfl (by decide) (by decide) (by omega)).trans h7
      clear hp hlv hN
      unfold Roll.Goes
      simp only [Lcy1, List.getD_cons_zero, List.getD_cons_succ]
      generalize Roll.putD Dcy1 vs [3, 7] b0 = a1 at *
      refine Roll.goes_val (w' := p) (.agg #[.int .i64 y, .int .i64 m, .int .i64 0]) rfl ?_ ⟨hI, Below.refl _ _, rfl⟩
      (have ec : ∀ x, a1.eval (.const x) = x := fun _ => rfl); (have ef : ∀ x, a1.eval (.func x) = .func (.func x) #[] #[] := fun _ => rfl); generalize a1.eval = ρ at *
      clear h3 h7
      go_simp <;> (intros; first | (exfalso; omega) | rfl | omega)
    · intro vs p hI hp
      clear hp hlv hN
      unfold Roll.Goes
      simp only [Lcy1, List.getD_cons_zero, List.getD_cons_succ]
      generalize Roll.putD Dcy1 vs [] b0 = a1 at *
      have hal : Below p.heap.size p (p.alloc (.cells #[.int .i64 0, .int .i64 0, .int .i64 0] 23)) := (Below.refl _ _).alloc (Nat.le_refl _) _
      refine Roll.goes_val (w' := p.alloc (.cells #[.int .i64 0, .int .i64 0, .int .i64 0] 23)) (.pointer (some ⟨p.heap.size, 0, none⟩)) rfl (by have ec : ∀ x, a1.eval (.const x) = x := fun _ => rfl; have ef : ∀ x, a1.eval (.func x) = .func (.func x) #[] #[] := fun _ => rfl; have hbs := run_allocD; generalize a1.eval = ρ at *; go_simp <;> (intros; first | (exfalso; omega) | rfl)) ⟨hI.trans (hal.mono hI.size), hal, p.heap.size, rfl, hI.size, heap_new0⟩
  · intro vs p hI hR
    have h0 : (vs 0) = .pointer (some ⟨g1, 0, none⟩) := hR 0 (by omega)
    have h1 : (vs 1) = .int .i64 A := hR 1 (by omega)
    have h2 : (vs 2) = .int .i64 x := hR 2 (by omega)
    have h3 : (vs 3) = .int .i64 y := hR 3 (by omega)
    have h4 : (vs 4) = .pointer (some ⟨g1, 1, none⟩) := hR 4 (by omega)
    have h5 : (vs 5) = .int .i64 B := hR 5 (by omega)
    have h6 : (vs 6) = .int .i64 z := hR 6 (by omega)
    have h7 : (vs 7) = .int .i64 m := hR 7 (by omega)
    have h8 : (vs 8) = .agg #[.int .i64 y, .int .i64 m, .int .i64 0] := hR 8 (by omega)
    have h9 : ∃ r, (vs 9) = .pointer (some ⟨r, 0, none⟩) ∧ w1.heap.size ≤ r ∧ p.heap[r]? = some (.cells #[.int .i64 0, .int .i64 0, .int .i64 0] 23 (0, 0)) := hR 9 (by omega)
    clear hR
    simp only [List.range_succ, List.range_zero, List.nil_append, List.cons_append, Roll.putD, Act.put, List.getD_cons_zero, List.getD_cons_succ, List.setIfInBounds_toArray, List.set_cons_zero, List.set_cons_succ, List.drop_succ_cons, List.drop_zero, Dcy1]
    simp only [h0, h1, h2, h3, h4, h5, h6, h7, h8]
    clear h0 h1 h2 h3 h4 h5 h6 h7 h8
    generalize vs 9 = v9 at *
    obtain ⟨g3, rfl, hr1, hh1⟩ := h9
    have HI := Lib.hid hI
    have HR1 := Lib.hid hr1
    have HH1 := Lib.hid hh1
    have pd : DB p g3 := ⟨0, 0, 0, hh1⟩
    clear hI hr1 hh1
    go_upto_region 2 with fail
    obtain ⟨w3, hw⟩ : ∃ w3, w3 = p.setRow g3 #[.int .i64 y, .int .i64 m, .int .i64 0] := ⟨_, rfl⟩
    have hrow : w3.heap[g3]? = some (.cells #[.int .i64 y, .int .i64 m, .int .i64 0] 23 (0, 0)) := by rw [hw]; exact setRow_heap _ _ _ _ _ _ HH1.out
    have hb : Below w1.heap.size w1 w3 := by rw [hw]; exact ((Kept.of_below (fun _ => False) HI.out).setRow (fun h => absurd h (by have := HR1.out; omega)) _).below (Nat.le_refl _) (fun _ _ h => h)
    have HG_g3 : Hid (w.heap.size ≤ g3) := Lib.hid (Nat.le_trans HBP.out.size HR1.out)
    have HNE_g1_g3 : Hid (g1 ≠ g3) := Lib.hid (by have := heap_lt HR_g1.out; have := HR1.out; omega)
    have HRN := Lib.hid ((hb.block g1 (heap_lt HR_g1.out)).trans HR_g1.out)
    clear HR_g1
    have HR_g1 := HRN
    clear HRN
    have HR_g3 := Lib.hid hrow
    have HTN := Tab_stepD HTP hb
    have HBN := Bel_stepD HBP hb
    clear HTP HBP
    have HTP := HTN
    have HBP := HBN
    clear HTN HBN
    rw [← hw]
    clear hw hrow hb pd HI HR1 HH1 CR0 CR1 HGL I1 I2
    have c_g1_0 : w3.cell? ⟨g1, 0, none⟩ = some (.int .i64 A) := cell_of_row w3 g1 0 _ _ _ HR_g1.out
    have c_g1_1 : w3.cell? ⟨g1, 1, none⟩ = some (.int .i64 B) := cell_of_row w3 g1 1 _ _ _ HR_g1.out
    have c_g1_2 : w3.cell? ⟨g1, 2, none⟩ = some (.int .i64 C) := cell_of_row w3 g1 2 _ _ _ HR_g1.out
    have c_g3_0 : w3.cell? ⟨g3, 0, none⟩ = some (.int .i64 y) := cell_of_row w3 g3 0 _ _ _ HR_g3.out
    have c_g3_1 : w3.cell? ⟨g3, 1, none⟩ = some (.int .i64 m) := cell_of_row w3 g3 1 _ _ _ HR_g3.out
    have c_g3_2 : w3.cell? ⟨g3, 2, none⟩ = some (.int .i64 0) := cell_of_row w3 g3 2 _ _ _ HR_g3.out
    have f_g3_0 : w3.frozen? ⟨g3, 0, none⟩ = false := frozen_of_row w3 g3 0 _ _ HR_g3.out
    have f_g3_1 : w3.frozen? ⟨g3, 1, none⟩ = false := frozen_of_row w3 g3 1 _ _ HR_g3.out
    have f_g3_2 : w3.frozen? ⟨g3, 2, none⟩ = false := frozen_of_row w3 g3 2 _ _ HR_g3.out
    have HLN3 := Lib.hid (HLN.out w3.drew (HTP.out.below (Below.refl _ _).drew))
    go_still_tail 11, (by kernel_rfl)
    still_call (HLN3.out)
    repeat still_step
    still_call (HA3.out _)
    repeat still_step
    refine wpStill_nil ?_
    change wpList _ _ _ _ _ w3.drew
    go_upto_region 3 with fail
    obtain ⟨w4, hw⟩ : ∃ w4, w4 = (w3.setCell ⟨g3, 2, none⟩ (.int .i64 d)).drew := ⟨_, rfl⟩
    have hrow : w4.heap[g3]? = some (.cells #[.int .i64 y, .int .i64 m, .int .i64 d] 23 (0, 0)) := by rw [hw]; exact heap_setCell_same _ _ _ _ _ _ HR_g3.out
    have hb : Below w.heap.size w w4 := by rw [hw]; exact ((((Kept.of_below (fun _ => False) HBP.out).setCell (fun h => absurd (show g3 < w.heap.size from h) (by have := HG_g3.out; omega)) _).below (Nat.le_refl _) (fun _ _ h => h))).drew
    have HTN : Hid (Tabs w4) := Lib.hid (HT0.out.below hb)
    have HBN : Hid (Below w.heap.size w w4) := Lib.hid hb
    have HRN : Hid (w4.heap[g1]? = some (.cells #[.int .i64 A, .int .i64 B, .int .i64 C] 23 (0, 0))) := Lib.hid (by rw [hw]; exact (heap_setCell_other _ _ _ _ HNE_g1_g3.out).trans HR_g1.out)
    clear HR_g1
    have HR_g1 := HRN
    clear HRN
    clear HTP HBP HR_g3 c_g1_0 c_g1_1 c_g1_2 c_g3_0 c_g3_1 c_g3_2 f_g3_0 f_g3_1 f_g3_2
    have HTP := HTN
    have HBP := HBN
    have HR_g3 := Lib.hid hrow
    rw [← hw]
    clear HTN HBN hw hrow hb
    have c_g1_0 : w4.cell? ⟨g1, 0, none⟩ = some (.int .i64 A) := cell_of_row w4 g1 0 _ _ _ HR_g1.out
    have c_g1_1 : w4.cell? ⟨g1, 1, none⟩ = some (.int .i64 B) := cell_of_row w4 g1 1 _ _ _ HR_g1.out
    have c_g1_2 : w4.cell? ⟨g1, 2, none⟩ = some (.int .i64 C) := cell_of_row w4 g1 2 _ _ _ HR_g1.out
    have c_g3_0 : w4.cell? ⟨g3, 0, none⟩ = some (.int .i64 y) := cell_of_row w4 g3 0 _ _ _ HR_g3.out
    have c_g3_1 : w4.cell? ⟨g3, 1, none⟩ = some (.int .i64 m) := cell_of_row w4 g3 1 _ _ _ HR_g3.out
    have c_g3_2 : w4.cell? ⟨g3, 2, none⟩ = some (.int .i64 d) := cell_of_row w4 g3 2 _ _ _ HR_g3.out
    have f_g3_0 : w4.frozen? ⟨g3, 0, none⟩ = false := frozen_of_row w4 g3 0 _ _ HR_g3.out
    have f_g3_1 : w4.frozen? ⟨g3, 1, none⟩ = false := frozen_of_row w4 g3 1 _ _ HR_g3.out
    have f_g3_2 : w4.frozen? ⟨g3, 2, none⟩ = false := frozen_of_row w4 g3 2 _ _ HR_g3.out
    have pd : DB (w4.alloc (.cells #[.int .i64 0, .int .i64 0, .int .i64 0] 23)) w4.heap.size := ⟨0, 0, 0, heap_new0⟩
    go_upto_region 4 with fail
    obtain ⟨w5, hw⟩ : ∃ w5, w5 = (w4.alloc (.cells #[.int .i64 0, .int .i64 0, .int .i64 0] 23)).setRow w4.heap.size #[.int .i64 y, .int .i64 m, .int .i64 d] := ⟨_, rfl⟩
    obtain ⟨g4, hg⟩ : ∃ g4, g4 = w4.heap.size := ⟨_, rfl⟩
    have hrow : w5.heap[g4]? = some (.cells #[.int .i64 y, .int .i64 m, .int .i64 d] 23 (0, 0)) := by rw [hw, hg]; exact setRow_heap _ _ _ _ _ _ heap_new0
    have hb : Below w4.heap.size w4 w5 := by rw [hw]; exact (((Kept.refl (fun _ => False) w4).alloc _).setRow (fun h => by omega) _).below (Nat.le_refl _) (fun _ _ h => h)
    have HG_g4 : Hid (w.heap.size ≤ g4) := Lib.hid (by rw [hg]; exact HBP.out.size)
    have HNE_g1_g4 : Hid (g1 ≠ g4) := Lib.hid (by have := heap_lt HR_g1.out; omega)
    have HRN := Lib.hid ((hb.block g1 (heap_lt HR_g1.out)).trans HR_g1.out)
    clear HR_g1
    have HR_g1 := HRN
    clear HRN
    have HNE_g3_g4 : Hid (g3 ≠ g4) := Lib.hid (by have := heap_lt HR_g3.out; omega)
    have HRN := Lib.hid ((hb.block g3 (heap_lt HR_g3.out)).trans HR_g3.out)
    clear HR_g3
    have HR_g3 := HRN
    clear HRN
    have HR_g4 := Lib.hid hrow
    have HTN := Tab_stepD HTP hb
    have HBN := Bel_stepD HBP hb
    clear HTP HBP
    have HTP := HTN
    have HBP := HBN
    clear HTN HBN
    rw [← hw]
    rw [← hg]
    clear hw hg hrow hb pd c_g1_0 c_g1_1 c_g1_2 c_g3_0 c_g3_1 c_g3_2
    have c_g1_0 : w5.cell? ⟨g1, 0, none⟩ = some (.int .i64 A) := cell_of_row w5 g1 0 _ _ _ HR_g1.out
    have c_g1_1 : w5.cell? ⟨g1, 1, none⟩ = some (.int .i64 B) := cell_of_row w5 g1 1 _ _ _ HR_g1.out
    have c_g1_2 : w5.cell? ⟨g1, 2, none⟩ = some (.int .i64 C) := cell_of_row w5 g1 2 _ _ _ HR_g1.out
    have c_g3_0 : w5.cell? ⟨g3, 0, none⟩ = some (.int .i64 y) := cell_of_row w5 g3 0 _ _ _ HR_g3.out
    have c_g3_1 : w5.cell? ⟨g3, 1, none⟩ = some (.int .i64 m) := cell_of_row w5 g3 1 _ _ _ HR_g3.out
    have c_g3_2 : w5.cell? ⟨g3, 2, none⟩ = some (.int .i64 d) := cell_of_row w5 g3 2 _ _ _ HR_g3.out
    have c_g4_0 : w5.cell? ⟨g4, 0, none⟩ = some (.int .i64 y) := cell_of_row w5 g4 0 _ _ _ HR_g4.out
    have c_g4_1 : w5.cell? ⟨g4, 1, none⟩ = some (.int .i64 m) := cell_of_row w5 g4 1 _ _ _ HR_g4.out
    have c_g4_2 : w5.cell? ⟨g4, 2, none⟩ = some (.int .i64 d) := cell_of_row w5 g4 2 _ _ _ HR_g4.out
    have f_g4_0 : w5.frozen? ⟨g4, 0, none⟩ = false := frozen_of_row w5 g4 0 _ _ HR_g4.out
    have f_g4_1 : w5.frozen? ⟨g4, 1, none⟩ = false := frozen_of_row w5 g4 1 _ _ HR_g4.out
    have f_g4_2 : w5.frozen? ⟨g4, 2, none⟩ = false := frozen_of_row w5 g4 2 _ _ HR_g4.out
    go_upto_region 5 with fail
    obtain ⟨w6, hw⟩ : ∃ w6, w6 = w5.setCell ⟨g4, 0, none⟩ (.int .i64 (y + 400)) := ⟨_, rfl⟩
    have hrow : w6.heap[g4]? = some (.cells #[.int .i64 (y + 400), .int .i64 m, .int .i64 d] 23 (0, 0)) := by rw [hw]; exact heap_setCell_same _ _ _ _ _ _ HR_g4.out
    have hb : Below w.heap.size w w6 := by rw [hw]; exact ((((Kept.of_below (fun _ => False) HBP.out).setCell (fun h => absurd (show g4 < w.heap.size from h) (by have := HG_g4.out; omega)) _).below (Nat.le_refl _) (fun _ _ h => h)))
    have HTN : Hid (Tabs w6) := Lib.hid (HT0.out.below hb)
    have HBN : Hid (Below w.heap.size w w6) := Lib.hid hb
    have HRN : Hid (w6.heap[g1]? = some (.cells #[.int .i64 A, .int .i64 B, .int .i64 C] 23 (0, 0))) := Lib.hid (by rw [hw]; exact (heap_setCell_other _ _ _ _ HNE_g1_g4.out).trans HR_g1.out)
    clear HR_g1
    have HR_g1 := HRN
    clear HRN
    have HRN : Hid (w6.heap[g3]? = some (.cells #[.int .i64 y, .int .i64 m, .int .i64 d] 23 (0, 0))) := Lib.hid (by rw [hw]; exact (heap_setCell_other _ _ _ _ HNE_g3_g4.out).trans HR_g3.out)
    clear HR_g3
    have HR_g3 := HRN
    clear HRN
    clear HTP HBP HR_g4 c_g1_0 c_g1_1 c_g1_2 c_g3_0 c_g3_1 c_g3_2 c_g4_0 c_g4_1 c_g4_2 f_g4_0 f_g4_1 f_g4_2
    have HTP := HTN
    have HBP := HBN
    have HR_g4 := Lib.hid hrow
    rw [← hw]
    clear HTN HBN hw hrow hb
    have c_g1_0 : w6.cell? ⟨g1, 0, none⟩ = some (.int .i64 A) := cell_of_row w6 g1 0 _ _ _ HR_g1.out
    have c_g1_1 : w6.cell? ⟨g1, 1, none⟩ = some (.int .i64 B) := cell_of_row w6 g1 1 _ _ _ HR_g1.out
    have c_g1_2 : w6.cell? ⟨g1, 2, none⟩ = some (.int .i64 C) := cell_of_row w6 g1 2 _ _ _ HR_g1.out
    have c_g3_0 : w6.cell? ⟨g3, 0, none⟩ = some (.int .i64 y) := cell_of_row w6 g3 0 _ _ _ HR_g3.out
    have c_g3_1 : w6.cell? ⟨g3, 1, none⟩ = some (.int .i64 m) := cell_of_row w6 g3 1 _ _ _ HR_g3.out
    have c_g3_2 : w6.cell? ⟨g3, 2, none⟩ = some (.int .i64 d) := cell_of_row w6 g3 2 _ _ _ HR_g3.out
    have c_g4_0 : w6.cell? ⟨g4, 0, none⟩ = some (.int .i64 (y + 400)) := cell_of_row w6 g4 0 _ _ _ HR_g4.out
    have c_g4_1 : w6.cell? ⟨g4, 1, none⟩ = some (.int .i64 m) := cell_of_row w6 g4 1 _ _ _ HR_g4.out
    have c_g4_2 : w6.cell? ⟨g4, 2, none⟩ = some (.int .i64 d) := cell_of_row w6 g4 2 _ _ _ HR_g4.out
    have f_g4_0 : w6.frozen? ⟨g4, 0, none⟩ = false := frozen_of_row w6 g4 0 _ _ HR_g4.out
    have f_g4_1 : w6.frozen? ⟨g4, 1, none⟩ = false := frozen_of_row w6 g4 1 _ _ HR_g4.out
    have f_g4_2 : w6.frozen? ⟨g4, 2, none⟩ = false := frozen_of_row w6 g4 2 _ _ HR_g4.out
    go_upto_region 6 with (go_at_call 16; refine (D1.out _ HTP.out).mono ?_; rintro e v0 ⟨rfl, hb⟩; have HTN := Tab_stepD HTP hb; have HBN := Bel_stepD HBP hb; clear HTP HBP; have HTP := HTN; have HBP := HBN; clear HTN HBN; have HRN := Lib.hid ((hb.block g1 (heap_lt HR_g1.out)).trans HR_g1.out); clear HR_g1; have HR_g1 := HRN; clear HRN; have HRN := Lib.hid ((hb.block g3 (heap_lt HR_g3.out)).trans HR_g3.out); clear HR_g3; have HR_g3 := HRN; clear HRN; have HRN := Lib.hid ((hb.block g4 (heap_lt HR_g4.out)).trans HR_g4.out); clear HR_g4; have HR_g4 := HRN; clear HRN; clear c_g1_0 c_g1_1 c_g1_2 c_g3_0 c_g3_1 c_g3_2 c_g4_0 c_g4_1 c_g4_2; have c_g1_0 : v0.cell? ⟨g1, 0, none⟩ = some (.int .i64 A) := cell_of_row v0 g1 0 _ _ _ HR_g1.out; have c_g1_1 : v0.cell? ⟨g1, 1, none⟩ = some (.int .i64 B) := cell_of_row v0 g1 1 _ _ _ HR_g1.out; have c_g1_2 : v0.cell? ⟨g1, 2, none⟩ = some (.int .i64 C) := cell_of_row v0 g1 2 _ _ _ HR_g1.out; have c_g3_0 : v0.cell? ⟨g3, 0, none⟩ = some (.int .i64 y) := cell_of_row v0 g3 0 _ _ _ HR_g3.out; have c_g3_1 : v0.cell? ⟨g3, 1, none⟩ = some (.int .i64 m) := cell_of_row v0 g3 1 _ _ _ HR_g3.out; have c_g3_2 : v0.cell? ⟨g3, 2, none⟩ = some (.int .i64 d) := cell_of_row v0 g3 2 _ _ _ HR_g3.out; have c_g4_0 : v0.cell? ⟨g4, 0, none⟩ = some (.int .i64 (y + 400)) := cell_of_row v0 g4 0 _ _ _ HR_g4.out; have c_g4_1 : v0.cell? ⟨g4, 1, none⟩ = some (.int .i64 m) := cell_of_row v0 g4 1 _ _ _ HR_g4.out; have c_g4_2 : v0.cell? ⟨g4, 2, none⟩ = some (.int .i64 d) := cell_of_row v0 g4 2 _ _ _ HR_g4.out; clear hb)
    go_upto_region 7 with (go_at_call 16; refine (D2.out _ HTP.out).mono ?_; rintro e v1 ⟨rfl, hb⟩; have HTN := Tab_stepD HTP hb; have HBN := Bel_stepD HBP hb; clear HTP HBP; have HTP := HTN; have HBP := HBN; clear HTN HBN; have HRN := Lib.hid ((hb.block g1 (heap_lt HR_g1.out)).trans HR_g1.out); clear HR_g1; have HR_g1 := HRN; clear HRN; have HRN := Lib.hid ((hb.block g3 (heap_lt HR_g3.out)).trans HR_g3.out); clear HR_g3; have HR_g3 := HRN; clear HRN; have HRN := Lib.hid ((hb.block g4 (heap_lt HR_g4.out)).trans HR_g4.out); clear HR_g4; have HR_g4 := HRN; clear HRN; clear c_g1_0 c_g1_1 c_g1_2 c_g3_0 c_g3_1 c_g3_2 c_g4_0 c_g4_1 c_g4_2; have c_g1_0 : v1.cell? ⟨g1, 0, none⟩ = some (.int .i64 A) := cell_of_row v1 g1 0 _ _ _ HR_g1.out; have c_g1_1 : v1.cell? ⟨g1, 1, none⟩ = some (.int .i64 B) := cell_of_row v1 g1 1 _ _ _ HR_g1.out; have c_g1_2 : v1.cell? ⟨g1, 2, none⟩ = some (.int .i64 C) := cell_of_row v1 g1 2 _ _ _ HR_g1.out; have c_g3_0 : v1.cell? ⟨g3, 0, none⟩ = some (.int .i64 y) := cell_of_row v1 g3 0 _ _ _ HR_g3.out; have c_g3_1 : v1.cell? ⟨g3, 1, none⟩ = some (.int .i64 m) := cell_of_row v1 g3 1 _ _ _ HR_g3.out; have c_g3_2 : v1.cell? ⟨g3, 2, none⟩ = some (.int .i64 d) := cell_of_row v1 g3 2 _ _ _ HR_g3.out; have c_g4_0 : v1.cell? ⟨g4, 0, none⟩ = some (.int .i64 (y + 400)) := cell_of_row v1 g4 0 _ _ _ HR_g4.out; have c_g4_1 : v1.cell? ⟨g4, 1, none⟩ = some (.int .i64 m) := cell_of_row v1 g4 1 _ _ _ HR_g4.out; have c_g4_2 : v1.cell? ⟨g4, 2, none⟩ = some (.int .i64 d) := cell_of_row v1 g4 2 _ _ _ HR_g4.out; clear hb)
    go_upto_region 8 with (go_at_call 16; refine (D3.out _ HTP.out).mono ?_; rintro e v2 ⟨rfl, hb⟩; have HTN := Tab_stepD HTP hb; have HBN := Bel_stepD HBP hb; clear HTP HBP; have HTP := HTN; have HBP := HBN; clear HTN HBN; have HRN := Lib.hid ((hb.block g1 (heap_lt HR_g1.out)).trans HR_g1.out); clear HR_g1; have HR_g1 := HRN; clear HRN; have HRN := Lib.hid ((hb.block g3 (heap_lt HR_g3.out)).trans HR_g3.out); clear HR_g3; have HR_g3 := HRN; clear HRN; have HRN := Lib.hid ((hb.block g4 (heap_lt HR_g4.out)).trans HR_g4.out); clear HR_g4; have HR_g4 := HRN; clear HRN; clear c_g1_0 c_g1_1 c_g1_2 c_g3_0 c_g3_1 c_g3_2 c_g4_0 c_g4_1 c_g4_2; have c_g1_0 : v2.cell? ⟨g1, 0, none⟩ = some (.int .i64 A) := cell_of_row v2 g1 0 _ _ _ HR_g1.out; have c_g1_1 : v2.cell? ⟨g1, 1, none⟩ = some (.int .i64 B) := cell_of_row v2 g1 1 _ _ _ HR_g1.out; have c_g1_2 : v2.cell? ⟨g1, 2, none⟩ = some (.int .i64 C) := cell_of_row v2 g1 2 _ _ _ HR_g1.out; have c_g3_0 : v2.cell? ⟨g3, 0, none⟩ = some (.int .i64 y) := cell_of_row v2 g3 0 _ _ _ HR_g3.out; have c_g3_1 : v2.cell? ⟨g3, 1, none⟩ = some (.int .i64 m) := cell_of_row v2 g3 1 _ _ _ HR_g3.out; have c_g3_2 : v2.cell? ⟨g3, 2, none⟩ = some (.int .i64 d) := cell_of_row v2 g3 2 _ _ _ HR_g3.out; have c_g4_0 : v2.cell? ⟨g4, 0, none⟩ = some (.int .i64 (y + 400)) := cell_of_row v2 g4 0 _ _ _ HR_g4.out; have c_g4_1 : v2.cell? ⟨g4, 1, none⟩ = some (.int .i64 m) := cell_of_row v2 g4 1 _ _ _ HR_g4.out; have c_g4_2 : v2.cell? ⟨g4, 2, none⟩ = some (.int .i64 d) := cell_of_row v2 g4 2 _ _ _ HR_g4.out; clear hb)
    go_upto_region 9 with (go_at_call 16; refine (D4.out _ HTP.out).mono ?_; rintro e v3 ⟨rfl, hb⟩; have HTN := Tab_stepD HTP hb; have HBN := Bel_stepD HBP hb; clear HTP HBP; have HTP := HTN; have HBP := HBN; clear HTN HBN; have HRN := Lib.hid ((hb.block g1 (heap_lt HR_g1.out)).trans HR_g1.out); clear HR_g1; have HR_g1 := HRN; clear HRN; have HRN := Lib.hid ((hb.block g3 (heap_lt HR_g3.out)).trans HR_g3.out); clear HR_g3; have HR_g3 := HRN; clear HRN; have HRN := Lib.hid ((hb.block g4 (heap_lt HR_g4.out)).trans HR_g4.out); clear HR_g4; have HR_g4 := HRN; clear HRN; clear c_g1_0 c_g1_1 c_g1_2 c_g3_0 c_g3_1 c_g3_2 c_g4_0 c_g4_1 c_g4_2; have c_g1_0 : v3.cell? ⟨g1, 0, none⟩ = some (.int .i64 A) := cell_of_row v3 g1 0 _ _ _ HR_g1.out; have c_g1_1 : v3.cell? ⟨g1, 1, none⟩ = some (.int .i64 B) := cell_of_row v3 g1 1 _ _ _ HR_g1.out; have c_g1_2 : v3.cell? ⟨g1, 2, none⟩ = some (.int .i64 C) := cell_of_row v3 g1 2 _ _ _ HR_g1.out; have c_g3_0 : v3.cell? ⟨g3, 0, none⟩ = some (.int .i64 y) := cell_of_row v3 g3 0 _ _ _ HR_g3.out; have c_g3_1 : v3.cell? ⟨g3, 1, none⟩ = some (.int .i64 m) := cell_of_row v3 g3 1 _ _ _ HR_g3.out; have c_g3_2 : v3.cell? ⟨g3, 2, none⟩ = some (.int .i64 d) := cell_of_row v3 g3 2 _ _ _ HR_g3.out; have c_g4_0 : v3.cell? ⟨g4, 0, none⟩ = some (.int .i64 (y + 400)) := cell_of_row v3 g4 0 _ _ _ HR_g4.out; have c_g4_1 : v3.cell? ⟨g4, 1, none⟩ = some (.int .i64 m) := cell_of_row v3 g4 1 _ _ _ HR_g4.out; have c_g4_2 : v3.cell? ⟨g4, 2, none⟩ = some (.int .i64 d) := cell_of_row v3 g4 2 _ _ _ HR_g4.out; clear hb)
    cases hl : leapB y
    · have HLP : Hid (∀ u, Calls Tryd.prog 28 #[.int .i64 y] u fun e w' => e = .returned (.bool false) ∧ u = w') := Lib.hid (fun u => by rw [← hl]; exact leap_any y u)
      have hq : n2 - n1 = 365 := by have h := HDIF.out; rw [hl] at h; simpa using h
      have i6 : IntKind.i64.wrap (n2 - n1) = 365 := by rw [hq]; exact i64_id _ (by omega) (by omega)
      clear hl hq
      go_wp2_with (first
        | (go_at_call 28; refine (HLP.out _).mono ?_; rintro e w1 ⟨rfl, rfl⟩)
        | (go_at_call 26; refine (HWA.out _ _ (by first | exact .inl rfl | exact .inr rfl)).mono ?_; rintro e w1 ⟨rfl, rfl⟩)
        | (go_at_call 19; refine (lives_any _ HTP.out).mono ?_; rintro e w1 ⟨rfl, hb⟩; have HTN := Tab_stepD HTP hb; have HBN := Bel_stepD HBP hb; clear HTP HBP; have HTP := HTN; have HBP := HBN; clear HTN HBN; clear hb))
      go_ret
      exact ⟨rfl, HBP.out⟩
    · have HLP : Hid (∀ u, Calls Tryd.prog 28 #[.int .i64 y] u fun e w' => e = .returned (.bool true) ∧ u = w') := Lib.hid (fun u => by rw [← hl]; exact leap_any y u)
      have hq : n2 - n1 = 366 := by have h := HDIF.out; rw [hl] at h; simpa using h
      have i6 : IntKind.i64.wrap (n2 - n1) = 366 := by rw [hq]; exact i64_id _ (by omega) (by omega)
      clear hl hq
      go_wp2_with (first
        | (go_at_call 28; refine (HLP.out _).mono ?_; rintro e w1 ⟨rfl, rfl⟩)
        | (go_at_call 26; refine (HWA.out _ _ (by first | exact .inl rfl | exact .inr rfl)).mono ?_; rintro e w1 ⟨rfl, rfl⟩)
        | (go_at_call 19; refine (lives_any _ HTP.out).mono ?_; rintro e w1 ⟨rfl, hb⟩; have HTN := Tab_stepD HTP hb; have HBN := Bel_stepD HBP hb; clear HTP HBP; have HTP := HTN; have HBP := HBN; clear HTN HBN; clear hb))
      go_ret
      exact ⟨rfl, HBP.out⟩
end Go.Proofs.YtcoijmggfkjcjaaDoor

/-
  Printed days: the program's and the reference's (written by gen_I8.py).
-/
import Derived.Test.YtcdjilnlmihnhaaDoorI7
namespace Go.Proofs.YtcdjilnlmihnhaaDoor
open Go.RowKit
set_option linter.unusedSimpArgs false
set_option linter.unusedVariables false
attribute [local go_sem ↓] exec_storeDate
attribute [local go_sem] run_storeDate
/-- a printed day -/
def printB (n : Int) : ByteArray := if okN n then ⟨(printL (yearN n) (monthN n) (mdayN n)).toArray⟩ else ⟨#[]⟩
def Dprint : List (Option Tmp) := [some 12, some 13, some 14, some 15, some 16, some 17, some 18, some 19, some 20, some 21, some 22, some 23, some 24, some 2]
def Lprint : List (List Nat) := [[], [0], [1], [2], [], [4], [5], [3, 6], [7], [], [9], [10], [8, 11], [12]]
def DrefPrint : List (Option Tmp) := [some 12, some 13, some 14, some 15, some 16, some 17, some 18, some 19, some 20, some 21, some 22, some 23, some 24, some 2]
def LrefPrint : List (List Nat) := [[], [0], [1], [2], [], [4], [5], [3, 6], [7], [], [9], [10], [8, 11], [12]]
set_option maxRecDepth 100000 in
set_option maxHeartbeats 2000000 in
theorem print_any (n : Int) (w : World) (hT : Tabs w) : Calls Tryd.prog 7 #[.int .i64 n] w fun e w' => e = .returned (.string (printB n)) ∧ Below w.heap.size w w' := by
  have HO := Lib.hid (of_any n w hT)
  by_cases hn : okN n
  · obtain ⟨e1, e2, e3, e4⟩ := of_yes hn
    have hv := (of_ok n hn.1 hn.2).1
    have hs := valid_sm hv
    obtain ⟨a, ha⟩ : ∃ a : Nat, yearN n = (a : Int) := ⟨(yearN n).toNat, by omega⟩
    obtain ⟨b, hb⟩ : ∃ b : Nat, monthN n = (b : Int) := ⟨(monthN n).toNat, by omega⟩
    obtain ⟨c, hc⟩ : ∃ c : Nat, mdayN n = (c : Int) := ⟨(mdayN n).toNat, by omega⟩
    rw [e1, e2, e3, e4, ha, hb, hc] at HO
    obtain ⟨s1, hs1⟩ : ∃ s : ByteArray, s = ⟨(p4 a).toArray⟩ := ⟨_, rfl⟩
    obtain ⟨s2, hs2⟩ : ∃ s : ByteArray, s = ⟨(p4 a ++ [45]).toArray⟩ := ⟨_, rfl⟩
    obtain ⟨s3, hs3⟩ : ∃ s : ByteArray, s = ⟨(p2 b).toArray⟩ := ⟨_, rfl⟩
    obtain ⟨s4, hs4⟩ : ∃ s : ByteArray, s = ⟨(p4 a ++ [45] ++ p2 b).toArray⟩ := ⟨_, rfl⟩
    obtain ⟨s5, hs5⟩ : ∃ s : ByteArray, s = ⟨(p4 a ++ [45] ++ p2 b ++ [45]).toArray⟩ := ⟨_, rfl⟩
    obtain ⟨s6, hs6⟩ : ∃ s : ByteArray, s = ⟨(p2 c).toArray⟩ := ⟨_, rfl⟩
    obtain ⟨s7, hs7⟩ : ∃ s : ByteArray, s = ⟨(p4 a ++ [45] ++ p2 b ++ [45] ++ p2 c).toArray⟩ := ⟨_, rfl⟩
    have E2 : Hid (s1 ++ (⟨#[45]⟩ : ByteArray) = s2) := Lib.hid (by rw [hs1, hs2]; exact app_mk _ [45])
    have E4 : Hid (s2 ++ s3 = s4) := Lib.hid (by rw [hs2, hs3, hs4, app_mk])
    have E5 : Hid (s4 ++ (⟨#[45]⟩ : ByteArray) = s5) := Lib.hid (by rw [hs4, hs5]; exact app_mk _ [45])
    have E7 : Hid (s5 ++ s6 = s7) := Lib.hid (by rw [hs5, hs6, hs7, app_mk])
    have Z1 : Hid (s1.size = 4) := Lib.hid (by rw [hs1]; rfl)
    have Z2 : Hid (s2.size = 5) := Lib.hid (by rw [hs2]; rfl)
    have Z3 : Hid (s3.size = 2) := Lib.hid (by rw [hs3]; rfl)
    have Z4 : Hid (s4.size = 7) := Lib.hid (by rw [hs4]; rfl)
    have Z5 : Hid (s5.size = 8) := Lib.hid (by rw [hs5]; rfl)
    have Z6 : Hid (s6.size = 2) := Lib.hid (by rw [hs6]; rfl)
    have ZD : Hid ((⟨#[45]⟩ : ByteArray).size = 1) := Lib.hid rfl
    have HR : Hid (printB n = s7) := Lib.hid (by
      unfold printB
      rw [if_pos hn, hs7, ha, hb, hc]
      unfold printL
      rw [Int.toNat_natCast, Int.toNat_natCast, Int.toNat_natCast]
      simp)
    have hqa := pad4 a (by omega)
    have hqb := pad2 b (by omega)
    have hqc := pad2 c (by omega)
    have HP1 : Hid (∀ p, Tabs p → Calls Tryd.prog 13 #[.int .i64 (a : Int), .int .i64 4] p fun e w' => e = .returned (.string s1) ∧ Below p.heap.size p w') := Lib.hid (fun p hp => by
      have h := padded_gen a 4 (by omega) (by omega) hqa.1 p hp
      rw [hqa.2, ← hs1] at h
      exact h)
    have HP2 : Hid (∀ p, Tabs p → Calls Tryd.prog 13 #[.int .i64 (b : Int), .int .i64 2] p fun e w' => e = .returned (.string s3) ∧ Below p.heap.size p w') := Lib.hid (fun p hp => by
      have h := padded_gen b 2 (by omega) (by omega) hqb.1 p hp
      rw [hqb.2, ← hs3] at h
      exact h)
    have HP3 : Hid (∀ p, Tabs p → Calls Tryd.prog 13 #[.int .i64 (c : Int), .int .i64 2] p fun e w' => e = .returned (.string s6) ∧ Below p.heap.size p w') := Lib.hid (fun p hp => by
      have h := padded_gen c 2 (by omega) (by omega) hqc.1 p hp
      rw [hqc.2, ← hs6] at h
      exact h)
    have HT := Lib.hid hT
    clear hT hn e1 e2 e3 e4 hv hs ha hb hc hs1 hs2 hs3 hs4 hs5 hs6 hs7 hqa hqb hqc
    go_enter Tryd.func7, Tryd.ntmps7
    go_upto_region 2 with (go_at_call 12; refine HO.out.mono ?_; rintro e w2 ⟨rfl, hb⟩; have p6 : DB (w2.alloc (.cells #[.int .i64 0, .int .i64 0, .int .i64 0] 41)) w2.heap.size := ⟨0, 0, 0, heap_new0⟩; have HB := Lib.hid hb; clear hb)
    obtain ⟨w1, hw⟩ : ∃ w1, w1 = (w2.alloc (.cells #[.int .i64 0, .int .i64 0, .int .i64 0] 41)).setRow w2.heap.size #[.int .i64 (a : Int), .int .i64 (b : Int), .int .i64 (c : Int)] := ⟨_, rfl⟩
    obtain ⟨g3, hg⟩ : ∃ g3, g3 = w2.heap.size := ⟨_, rfl⟩
    have hrow : w1.heap[g3]? = some (.cells #[.int .i64 (a : Int), .int .i64 (b : Int), .int .i64 (c : Int)] 41 (0, 0)) := by rw [hw, hg]; exact setRow_heap _ _ _ _ _ _ heap_new0
    have HW : Hid (Below w.heap.size w w1) := Lib.hid (by rw [hw]; exact ((((Kept.of_below (fun _ => False) HB.out).alloc _).setRow (fun h => by have := HB.out.size; omega) _).below (Nat.le_refl _) (fun _ _ h => h)))
    have C0 : Hid (w1.cell? ⟨g3, 0, none⟩ = some (.int .i64 (a : Int))) := Lib.hid (cell_of_row w1 g3 0 _ _ _ hrow)
    have C1 : Hid (w1.cell? ⟨g3, 1, none⟩ = some (.int .i64 (b : Int))) := Lib.hid (cell_of_row w1 g3 1 _ _ _ hrow)
    have C2 : Hid (w1.cell? ⟨g3, 2, none⟩ = some (.int .i64 (c : Int))) := Lib.hid (cell_of_row w1 g3 2 _ _ _ hrow)
    have HG : Hid (g3 < w1.heap.size) := Lib.hid (block_lt_of_cell C0.out)
    have HP1a := HP1; have HP2a := HP2; have HP3a := HP3
    clear HP1 HP2 HP3
    have HP1 : Hid (∀ p, Below w1.heap.size w1 p → _) := Lib.hid (fun p hp => HP1a.out p ((HT.out.below HW.out).below hp))
    have HP2 : Hid (∀ p, Below w1.heap.size w1 p → _) := Lib.hid (fun p hp => HP2a.out p ((HT.out.below HW.out).below hp))
    have HP3 : Hid (∀ p, Below w1.heap.size w1 p → _) := Lib.hid (fun p hp => HP3a.out p ((HT.out.below HW.out).below hp))
    rw [← hw]
    rw [← hg]
    clear hw hg hrow p6 HB HP1a HP2a HP3a HO HT
    go_upto_region 4 with fail
    refine Roll.region_f 13 25 Dprint Lprint [(3, .pointer (some ⟨g3, 0, none⟩))] (fun p => Below w1.heap.size w1 p) (fun p p2 => Below p.heap.size p p2) [fun vv p => vv = .pointer (some ⟨g3, 0, none⟩), fun vv p => vv = .int .i64 (a : Int), fun vv p => vv = .string s1, fun vv p => vv = .string s2, fun vv p => vv = .pointer (some ⟨g3, 1, none⟩), fun vv p => vv = .int .i64 (b : Int), fun vv p => vv = .string s3, fun vv p => vv = .string s4, fun vv p => vv = .string s5, fun vv p => vv = .pointer (some ⟨g3, 2, none⟩), fun vv p => vv = .int .i64 (c : Int), fun vv p => vv = .string s6, fun vv p => vv = .string s7] (by kernel_rfl) (by kernel_rfl) rfl ⟨rfl, trivial⟩ ((Below.refl _ _).drew) ?_ ?_ ?_
    · exact ⟨fun _ _ _ _ h => h, fun _ _ _ _ h => h, fun _ _ _ _ h => h, fun _ _ _ _ h => h, fun _ _ _ _ h => h, fun _ _ _ _ h => h, fun _ _ _ _ h => h, fun _ _ _ _ h => h, fun _ _ _ _ h => h, fun _ _ _ _ h => h, fun _ _ _ _ h => h, fun _ _ _ _ h => h, fun _ _ _ _ h => h, trivial⟩
    · intro b0 hN hlv
      refine ⟨?_, ?_, ?_, ?_, ?_, ?_, ?_, ?_, ?_, ?_, ?_, ?_, ?_, trivial⟩
      · intro vs p hI hp
        have e3 : (Roll.putD Dprint vs [] b0).eval (.tmp 3) = .pointer (some ⟨g3, 0, none⟩) := (Roll.eval_old rfl).trans (hlv.at 0 (3, .pointer (some ⟨g3, 0, none⟩)) rfl)
        clear hp hlv hN
        unfold Roll.Goes
        simp only [Lprint, List.getD_cons_zero, List.getD_cons_succ]
        generalize Roll.putD Dprint vs [] b0 = a1 at *
        refine Roll.goes_val (w' := p) (.pointer (some ⟨g3, 0, none⟩)) rfl ?_ ⟨hI, Below.refl _ _, rfl⟩
        (have ec : ∀ x, a1.eval (.const x) = x := fun _ => rfl); (have ef : ∀ x, a1.eval (.func x) = .func (.func x) #[] #[] := fun _ => rfl); generalize a1.eval = ρ at *
        skip
        go_simp <;> (intros; first | (exfalso; omega) | rfl | omega)
      · intro vs p hI hp
        have h0 : (vs 0) = .pointer (some ⟨g3, 0, none⟩) := hp 0 (by simp [Lprint])
        have e12 : (Roll.putD Dprint vs [0] b0).eval (.tmp 12) = .pointer (some ⟨g3, 0, none⟩) := (Roll.eval_new 0 rfl (by decide) (by decide) (by omega)).trans h0
        clear hp hlv hN
        unfold Roll.Goes
        simp only [Lprint, List.getD_cons_zero, List.getD_cons_succ]
        generalize Roll.putD Dprint vs [0] b0 = a1 at *
        have cf : p.cell? ⟨g3, 0, none⟩ = some (.int .i64 (a : Int)) := (hI.cell (p := ⟨g3, 0, none⟩) HG.out).trans C0.out
        refine Roll.goes_val (w' := p) (.int .i64 (a : Int)) rfl ?_ ⟨hI, Below.refl _ _, rfl⟩
        (have ec : ∀ x, a1.eval (.const x) = x := fun _ => rfl); (have ef : ∀ x, a1.eval (.func x) = .func (.func x) #[] #[] := fun _ => rfl); generalize a1.eval = ρ at *
        clear h0
        go_simp <;> (intros; first | (exfalso; omega) | rfl | omega)
      · intro vs p hI hp
        have h1 : (vs 1) = .int .i64 (a : Int) := hp 1 (by simp [Lprint])
        have e13 : (Roll.putD Dprint vs [1] b0).eval (.tmp 13) = .int .i64 (a : Int) := (Roll.eval_new 1 rfl (by decide) (by decide) (by omega)).trans h1
        clear hp hlv hN
        unfold Roll.Goes
        simp only [Lprint, List.getD_cons_zero, List.getD_cons_succ]
        generalize Roll.putD Dprint vs [1] b0 = a1 at *
        refine Roll.goes_call 13 #[.int .i64 (a : Int), .int .i64 4] p rfl (by have ec : ∀ x, a1.eval (.const x) = x := fun _ => rfl; have ef : ∀ x, a1.eval (.func x) = .func (.func x) #[] #[] := fun _ => rfl; generalize a1.eval = ρ at *; go_simp) ?_
        refine (HP1.out p hI).mono ?_
        rintro z p2 ⟨rfl, hb⟩
        exact ⟨_, rfl, hI.trans (hb.mono hI.size), hb, rfl⟩
      · intro vs p hI hp
        have h2 : (vs 2) = .string s1 := hp 2 (by simp [Lprint])
        have e14 : (Roll.putD Dprint vs [2] b0).eval (.tmp 14) = .string s1 := (Roll.eval_new 2 rfl (by decide) (by decide) (by omega)).trans h2
        clear hp hlv hN
        unfold Roll.Goes
        simp only [Lprint, List.getD_cons_zero, List.getD_cons_succ]
        generalize Roll.putD Dprint vs [2] b0 = a1 at *
        have f0 := E2.out
        have f1 := Z1.out
        have f2 := ZD.out
        refine Roll.goes_val (w' := p) (.string s2) rfl ?_ ⟨hI, Below.refl _ _, rfl⟩
        (have ec : ∀ x, a1.eval (.const x) = x := fun _ => rfl); (have ef : ∀ x, a1.eval (.func x) = .func (.func x) #[] #[] := fun _ => rfl); generalize a1.eval = ρ at *
        clear h2
        go_simp <;> (intros; first | (exfalso; omega) | rfl | omega)
      · intro vs p hI hp
        have e3 : (Roll.putD Dprint vs [] b0).eval (.tmp 3) = .pointer (some ⟨g3, 0, none⟩) := (Roll.eval_old rfl).trans (hlv.at 0 (3, .pointer (some ⟨g3, 0, none⟩)) rfl)
        clear hp hlv hN
        unfold Roll.Goes
        simp only [Lprint, List.getD_cons_zero, List.getD_cons_succ]
        generalize Roll.putD Dprint vs [] b0 = a1 at *
        refine Roll.goes_val (w' := p) (.pointer (some ⟨g3, 1, none⟩)) rfl ?_ ⟨hI, Below.refl _ _, rfl⟩
        (have ec : ∀ x, a1.eval (.const x) = x := fun _ => rfl); (have ef : ∀ x, a1.eval (.func x) = .func (.func x) #[] #[] := fun _ => rfl); generalize a1.eval = ρ at *
        skip
        go_simp <;> (intros; first | (exfalso; omega) | rfl | omega)
      · intro vs p hI hp
        have h4 : (vs 4) = .pointer (some ⟨g3, 1, none⟩) := hp 4 (by simp [Lprint])
        have e16 : (Roll.putD Dprint vs [4] b0).eval (.tmp 16) = .pointer (some ⟨g3, 1, none⟩) := (Roll.eval_new 4 rfl (by decide) (by decide) (by omega)).trans h4
        clear hp hlv hN
        unfold Roll.Goes
        simp only [Lprint, List.getD_cons_zero, List.getD_cons_succ]
        generalize Roll.putD Dprint vs [4] b0 = a1 at *
        have cf : p.cell? ⟨g3, 1, none⟩ = some (.int .i64 (b : Int)) := (hI.cell (p := ⟨g3, 1, none⟩) HG.out).trans C1.out
        refine Roll.goes_val (w' := p) (.int .i64 (b : Int)) rfl ?_ ⟨hI, Below.refl _ _, rfl⟩
        (have ec : ∀ x, a1.eval (.const x) = x := fun _ => rfl); (have ef : ∀ x, a1.eval (.func x) = .func (.func x) #[] #[] := fun _ => rfl); generalize a1.eval = ρ at *
        clear h4
        go_simp <;> (intros; first | (exfalso; omega) | rfl | omega)
      · intro vs p hI hp
        have h5 : (vs 5) = .int .i64 (b : Int) := hp 5 (by simp [Lprint])
        have e17 : (Roll.putD Dprint vs [5] b0).eval (.tmp 17) = .int .i64 (b : Int) := (Roll.eval_new 5 rfl (by decide) (by decide) (by omega)).trans h5
        clear hp hlv hN
        unfold Roll.Goes
        simp only [Lprint, List.getD_cons_zero, List.getD_cons_succ]
        generalize Roll.putD Dprint vs [5] b0 = a1 at *
        refine Roll.goes_call 13 #[.int .i64 (b : Int), .int .i64 2] p rfl (by have ec : ∀ x, a1.eval (.const x) = x := fun _ => rfl; have ef : ∀ x, a1.eval (.func x) = .func (.func x) #[] #[] := fun _ => rfl; generalize a1.eval = ρ at *; go_simp) ?_
        refine (HP2.out p hI).mono ?_
        rintro z p2 ⟨rfl, hb⟩
        exact ⟨_, rfl, hI.trans (hb.mono hI.size), hb, rfl⟩
      · intro vs p hI hp
        have h3 : (vs 3) = .string s2 := hp 3 (by simp [Lprint])
        have h6 : (vs 6) = .string s3 := hp 6 (by simp [Lprint])
        have e15 : (Roll.putD Dprint vs [3, 6] b0).eval (.tmp 15) = .string s2 := (Roll.eval_new 3 rfl (by decide) (by decide) (by omega)).trans h3
        have e18 : (Roll.putD Dprint vs [3, 6] b0).eval (.tmp 18) = .string s3 := (Roll.eval_new 6 rfl (by decide) (by decide) (by omega)).trans h6
        clear hp hlv hN
        unfold Roll.Goes
        simp only [Lprint, List.getD_cons_zero, List.getD_cons_succ]
        generalize Roll.putD Dprint vs [3, 6] b0 = a1 at *
        have f0 := E4.out
        have f1 := Z2.out
        have f2 := Z3.out
        refine Roll.goes_val (w' := p) (.string s4) rfl ?_ ⟨hI, Below.refl _ _, rfl⟩
        (have ec : ∀ x, a1.eval (.const x) = x := fun _ => rfl); (have ef : ∀ x, a1.eval (.func x) = .func (.func x) #[] #[] := fun _ => rfl); generalize a1.eval = ρ at *
        clear h3 h6
        go_simp <;> (intros; first | (exfalso; omega) | rfl | omega)
      · intro vs p hI hp
        have h7 : (vs 7) = .string s4 := hp 7 (by simp [Lprint])
        have e19 : (Roll.putD Dprint vs [7] b0).eval (.tmp 19) = .string s4 := (Roll.eval_new 7 rfl (by decide) (by decide) (by omega)).trans h7
        clear hp hlv hN
        unfold Roll.Goes
        simp only [Lprint, List.getD_cons_zero, List.getD_cons_succ]
        generalize Roll.putD Dprint vs [7] b0 = a1 at *
        have f0 := E5.out
        have f1 := Z4.out
        have f2 := ZD.out
        refine Roll.goes_val (w' := p) (.string s5) rfl ?_ ⟨hI, Below.refl _ _, rfl⟩
        (have ec : ∀ x, a1.eval (.const x) = x := fun _ => rfl); (have ef : ∀ x, a1.eval (.func x) = .func (.func x) #[] #[] := fun _ => rfl); generalize a1.eval = ρ at *
        clear h7
        go_simp <;> (intros; first | (exfalso; omega) | rfl | omega)
      · intro vs p hI hp
        have e3 : (Roll.putD Dprint vs [] b0).eval (.tmp 3) = .pointer (some ⟨g3, 0, none⟩) := (Roll.eval_old rfl).trans (hlv.at 0 (3, .pointer (some ⟨g3, 0, none⟩)) rfl)
        clear hp hlv hN
        unfold Roll.Goes
        simp only [Lprint, List.getD_cons_zero, List.getD_cons_succ]
        generalize Roll.putD Dprint vs [] b0 = a1 at *
        refine Roll.goes_val (w' := p) (.pointer (some ⟨g3, 2, none⟩)) rfl ?_ ⟨hI, Below.refl _ _, rfl⟩
        (have ec : ∀ x, a1.eval (.const x) = x := fun _ => rfl); (have ef : ∀ x, a1.eval (.func x) = .func (.func x) #[] #[] := fun _ => rfl); generalize a1.eval = ρ at *
        skip
        go_simp <;> (intros; first | (exfalso; omega) | rfl | omega)
      · intro vs p hI hp
        have h9 : (vs 9) = .pointer (some ⟨g3, 2, none⟩) := hp 9 (by simp [Lprint])
        have e21 : (Roll.putD Dprint vs [9] b0).eval (.tmp 21) = .pointer (some ⟨g3, 2, none⟩) := (Roll.eval_new 9 rfl (by decide) (by decide) (by omega)).trans h9
        clear hp hlv hN
        unfold Roll.Goes
        simp only [Lprint, List.getD_cons_zero, List.getD_cons_succ]
        generalize Roll.putD Dprint vs [9] b0 = a1 at *
        have cf : p.cell? ⟨g3, 2, none⟩ = some (.int .i64 (c : Int)) := (hI.cell (p := ⟨g3, 2, none⟩) HG.out).trans C2.out
        refine Roll.goes_val (w' := p) (.int .i64 (c : Int)) rfl ?_ ⟨hI, Below.refl _ _, rfl⟩
        (have ec : ∀ x, a1.eval (.const x) = x := fun _ => rfl); (have ef : ∀ x, a1.eval (.func x) = .func (.func x) #[] #[] := fun _ => rfl); generalize a1.eval = ρ at *
        clear h9
        go_simp <;> (intros; first | (exfalso; omega) | rfl | omega)
      · intro vs p hI hp
        have h10 : (vs 10) = .int .i64 (c : Int) := hp 10 (by simp [Lprint])
        have e22 : (Roll.putD Dprint vs [10] b0).eval (.tmp 22) = .int .i64 (c : Int) := (Roll.eval_new 10 rfl (by decide) (by decide) (by omega)).trans h10
        clear hp hlv hN
        unfold Roll.Goes
        simp only [Lprint, List.getD_cons_zero, List.getD_cons_succ]
        generalize Roll.putD Dprint vs [10] b0 = a1 at *
        refine Roll.goes_call 13 #[.int .i64 (c : Int), .int .i64 2] p rfl (by have ec : ∀ x, a1.eval (.const x) = x := fun _ => rfl; have ef : ∀ x, a1.eval (.func x) = .func (.func x) #[] #[] := fun _ => rfl; generalize a1.eval = ρ at *; go_simp) ?_
        refine (HP3.out p hI).mono ?_
        rintro z p2 ⟨rfl, hb⟩
        exact ⟨_, rfl, hI.trans (hb.mono hI.size), hb, rfl⟩
      · intro vs p hI hp
        have h8 : (vs 8) = .string s5 := hp 8 (by simp [Lprint])
        have h11 : (vs 11) = .string s6 := hp 11 (by simp [Lprint])
        have e20 : (Roll.putD Dprint vs [8, 11] b0).eval (.tmp 20) = .string s5 := (Roll.eval_new 8 rfl (by decide) (by decide) (by omega)).trans h8
        have e23 : (Roll.putD Dprint vs [8, 11] b0).eval (.tmp 23) = .string s6 := (Roll.eval_new 11 rfl (by decide) (by decide) (by omega)).trans h11
        clear hp hlv hN
        unfold Roll.Goes
        simp only [Lprint, List.getD_cons_zero, List.getD_cons_succ]
        generalize Roll.putD Dprint vs [8, 11] b0 = a1 at *
        have f0 := E7.out
        have f1 := Z5.out
        have f2 := Z6.out
        refine Roll.goes_val (w' := p) (.string s7) rfl ?_ ⟨hI, Below.refl _ _, rfl⟩
        (have ec : ∀ x, a1.eval (.const x) = x := fun _ => rfl); (have ef : ∀ x, a1.eval (.func x) = .func (.func x) #[] #[] := fun _ => rfl); generalize a1.eval = ρ at *
        clear h8 h11
        go_simp <;> (intros; first | (exfalso; omega) | rfl | omega)
    · intro vs p hI hR
      have h0 : (vs 0) = .pointer (some ⟨g3, 0, none⟩) := hR 0 (by omega)
      have h1 : (vs 1) = .int .i64 (a : Int) := hR 1 (by omega)
      have h2 : (vs 2) = .string s1 := hR 2 (by omega)
      have h3 : (vs 3) = .string s2 := hR 3 (by omega)
      have h4 : (vs 4) = .pointer (some ⟨g3, 1, none⟩) := hR 4 (by omega)
      have h5 : (vs 5) = .int .i64 (b : Int) := hR 5 (by omega)
      have h6 : (vs 6) = .string s3 := hR 6 (by omega)
      have h7 : (vs 7) = .string s4 := hR 7 (by omega)
      have h8 : (vs 8) = .string s5 := hR 8 (by omega)
      have h9 : (vs 9) = .pointer (some ⟨g3, 2, none⟩) := hR 9 (by omega)
      have h10 : (vs 10) = .int .i64 (c : Int) := hR 10 (by omega)
      have h11 : (vs 11) = .string s6 := hR 11 (by omega)
      have h12 : (vs 12) = .string s7 := hR 12 (by omega)
      clear hR
      simp only [List.range_succ, List.range_zero, List.nil_append, List.cons_append, Roll.putD, Act.put, List.getD_cons_zero, List.getD_cons_succ, List.setIfInBounds_toArray, List.set_cons_zero, List.set_cons_succ, List.drop_succ_cons, List.drop_zero, Dprint]
      simp only [h0, h1, h2, h3, h4, h5, h6, h7, h8, h9, h10, h11, h12]
      clear h0 h1 h2 h3 h4 h5 h6 h7 h8 h9 h10 h11 h12
      have HI := Lib.hid hI
      clear hI
      go_wp2_with fail
      go_ret
      rw [HR.out]
      exact ⟨rfl, HW.out.trans (HI.out.mono HW.out.size)⟩
  · obtain ⟨e1, e2, e3, e4⟩ := of_no hn
    rw [e1, e2, e3, e4] at HO
    have HR : Hid (printB n = ⟨#[]⟩) := Lib.hid (by unfold printB; rw [if_neg hn])
    clear hn e1 e2 e3 e4 hT
    go_enter Tryd.func7, Tryd.ntmps7
    go_wp2_with (go_at_call 12; refine HO.out.mono ?_; rintro e w2 ⟨rfl, hb⟩; have p6 : DB (w2.alloc (.cells #[.int .i64 0, .int .i64 0, .int .i64 0] 41)) w2.heap.size := ⟨0, 0, 0, heap_new0⟩; have HB := Lib.hid hb; clear hb)
    go_ret
    rw [HR.out]
    exact ⟨rfl, ((((Kept.of_below (fun _ => False) HB.out).alloc _).setRow (fun h => by have := HB.out.size; omega) _).below (Nat.le_refl _) (fun _ _ h => h))⟩

end Go.Proofs.YtcdjilnlmihnhaaDoor

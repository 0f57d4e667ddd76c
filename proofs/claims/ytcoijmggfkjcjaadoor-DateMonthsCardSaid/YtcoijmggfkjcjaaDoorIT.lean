/-
  The law DateMonths (written by gen_IT.py).
-/
import Derived.Test.YtcoijmggfkjcjaaDoorIG
namespace Go.Proofs.YtcoijmggfkjcjaaDoor
open Go.RowKit
set_option linter.unusedSimpArgs false
set_option linter.unusedVariables false
def Dmo10 : List (Option Tmp) := [some 48, some 49, some 50, some 51, some 52, some 53, some 54, some 55, some 56, some 47, some 57, some 58, some 11, some 12]
def Lmo10 : List (List Nat) := [[], [], [0, 1], [2], [], [], [4, 5], [6], [3, 7], [8], [9], [9], [10], [11]]
def Dmo9 : List (Option Tmp) := [some 36, some 37, some 38, some 39, some 40, some 41, some 42, some 43, some 44, some 35, some 45, some 46, some 9, some 10]
def Lmo9 : List (List Nat) := [[], [], [0, 1], [2], [], [], [4, 5], [6], [3, 7], [8], [9], [9], [10], [11]]
set_option maxRecDepth 100000 in
set_option maxHeartbeats 8000000 in
theorem months_law (n m : Int) (w : World) (hT : Tabs w) (n1 : -9223372036854775808 ≤ n) (n2 : n ≤ 9223372036854775807) (m1 : -9223372036854775808 ≤ m) (m2 : m ≤ 9223372036854775807) : Calls Tryd.prog 7 #[.int .i64 n, .int .i64 m] w fun e w' => e = .returned (.bool true) ∧ Below w.heap.size w w' := by
  have bX := aroundD_bd m 400005 (by omega)
  have bY := aroundD_bd m 601 (by omega)
  have HX : Hid (∀ u, Calls Tryd.prog 15 #[.int .i64 m, .int .i64 400005] u fun e w' => e = .returned (.int .i64 (aroundD m 400005)) ∧ u = w') := Lib.hid (fun u => aroundD_any m 400005 u m1 m2 (by omega) (by omega))
  have HY : Hid (∀ u, Calls Tryd.prog 15 #[.int .i64 m, .int .i64 601] u fun e w' => e = .returned (.int .i64 (aroundD m 601)) ∧ u = w') := Lib.hid (fun u => aroundD_any m 601 u m1 m2 (by omega) (by omega))
  obtain ⟨x, hx⟩ : ∃ x, x = aroundD m 400005 := ⟨_, rfl⟩
  obtain ⟨y, hy⟩ : ∃ y, y = aroundD m 601 := ⟨_, rfl⟩
  rw [← hx] at bX HX
  rw [← hy] at bY HY
  have i1 : IntKind.i64.wrap (x - 200002) = x - 200002 := i64_id _ (by omega) (by omega)
  have i2 : IntKind.i64.wrap (y - 300) = y - 300 := i64_id _ (by omega) (by omega)
  have HNE := Lib.hid (fun u => near_any n u n1 n2)
  have HDH := Lib.hid (fun u => dayHelp_any n u n1 n2)
  have HAM : ∀ a b : Int, Hid (∀ p, Tabs p → Calls Tryd.prog 34 #[.int .i64 a, .int .i64 b] p fun e w' => e = .returned (.tuple #[.int .i64 (amR a b), .int .i64 (amE a b)]) ∧ Below p.heap.size p w') := fun a b => Lib.hid (fun p hp => addMonths_any a b p hp)
  have HAR : ∀ a b : Int, Hid (∀ p, Tabs p → Calls Tryd.prog 35 #[.int .i64 a, .int .i64 b] p fun e w' => e = .returned (.tuple #[.int .i64 (amR a b), .int .i64 (amE a b)]) ∧ Below p.heap.size p w') := fun a b => Lib.hid (fun p hp => refAddMonths_any a b p hp)
  have HAMS := Lib.hid HAM
  have HARS := Lib.hid HAR
  have HTP := Lib.hid hT
  clear hT hx hy bX bY HAM HAR
  go_enter Tryd.func7, Tryd.ntmps7
  go_upto_region 2 with (first
    | (go_at_call 20; refine (HNE.out _).mono ?_; rintro e w1 ⟨rfl, rfl⟩)
    | (go_at_call 21; refine (HDH.out _).mono ?_; rintro e w1 ⟨rfl, rfl⟩))
  go_upto_region 3 with (first
    | (have _t := HX; go_at_call 15; refine (HX.out _).mono ?_; rintro e w1 ⟨rfl, rfl⟩; clear _t HX)
    | (go_at_call 15; refine (HY.out _).mono ?_; rintro e w1 ⟨rfl, rfl⟩))
  obtain ⟨w1, hw1⟩ : ∃ w1, w1 = (w.alloc (.cells #[.int .i64 n, .int .i64 (nearN n), .int .i64 (dayOfN n)] 3)).alloc (.cells #[.int .i64 m, .int .i64 (x - 200002), .int .i64 (y - 300)] 3) := ⟨_, rfl⟩
  obtain ⟨gd, hgd⟩ : ∃ gd, gd = w.heap.size := ⟨_, rfl⟩
  obtain ⟨gm, hgm⟩ : ∃ gm, gm = gd + 1 := ⟨_, rfl⟩
  have hrd : w1.heap[gd]? = some (.cells #[.int .i64 n, .int .i64 (nearN n), .int .i64 (dayOfN n)] 3 (0, 0)) := by rw [hw1, hgd]; exact heap_alloc2_old _ _ _
  have hrm : w1.heap[gm]? = some (.cells #[.int .i64 m, .int .i64 (x - 200002), .int .i64 (y - 300)] 3 (0, 0)) := by rw [hw1, hgm, hgd]; exact heap_alloc2_new _ _ _
  have hb1 : Below w.heap.size w w1 := by rw [hw1]; exact ((Below.refl _ w).alloc (Nat.le_refl _) _).alloc (by simp) _
  rw [← hw1]
  rw [← hgd, ← hgm]
  have HLD := Lib.hid (heap_lt hrd)
  have HLM := Lib.hid (heap_lt hrm)
  have HVD : Hid (∀ i : Nat, i < 3 → ∃ a, w1.cell? ⟨gd, i, none⟩ = some (.int .i64 a)) := Lib.hid (fun i hi => by
    have h : i = 0 ∨ i = 1 ∨ i = 2 := by omega
    rcases h with rfl | rfl | rfl
    · exact ⟨_, cell_of_row w1 gd 0 _ _ _ hrd⟩
    · exact ⟨_, cell_of_row w1 gd 1 _ _ _ hrd⟩
    · exact ⟨_, cell_of_row w1 gd 2 _ _ _ hrd⟩)
  have HVM : Hid (∀ i : Nat, i < 3 → ∃ a, w1.cell? ⟨gm, i, none⟩ = some (.int .i64 a)) := Lib.hid (fun i hi => by
    have h : i = 0 ∨ i = 1 ∨ i = 2 := by omega
    rcases h with rfl | rfl | rfl
    · exact ⟨_, cell_of_row w1 gm 0 _ _ _ hrm⟩
    · exact ⟨_, cell_of_row w1 gm 1 _ _ _ hrm⟩
    · exact ⟨_, cell_of_row w1 gm 2 _ _ _ hrm⟩)
  have HT1 := Lib.hid (HTP.out.below hb1)
  have HB1 := Lib.hid hb1
  clear hw1 hgd hgm hrd hrm hb1 HTP i1 i2 HNE HDH HY
  go_wp2_with fail
  go_loopw [7, 8] (fun ii kk wr => ∃ i : Nat, i ≤ 3 ∧ ii = .int .i64 (i : Int) ∧ (kk = undef ∨ True) ∧ Tabs wr ∧ Below w1.heap.size w1 wr) (fun ii _ _ => (3 - intOf ii).toNat)
  case atStart => exact ⟨0, by omega, rfl, .inr trivial, HT1.out, Below.refl _ _⟩
  case round =>
    obtain ⟨i, hi, rfl, -, ht, hb⟩ := hrel
    have HTO := Lib.hid ht
    have HBO := Lib.hid hb
    clear ht hb
    by_cases hi3 : i < 3
    · have hii : (i : Int) < 3 := by omega
      obtain ⟨a, ha⟩ := HVD.out i hi3
      have HCA := Lib.hid ha
      have j1 : IntKind.i64.wrap ((i : Int) + 1) = (i : Int) + 1 := i64_id _ (by omega) (by omega)
      clear ha
      go_wp2_with fail
      go_loopw [8] (fun kk wr => ∃ k : Nat, k ≤ 3 ∧ kk = .int .i64 (k : Int) ∧ Tabs wr ∧ Below w1.heap.size w1 wr) (fun kk _ => (3 - intOf kk).toNat)
      case atStart => exact ⟨0, by omega, rfl, HTO.out, HBO.out⟩
      case round =>
        obtain ⟨k, hk, rfl, ht, hb⟩ := hrel
        have HTwr := Lib.hid ht
        have HBwr := Lib.hid hb
        clear ht hb HTO HBO
        by_cases hk3 : k < 3
        · have hkk : (k : Int) < 3 := by omega
          obtain ⟨b, hbm⟩ := HVM.out k hk3
          have CwrD : Hid (wr.cell? ⟨gd, i, none⟩ = some (.int .i64 a)) := Lib.hid ((HBwr.out.cell (p := ⟨gd, i, none⟩) HLD.out).trans HCA.out)
          have CwrM : Hid (wr.cell? ⟨gm, k, none⟩ = some (.int .i64 b)) := Lib.hid ((HBwr.out.cell (p := ⟨gm, k, none⟩) HLM.out).trans hbm)
          have HwrD : Hid (gd < wr.heap.size) := Lib.hid (Nat.lt_of_lt_of_le HLD.out HBwr.out.size)
          have HwrM : Hid (gm < wr.heap.size) := Lib.hid (Nat.lt_of_lt_of_le HLM.out HBwr.out.size)
          have HIX : Hid ((i : Int) < 3 ∧ (k : Int) < 3) := Lib.hid ⟨hii, hkk⟩
          have HAM := HAMS.out a b
          have HAR := HARS.out a b
          have j2 : IntKind.i64.wrap ((k : Int) + 1) = (k : Int) + 1 := i64_id _ (by omega) (by omega)
          clear hbm
          go_upto_region 9 with fail
          refine Roll.region_f 14 68 Dmo9 Lmo9 [(5, .slice (some ⟨gd, 0, none⟩) 3 3), (6, .slice (some ⟨gm, 0, none⟩) 3 3), (7, .int .i64 (i : Int)), (8, .int .i64 (k : Int))] (fun p => Below wr.heap.size wr p) (fun p p2 => Below p.heap.size p p2) [fun vv p => vv = .slice (some ⟨gd, 0, none⟩) 3 3, fun vv p => vv = .int .i64 (i : Int), fun vv p => vv = .pointer (some ⟨gd, i, none⟩), fun vv p => vv = .int .i64 a, fun vv p => vv = .slice (some ⟨gm, 0, none⟩) 3 3, fun vv p => vv = .int .i64 (k : Int), fun vv p => vv = .pointer (some ⟨gm, k, none⟩), fun vv p => vv = .int .i64 b, fun vv p => vv = .tuple #[.int .i64 (amR a b), .int .i64 (amE a b)], fun vv p => vv = .tuple #[.int .i64 (amR a b), .int .i64 (amE a b)], fun vv p => vv = .int .i64 (amR a b), fun vv p => vv = .int .i64 (amE a b), fun vv p => vv = .int .i64 (amR a b), fun vv p => vv = .int .i64 (amE a b)] (by kernel_rfl) (by kernel_rfl) rfl ⟨rfl, rfl, rfl, rfl, trivial⟩ ((Below.refl _ _).drew) ?_ ?_ ?_
          · exact ⟨fun _ _ _ _ h => h, fun _ _ _ _ h => h, fun _ _ _ _ h => h, fun _ _ _ _ h => h, fun _ _ _ _ h => h, fun _ _ _ _ h => h, fun _ _ _ _ h => h, fun _ _ _ _ h => h, fun _ _ _ _ h => h, fun _ _ _ _ h => h, fun _ _ _ _ h => h, fun _ _ _ _ h => h, fun _ _ _ _ h => h, fun _ _ _ _ h => h, trivial⟩
          · intro b0 hN hlv
            refine ⟨?_, ?_, ?_, ?_, ?_, ?_, ?_, ?_, ?_, ?_, ?_, ?_, ?_, ?_, trivial⟩
            · intro vs p hI hp
              have e5 : (Roll.putD Dmo9 vs [] b0).eval (.tmp 5) = .slice (some ⟨gd, 0, none⟩) 3 3 := (Roll.eval_old rfl).trans (hlv.at 0 (5, .slice (some ⟨gd, 0, none⟩) 3 3) rfl)
              clear hp hlv hN
              unfold Roll.Goes
              simp only [Lmo9, List.getD_cons_zero, List.getD_cons_succ]
              generalize Roll.putD Dmo9 vs [] b0 = a1 at *
              refine Roll.goes_val (w' := p) (.slice (some ⟨gd, 0, none⟩) 3 3) rfl ?_ ⟨hI, Below.refl _ _, rfl⟩
              (have ec : ∀ x, a1.eval (.const x) = x := fun _ => rfl); (have ef : ∀ x, a1.eval (.func x) = .func (.func x) #[] #[] := fun _ => rfl); generalize a1.eval = ρ at *
              skip
              go_simp <;> (intros; first | (exfalso; omega) | rfl | omega)
            · intro vs p hI hp
              have e7 : (Roll.putD Dmo9 vs [] b0).eval (.tmp 7) = .int .i64 (i : Int) := (Roll.eval_old rfl).trans (hlv.at 2 (7, .int .i64 (i : Int)) rfl)
              clear hp hlv hN
              unfold Roll.Goes
              simp only [Lmo9, List.getD_cons_zero, List.getD_cons_succ]
              generalize Roll.putD Dmo9 vs [] b0 = a1 at *
              refine Roll.goes_val (w' := p) (.int .i64 (i : Int)) rfl ?_ ⟨hI, Below.refl _ _, rfl⟩
              (have ec : ∀ x, a1.eval (.const x) = x := fun _ => rfl); (have ef : ∀ x, a1.eval (.func x) = .func (.func x) #[] #[] := fun _ => rfl); generalize a1.eval = ρ at *
              skip
              go_simp <;> (intros; first | (exfalso; omega) | rfl | omega)
            · intro vs p hI hp
              have h0 : (vs 0) = .slice (some ⟨gd, 0, none⟩) 3 3 := hp 0 (by simp [Lmo9])
              have h1 : (vs 1) = .int .i64 (i : Int) := hp 1 (by simp [Lmo9])
              have e36 : (Roll.putD Dmo9 vs [0, 1] b0).eval (.tmp 36) = .slice (some ⟨gd, 0, none⟩) 3 3 := (Roll.eval_new 0 rfl (by decide) (by decide) (by omega)).trans h0
              have e37 : (Roll.putD Dmo9 vs [0, 1] b0).eval (.tmp 37) = .int .i64 (i : Int) := (Roll.eval_new 1 rfl (by decide) (by decide) (by omega)).trans h1
              clear hp hlv hN
              unfold Roll.Goes
              simp only [Lmo9, List.getD_cons_zero, List.getD_cons_succ]
              generalize Roll.putD Dmo9 vs [0, 1] b0 = a1 at *
              have f0 := HIX.out.1
              have f1 := HIX.out.2
              refine Roll.goes_val (w' := p) (.pointer (some ⟨gd, i, none⟩)) rfl ?_ ⟨hI, Below.refl _ _, rfl⟩
              (have ec : ∀ x, a1.eval (.const x) = x := fun _ => rfl); (have ef : ∀ x, a1.eval (.func x) = .func (.func x) #[] #[] := fun _ => rfl); generalize a1.eval = ρ at *
              clear h0 h1
              go_simp <;> (intros; first | (exfalso; omega) | rfl | omega)
            · intro vs p hI hp
              have h2 : (vs 2) = .pointer (some ⟨gd, i, none⟩) := hp 2 (by simp [Lmo9])
              have e38 : (Roll.putD Dmo9 vs [2] b0).eval (.tmp 38) = .pointer (some ⟨gd, i, none⟩) := (Roll.eval_new 2 rfl (by decide) (by decide) (by omega)).trans h2
              clear hp hlv hN
              unfold Roll.Goes
              simp only [Lmo9, List.getD_cons_zero, List.getD_cons_succ]
              generalize Roll.putD Dmo9 vs [2] b0 = a1 at *
              have cf : p.cell? ⟨gd, i, none⟩ = some (.int .i64 a) := (hI.cell (p := ⟨gd, i, none⟩) HwrD.out).trans CwrD.out
              refine Roll.goes_val (w' := p) (.int .i64 a) rfl ?_ ⟨hI, Below.refl _ _, rfl⟩
              (have ec : ∀ x, a1.eval (.const x) = x := fun _ => rfl); (have ef : ∀ x, a1.eval (.func x) = .func (.func x) #[] #[] := fun _ => rfl); generalize a1.eval = ρ at *
              clear h2
              go_simp <;> (intros; first | (exfalso; omega) | rfl | omega)
            · intro vs p hI hp
              have e6 : (Roll.putD Dmo9 vs [] b0).eval (.tmp 6) = .slice (some ⟨gm, 0, none⟩) 3 3 := (Roll.eval_old rfl).trans (hlv.at 1 (6, .slice (some ⟨gm, 0, none⟩) 3 3) rfl)
              clear hp hlv hN
              unfold Roll.Goes
              simp only [Lmo9, List.getD_cons_zero, List.getD_cons_succ]
              generalize Roll.putD Dmo9 vs [] b0 = a1 at *
              refine Roll.goes_val (w' := p) (.slice (some ⟨gm, 0, none⟩) 3 3) rfl ?_ ⟨hI, Below.refl _ _, rfl⟩
              (have ec : ∀ x, a1.eval (.const x) = x := fun _ => rfl); (have ef : ∀ x, a1.eval (.func x) = .func (.func x) #[] #[] := fun _ => rfl); generalize a1.eval = ρ at *
              skip
              go_simp <;> (intros; first | (exfalso; omega) | rfl | omega)
            · intro vs p hI hp
              have e8 : (Roll.putD Dmo9 vs [] b0).eval (.tmp 8) = .int .i64 (k : Int) := (Roll.eval_old rfl).trans (hlv.at 3 (8, .int .i64 (k : Int)) rfl)
              clear hp hlv hN
              unfold Roll.Goes
              simp only [Lmo9, List.getD_cons_zero, List.getD_cons_succ]
              generalize Roll.putD Dmo9 vs [] b0 = a1 at *
              refine Roll.goes_val (w' := p) (.int .i64 (k : Int)) rfl ?_ ⟨hI, Below.refl _ _, rfl⟩
              (have ec : ∀ x, a1.eval (.const x) = x := fun _ => rfl); (have ef : ∀ x, a1.eval (.func x) = .func (.func x) #[] #[] := fun _ => rfl); generalize a1.eval = ρ at *
              skip
              go_simp <;> (intros; first | (exfalso; omega) | rfl | omega)
            · intro vs p hI hp
              have h4 : (vs 4) = .slice (some ⟨gm, 0, none⟩) 3 3 := hp 4 (by simp [Lmo9])
              have h5 : (vs 5) = .int .i64 (k : Int) := hp 5 (by simp [Lmo9])
              have e40 : (Roll.putD Dmo9 vs [4, 5] b0).eval (.tmp 40) = .slice (some ⟨gm, 0, none⟩) 3 3 := (Roll.eval_new 4 rfl (by decide) (by decide) (by omega)).trans h4
              have e41 : (Roll.putD Dmo9 vs [4, 5] b0).eval (.tmp 41) = .int .i64 (k : Int) := (Roll.eval_new 5 rfl (by decide) (by decide) (by omega)).trans h5
              clear hp hlv hN
              unfold Roll.Goes
              simp only [Lmo9, List.getD_cons_zero, List.getD_cons_succ]
              generalize Roll.putD Dmo9 vs [4, 5] b0 = a1 at *
              have f0 := HIX.out.1
              have f1 := HIX.out.2
              refine Roll.goes_val (w' := p) (.pointer (some ⟨gm, k, none⟩)) rfl ?_ ⟨hI, Below.refl _ _, rfl⟩
              (have ec : ∀ x, a1.eval (.const x) = x := fun _ => rfl); (have ef : ∀ x, a1.eval (.func x) = .func (.func x) #[] #[] := fun _ => rfl); generalize a1.eval = ρ at *
              clear h4 h5
              go_simp <;> (intros; first | (exfalso; omega) | rfl | omega)
            · intro vs p hI hp
              have h6 : (vs 6) = .pointer (some ⟨gm, k, none⟩) := hp 6 (by simp [Lmo9])
              have e42 : (Roll.putD Dmo9 vs [6] b0).eval (.tmp 42) = .pointer (some ⟨gm, k, none⟩) := (Roll.eval_new 6 rfl (by decide) (by decide) (by omega)).trans h6
              clear hp hlv hN
              unfold Roll.Goes
              simp only [Lmo9, List.getD_cons_zero, List.getD_cons_succ]
              generalize Roll.putD Dmo9 vs [6] b0 = a1 at *
              have cf : p.cell? ⟨gm, k, none⟩ = some (.int .i64 b) := (hI.cell (p := ⟨gm, k, none⟩) HwrM.out).trans CwrM.out
              refine Roll.goes_val (w' := p) (.int .i64 b) rfl ?_ ⟨hI, Below.refl _ _, rfl⟩
              (have ec : ∀ x, a1.eval (.const x) = x := fun _ => rfl); (have ef : ∀ x, a1.eval (.func x) = .func (.func x) #[] #[] := fun _ => rfl); generalize a1.eval = ρ at *
              clear h6
              go_simp <;> (intros; first | (exfalso; omega) | rfl | omega)
            · intro vs p hI hp
              have h3 : (vs 3) = .int .i64 a := hp 3 (by simp [Lmo9])
              have h7 : (vs 7) = .int .i64 b := hp 7 (by simp [Lmo9])
              have e39 : (Roll.putD Dmo9 vs [3, 7] b0).eval (.tmp 39) = .int .i64 a := (Roll.eval_new 3 rfl (by decide) (by decide) (by omega)).trans h3
              have e43 : (Roll.putD Dmo9 vs [3, 7] b0).eval (.tmp 43) = .int .i64 b := (Roll.eval_new 7 rfl (by decide) (by decide) (by omega)).trans h7
              clear hp hlv hN
              unfold Roll.Goes
              simp only [Lmo9, List.getD_cons_zero, List.getD_cons_succ]
              generalize Roll.putD Dmo9 vs [3, 7] b0 = a1 at *
              refine Roll.goes_call 34 #[.int .i64 a, .int .i64 b] p rfl (by have ec : ∀ x, a1.eval (.const x) = x := fun _ => rfl; have ef : ∀ x, a1.eval (.func x) = .func (.func x) #[] #[] := fun _ => rfl; generalize a1.eval = ρ at *; go_simp) ?_
              refine (HAM.out p (HTwr.out.below hI)).mono ?_
              rintro z p2 ⟨rfl, hb⟩
              exact ⟨_, rfl, hI.trans (hb.mono hI.size), hb, rfl⟩
            · intro vs p hI hp
              have h8 : (vs 8) = .tuple #[.int .i64 (amR a b), .int .i64 (amE a b)] := hp 8 (by simp [Lmo9])
              have e44 : (Roll.putD Dmo9 vs [8] b0).eval (.tmp 44) = .tuple #[.int .i64 (amR a b), .int .i64 (amE a b)] := (Roll.eval_new 8 rfl (by decide) (by decide) (by omega)).trans h8
              clear hp hlv hN
              unfold Roll.Goes
              simp only [Lmo9, List.getD_cons_zero, List.getD_cons_succ]
              generalize Roll.putD Dmo9 vs [8] b0 = a1 at *
              refine Roll.goes_val (w' := p) (.tuple #[.int .i64 (amR a b), .int .i64 (amE a b)]) rfl ?_ ⟨hI, Below.refl _ _, rfl⟩
              (have ec : ∀ x, a1.eval (.const x) = x := fun _ => rfl); (have ef : ∀ x, a1.eval (.func x) = .func (.func x) #[] #[] := fun _ => rfl); generalize a1.eval = ρ at *
              clear h8
              go_simp <;> (intros; first | (exfalso; omega) | rfl | omega)
            · intro vs p hI hp
              have h9 : (vs 9) = .tuple #[.int .i64 (amR a b), .int .i64 (amE a b)] := hp 9 (by simp [Lmo9])
              have e35 : (Roll.putD Dmo9 vs [9] b0).eval (.tmp 35) = .tuple #[.int .i64 (amR a b), .int .i64 (amE a b)] := (Roll.eval_new 9 rfl (by decide) (by decide) (by omega)).trans h9
              clear hp hlv hN
              unfold Roll.Goes
              simp only [Lmo9, List.getD_cons_zero, List.getD_cons_succ]
              generalize Roll.putD Dmo9 vs [9] b0 = a1 at *
              refine Roll.goes_val (w' := p) (.int .i64 (amR a b)) rfl ?_ ⟨hI, Below.refl _ _, rfl⟩
              (have ec : ∀ x, a1.eval (.const x) = x := fun _ => rfl); (have ef : ∀ x, a1.eval (.func x) = .func (.func x) #[] #[] := fun _ => rfl); generalize a1.eval = ρ at *
              clear h9
              go_simp <;> (intros; first | (exfalso; omega) | rfl | omega)
            · intro vs p hI hp
              have h9 : (vs 9) = .tuple #[.int .i64 (amR a b), .int .i64 (amE a b)] := hp 9 (by simp [Lmo9])
              have e35 : (Roll.putD Dmo9 vs [9] b0).eval (.tmp 35) = .tuple #[.int .i64 (amR a b), .int .i64 (amE a b)] := (Roll.eval_new 9 rfl (by decide) (by decide) (by omega)).trans h9
              clear hp hlv hN
              unfold Roll.Goes
              simp only [Lmo9, List.getD_cons_zero, List.getD_cons_succ]
              generalize Roll.putD Dmo9 vs [9] b0 = a1 at *
              refine Roll.goes_val (w' := p) (.int .i64 (amE a b)) rfl ?_ ⟨hI, Below.refl _ _, rfl⟩
              (have ec : ∀ x, a1.eval (.const x) = x := fun _ => rfl); (have ef : ∀ x, a1.eval (.func x) = .func (.func x) #[] #[] := fun _ => rfl); generalize a1.eval = ρ at *
              clear h9
              go_simp <;> (intros; first | (exfalso; omega) | rfl | omega)
            · intro vs p hI hp
              have h10 : (vs 10) = .int .i64 (amR a b) := hp 10 (by simp [Lmo9])
              have e45 : (Roll.putD Dmo9 vs [10] b0).eval (.tmp 45) = .int .i64 (amR a b) := (Roll.eval_new 10 rfl (by decide) (by decide) (by omega)).trans h10
              clear hp hlv hN
              unfold Roll.Goes
              simp only [Lmo9, List.getD_cons_zero, List.getD_cons_succ]
              generalize Roll.putD Dmo9 vs [10] b0 = a1 at *
              refine Roll.goes_val (w' := p) (.int .i64 (amR a b)) rfl ?_ ⟨hI, Below.refl _ _, rfl⟩
              (have ec : ∀ x, a1.eval (.const x) = x := fun _ => rfl); (have ef : ∀ x, a1.eval (.func x) = .func (.func x) #[] #[] := fun _ => rfl); generalize a1.eval = ρ at *
              clear h10
              go_simp <;> (intros; first | (exfalso; omega) | rfl | omega)
            · intro vs p hI hp
              have h11 : (vs 11) = .int .i64 (amE a b) := hp 11 (by simp [Lmo9])
              have e46 : (Roll.putD Dmo9 vs [11] b0).eval (.tmp 46) = .int .i64 (amE a b) := (Roll.eval_new 11 rfl (by decide) (by decide) (by omega)).trans h11
              clear hp hlv hN
              unfold Roll.Goes
              simp only [Lmo9, List.getD_cons_zero, List.getD_cons_succ]
              generalize Roll.putD Dmo9 vs [11] b0 = a1 at *
              refine Roll.goes_val (w' := p) (.int .i64 (amE a b)) rfl ?_ ⟨hI, Below.refl _ _, rfl⟩
              (have ec : ∀ x, a1.eval (.const x) = x := fun _ => rfl); (have ef : ∀ x, a1.eval (.func x) = .func (.func x) #[] #[] := fun _ => rfl); generalize a1.eval = ρ at *
              clear h11
              go_simp <;> (intros; first | (exfalso; omega) | rfl | omega)
          · intro vs p hI hR
            have h0 : (vs 0) = .slice (some ⟨gd, 0, none⟩) 3 3 := hR 0 (by omega)
            have h1 : (vs 1) = .int .i64 (i : Int) := hR 1 (by omega)
            have h2 : (vs 2) = .pointer (some ⟨gd, i, none⟩) := hR 2 (by omega)
            have h3 : (vs 3) = .int .i64 a := hR 3 (by omega)
            have h4 : (vs 4) = .slice (some ⟨gm, 0, none⟩) 3 3 := hR 4 (by omega)
            have h5 : (vs 5) = .int .i64 (k : Int) := hR 5 (by omega)
            have h6 : (vs 6) = .pointer (some ⟨gm, k, none⟩) := hR 6 (by omega)
            have h7 : (vs 7) = .int .i64 b := hR 7 (by omega)
            have h8 : (vs 8) = .tuple #[.int .i64 (amR a b), .int .i64 (amE a b)] := hR 8 (by omega)
            have h9 : (vs 9) = .tuple #[.int .i64 (amR a b), .int .i64 (amE a b)] := hR 9 (by omega)
            have h10 : (vs 10) = .int .i64 (amR a b) := hR 10 (by omega)
            have h11 : (vs 11) = .int .i64 (amE a b) := hR 11 (by omega)
            have h12 : (vs 12) = .int .i64 (amR a b) := hR 12 (by omega)
            have h13 : (vs 13) = .int .i64 (amE a b) := hR 13 (by omega)
            clear hR
            simp only [List.range_succ, List.range_zero, List.nil_append, List.cons_append, Roll.putD, Act.put, List.getD_cons_zero, List.getD_cons_succ, List.setIfInBounds_toArray, List.set_cons_zero, List.set_cons_succ, List.drop_succ_cons, List.drop_zero, Dmo9]
            simp only [h0, h1, h2, h3, h4, h5, h6, h7, h8, h9, h10, h11, h12, h13]
            clear h0 h1 h2 h3 h4 h5 h6 h7 h8 h9 h10 h11 h12 h13
            obtain ⟨q, hq⟩ : ∃ q, q = p := ⟨_, rfl⟩
            subst hq
            have HIq := Lib.hid hI
            have HqD : Hid (gd < q.heap.size) := Lib.hid (Nat.lt_of_lt_of_le HwrD.out HIq.out.size)
            have HqM : Hid (gm < q.heap.size) := Lib.hid (Nat.lt_of_lt_of_le HwrM.out HIq.out.size)
            have CqD : Hid (q.cell? ⟨gd, i, none⟩ = some (.int .i64 a)) := Lib.hid ((HIq.out.cell (p := ⟨gd, i, none⟩) HwrD.out).trans CwrD.out)
            have CqM : Hid (q.cell? ⟨gm, k, none⟩ = some (.int .i64 b)) := Lib.hid ((HIq.out.cell (p := ⟨gm, k, none⟩) HwrM.out).trans CwrM.out)
            have HTq : Hid (Tabs q) := Lib.hid (HTwr.out.below HIq.out)
            have HBq : Hid (Below w1.heap.size w1 q) := Lib.hid (HBwr.out.trans (HIq.out.mono HBwr.out.size))
            clear hI
            go_upto_region 10 with fail
            refine Roll.region_f 14 68 Dmo10 Lmo10 [(5, .slice (some ⟨gd, 0, none⟩) 3 3), (6, .slice (some ⟨gm, 0, none⟩) 3 3), (7, .int .i64 (i : Int)), (8, .int .i64 (k : Int))] (fun p => Below q.heap.size q p) (fun p p2 => Below p.heap.size p p2) [fun vv p => vv = .slice (some ⟨gd, 0, none⟩) 3 3, fun vv p => vv = .int .i64 (i : Int), fun vv p => vv = .pointer (some ⟨gd, i, none⟩), fun vv p => vv = .int .i64 a, fun vv p => vv = .slice (some ⟨gm, 0, none⟩) 3 3, fun vv p => vv = .int .i64 (k : Int), fun vv p => vv = .pointer (some ⟨gm, k, none⟩), fun vv p => vv = .int .i64 b, fun vv p => vv = .tuple #[.int .i64 (amR a b), .int .i64 (amE a b)], fun vv p => vv = .tuple #[.int .i64 (amR a b), .int .i64 (amE a b)], fun vv p => vv = .int .i64 (amR a b), fun vv p => vv = .int .i64 (amE a b), fun vv p => vv = .int .i64 (amR a b), fun vv p => vv = .int .i64 (amE a b)] (by kernel_rfl) (by kernel_rfl) rfl ⟨rfl, rfl, rfl, rfl, trivial⟩ ((Below.refl _ _).drew) ?_ ?_ ?_
            · exact ⟨fun _ _ _ _ h => h, fun _ _ _ _ h => h, fun _ _ _ _ h => h, fun _ _ _ _ h => h, fun _ _ _ _ h => h, fun _ _ _ _ h => h, fun _ _ _ _ h => h, fun _ _ _ _ h => h, fun _ _ _ _ h => h, fun _ _ _ _ h => h, fun _ _ _ _ h => h, fun _ _ _ _ h => h, fun _ _ _ _ h => h, fun _ _ _ _ h => h, trivial⟩
            · intro b0 hN hlv
              refine ⟨?_, ?_, ?_, ?_, ?_, ?_, ?_, ?_, ?_, ?_, ?_, ?_, ?_, ?_, trivial⟩
              · intro us p hI hp
                have e5 : (Roll.putD Dmo10 us [] b0).eval (.tmp 5) = .slice (some ⟨gd, 0, none⟩) 3 3 := (Roll.eval_old rfl).trans (hlv.at 0 (5, .slice (some ⟨gd, 0, none⟩) 3 3) rfl)
                clear hp hlv hN
                unfold Roll.Goes
                simp only [Lmo10, List.getD_cons_zero, List.getD_cons_succ]
                generalize Roll.putD Dmo10 us [] b0 = a1 at *
                refine Roll.goes_val (w' := p) (.slice (some ⟨gd, 0, none⟩) 3 3) rfl ?_ ⟨hI, Below.refl _ _, rfl⟩
                (have ec : ∀ x, a1.eval (.const x) = x := fun _ => rfl); (have ef : ∀ x, a1.eval (.func x) = .func (.func x) #[] #[] := fun _ => rfl); generalize a1.eval = ρ at *
                skip
                go_simp <;> (intros; first | (exfalso; omega) | rfl | omega)
              · intro us p hI hp
                have e7 : (Roll.putD Dmo10 us [] b0).eval (.tmp 7) = .int .i64 (i : Int) := (Roll.eval_old rfl).trans (hlv.at 2 (7, .int .i64 (i : Int)) rfl)
                clear hp hlv hN
                unfold Roll.Goes
                simp only [Lmo10, List.getD_cons_zero, List.getD_cons_succ]
                generalize Roll.putD Dmo10 us [] b0 = a1 at *
                refine Roll.goes_val (w' := p) (.int .i64 (i : Int)) rfl ?_ ⟨hI, Below.refl _ _, rfl⟩
                (have ec : ∀ x, a1.eval (.const x) = x := fun _ => rfl); (have ef : ∀ x, a1.eval (.func x) = .func (.func x) #[] #[] := fun _ => rfl); generalize a1.eval = ρ at *
                skip
                go_simp <;> (intros; first | (exfalso; omega) | rfl | omega)
              · intro us p hI hp
                have h0 : (us 0) = .slice (some ⟨gd, 0, none⟩) 3 3 := hp 0 (by simp [Lmo10])
                have h1 : (us 1) = .int .i64 (i : Int) := hp 1 (by simp [Lmo10])
                have e48 : (Roll.putD Dmo10 us [0, 1] b0).eval (.tmp 48) = .slice (some ⟨gd, 0, none⟩) 3 3 := (Roll.eval_new 0 rfl (by decide) (by decide) (by omega)).trans h0
                have e49 : (Roll.putD Dmo10 us [0, 1] b0).eval (.tmp 49) = .int .i64 (i : Int) := (Roll.eval_new 1 rfl (by decide) (by decide) (by omega)).trans h1
                clear hp hlv hN
                unfold Roll.Goes
                simp only [Lmo10, List.getD_cons_zero, List.getD_cons_succ]
                generalize Roll.putD Dmo10 us [0, 1] b0 = a1 at *
                have f0 := HIX.out.1
                have f1 := HIX.out.2
                refine Roll.goes_val (w' := p) (.pointer (some ⟨gd, i, none⟩)) rfl ?_ ⟨hI, Below.refl _ _, rfl⟩
                (have ec : ∀ x, a1.eval (.const x) = x := fun _ => rfl); (have ef : ∀ x, a1.eval (.func x) = .func (.func x) #[] #[] := fun _ => rfl); generalize a1.eval = ρ at *
                clear h0 h1
                go_simp <;> (intros; first | (exfalso; omega) | rfl | omega)
              · intro us p hI hp
                have h2 : (us 2) = .pointer (some ⟨gd, i, none⟩) := hp 2 (by simp [Lmo10])
                have e50 : (Roll.putD Dmo10 us [2] b0).eval (.tmp 50) = .pointer (some ⟨gd, i, none⟩) := (Roll.eval_new 2 rfl (by decide) (by decide) (by omega)).trans h2
                clear hp hlv hN
                unfold Roll.Goes
                simp only [Lmo10, List.getD_cons_zero, List.getD_cons_succ]
                generalize Roll.putD Dmo10 us [2] b0 = a1 at *
                have cf : p.cell? ⟨gd, i, none⟩ = some (.int .i64 a) := (hI.cell (p := ⟨gd, i, none⟩) HqD.out).trans CqD.out
                refine Roll.goes_val (w' := p) (.int .i64 a) rfl ?_ ⟨hI, Below.refl _ _, rfl⟩
                (have ec : ∀ x, a1.eval (.const x) = x := fun _ => rfl); (have ef : ∀ x, a1.eval (.func x) = .func (.func x) #[] #[] := fun _ => rfl); generalize a1.eval = ρ at *
                clear h2
                go_simp <;> (intros; first | (exfalso; omega) | rfl | omega)
              · intro us p hI hp
                have e6 : (Roll.putD Dmo10 us [] b0).eval (.tmp 6) = .slice (some ⟨gm, 0, none⟩) 3 3 := (Roll.eval_old rfl).trans (hlv.at 1 (6, .slice (some ⟨gm, 0, none⟩) 3 3) rfl)
                clear hp hlv hN
                unfold Roll.Goes
                simp only [Lmo10, List.getD_cons_zero, List.getD_cons_succ]
                generalize Roll.putD Dmo10 us [] b0 = a1 at *
                refine Roll.goes_val (w' := p) (.slice (some ⟨gm, 0, none⟩) 3 3) rfl ?_ ⟨hI, Below.refl _ _, rfl⟩
                (have ec : ∀ x, a1.eval (.const x) = x := fun _ => rfl); (have ef : ∀ x, a1.eval (.func x) = .func (.func x) #[] #[] := fun _ => rfl); generalize a1.eval = ρ at *
                skip
                go_simp <;> (intros; first | (exfalso; omega) | rfl | omega)
              · intro us p hI hp
                have e8 : (Roll.putD Dmo10 us [] b0).eval (.tmp 8) = .int .i64 (k : Int) := (Roll.eval_old rfl).trans (hlv.at 3 (8, .int .i64 (k : Int)) rfl)
                clear hp hlv hN
                unfold Roll.Goes
                simp only [Lmo10, List.getD_cons_zero, List.getD_cons_succ]
                generalize Roll.putD Dmo10 us [] b0 = a1 at *
                refine Roll.goes_val (w' := p) (.int .i64 (k : Int)) rfl ?_ ⟨hI, Below.refl _ _, rfl⟩
                (have ec : ∀ x, a1.eval (.const x) = x := fun _ => rfl); (have ef : ∀ x, a1.eval (.func x) = .func (.func x) #[] #[] := fun _ => rfl); generalize a1.eval = ρ at *
                skip
                go_simp <;> (intros; first | (exfalso; omega) | rfl | omega)
              · intro us p hI hp
                have h4 : (us 4) = .slice (some ⟨gm, 0, none⟩) 3 3 := hp 4 (by simp [Lmo10])
                have h5 : (us 5) = .int .i64 (k : Int) := hp 5 (by simp [Lmo10])
                have e52 : (Roll.putD Dmo10 us [4, 5] b0).eval (.tmp 52) = .slice (some ⟨gm, 0, none⟩) 3 3 := (Roll.eval_new 4 rfl (by decide) (by decide) (by omega)).trans h4
                have e53 : (Roll.putD Dmo10 us [4, 5] b0).eval (.tmp 53) = .int .i64 (k : Int) := (Roll.eval_new 5 rfl (by decide) (by decide) (by omega)).trans h5
                clear hp hlv hN
                unfold Roll.Goes
                simp only [Lmo10, List.getD_cons_zero, List.getD_cons_succ]
                generalize Roll.putD Dmo10 us [4, 5] b0 = a1 at *
                have f0 := HIX.out.1
                have f1 := HIX.out.2
                refine Roll.goes_val (w' := p) (.pointer (some ⟨gm, k, none⟩)) rfl ?_ ⟨hI, Below.refl _ _, rfl⟩
                (have ec : ∀ x, a1.eval (.const x) = x := fun _ => rfl); (have ef : ∀ x, a1.eval (.func x) = .func (.func x) #[] #[] := fun _ => rfl); generalize a1.eval = ρ at *
                clear h4 h5
                go_simp <;> (intros; first | (exfalso; omega) | rfl | omega)
              · intro us p hI hp
                have h6 : (us 6) = .pointer (some ⟨gm, k, none⟩) := hp 6 (by simp [Lmo10])
                have e54 : (Roll.putD Dmo10 us [6] b0).eval (.tmp 54) = .pointer (some ⟨gm, k, none⟩) := (Roll.eval_new 6 rfl (by decide) (by decide) (by omega)).trans h6
                clear hp hlv hN
                unfold Roll.Goes
                simp only [Lmo10, List.getD_cons_zero, List.getD_cons_succ]
                generalize Roll.putD Dmo10 us [6] b0 = a1 at *
                have cf : p.cell? ⟨gm, k, none⟩ = some (.int .i64 b) := (hI.cell (p := ⟨gm, k, none⟩) HqM.out).trans CqM.out
                refine Roll.goes_val (w' := p) (.int .i64 b) rfl ?_ ⟨hI, Below.refl _ _, rfl⟩
                (have ec : ∀ x, a1.eval (.const x) = x := fun _ => rfl); (have ef : ∀ x, a1.eval (.func x) = .func (.func x) #[] #[] := fun _ => rfl); generalize a1.eval = ρ at *
                clear h6
                go_simp <;> (intros; first | (exfalso; omega) | rfl | omega)
              · intro us p hI hp
                have h3 : (us 3) = .int .i64 a := hp 3 (by simp [Lmo10])
                have h7 : (us 7) = .int .i64 b := hp 7 (by simp [Lmo10])
                have e51 : (Roll.putD Dmo10 us [3, 7] b0).eval (.tmp 51) = .int .i64 a := (Roll.eval_new 3 rfl (by decide) (by decide) (by omega)).trans h3
                have e55 : (Roll.putD Dmo10 us [3, 7] b0).eval (.tmp 55) = .int .i64 b := (Roll.eval_new 7 rfl (by decide) (by decide) (by omega)).trans h7
                clear hp hlv hN
                unfold Roll.Goes
                simp only [Lmo10, List.getD_cons_zero, List.getD_cons_succ]
                generalize Roll.putD Dmo10 us [3, 7] b0 = a1 at *
                refine Roll.goes_call 35 #[.int .i64 a, .int .i64 b] p rfl (by have ec : ∀ x, a1.eval (.const x) = x := fun _ => rfl; have ef : ∀ x, a1.eval (.func x) = .func (.func x) #[] #[] := fun _ => rfl; generalize a1.eval = ρ at *; go_simp) ?_
                refine (HAR.out p (HTq.out.below hI)).mono ?_
                rintro z p2 ⟨rfl, hb⟩
                exact ⟨_, rfl, hI.trans (hb.mono hI.size), hb, rfl⟩
              · intro us p hI hp
                have h8 : (us 8) = .tuple #[.int .i64 (amR a b), .int .i64 (amE a b)] := hp 8 (by simp [Lmo10])
                have e56 : (Roll.putD Dmo10 us [8] b0).eval (.tmp 56) = .tuple #[.int .i64 (amR a b), .int .i64 (amE a b)] := (Roll.eval_new 8 rfl (by decide) (by decide) (by omega)).trans h8
                clear hp hlv hN
                unfold Roll.Goes
                simp only [Lmo10, List.getD_cons_zero, List.getD_cons_succ]
                generalize Roll.putD Dmo10 us [8] b0 = a1 at *
                refine Roll.goes_val (w' := p) (.tuple #[.int .i64 (amR a b), .int .i64 (amE a b)]) rfl ?_ ⟨hI, Below.refl _ _, rfl⟩
                (have ec : ∀ x, a1.eval (.const x) = x := fun _ => rfl); (have ef : ∀ x, a1.eval (.func x) = .func (.func x) #[] #[] := fun _ => rfl); generalize a1.eval = ρ at *
                clear h8
                go_simp <;> (intros; first | (exfalso; omega) | rfl | omega)
              · intro us p hI hp
                have h9 : (us 9) = .tuple #[.int .i64 (amR a b), .int .i64 (amE a b)] := hp 9 (by simp [Lmo10])
                have e47 : (Roll.putD Dmo10 us [9] b0).eval (.tmp 47) = .tuple #[.int .i64 (amR a b), .int .i64 (amE a b)] := (Roll.eval_new 9 rfl (by decide) (by decide) (by omega)).trans h9
                clear hp hlv hN
                unfold Roll.Goes
                simp only [Lmo10, List.getD_cons_zero, List.getD_cons_succ]
                generalize Roll.putD Dmo10 us [9] b0 = a1 at *
                refine Roll.goes_val (w' := p) (.int .i64 (amR a b)) rfl ?_ ⟨hI, Below.refl _ _, rfl⟩
                (have ec : ∀ x, a1.eval (.const x) = x := fun _ => rfl); (have ef : ∀ x, a1.eval (.func x) = .func (.func x) #[] #[] := fun _ => rfl); generalize a1.eval = ρ at *
                clear h9
                go_simp <;> (intros; first | (exfalso; omega) | rfl | omega)
              · intro us p hI hp
                have h9 : (us 9) = .tuple #[.int .i64 (amR a b), .int .i64 (amE a b)] := hp 9 (by simp [Lmo10])
                have e47 : (Roll.putD Dmo10 us [9] b0).eval (.tmp 47) = .tuple #[.int .i64 (amR a b), .int .i64 (amE a b)] := (Roll.eval_new 9 rfl (by decide) (by decide) (by omega)).trans h9
                clear hp hlv hN
                unfold Roll.Goes
                simp only [Lmo10, List.getD_cons_zero, List.getD_cons_succ]
                generalize Roll.putD Dmo10 us [9] b0 = a1 at *
                refine Roll.goes_val (w' := p) (.int .i64 (amE a b)) rfl ?_ ⟨hI, Below.refl _ _, rfl⟩
                (have ec : ∀ x, a1.eval (.const x) = x := fun _ => rfl); (have ef : ∀ x, a1.eval (.func x) = .func (.func x) #[] #[] := fun _ => rfl); generalize a1.eval = ρ at *
                clear h9
                go_simp <;> (intros; first | (exfalso; omega) | rfl | omega)
              · intro us p hI hp
                have h10 : (us 10) = .int .i64 (amR a b) := hp 10 (by simp [Lmo10])
                have e57 : (Roll.putD Dmo10 us [10] b0).eval (.tmp 57) = .int .i64 (amR a b) := (Roll.eval_new 10 rfl (by decide) (by decide) (by omega)).trans h10
                clear hp hlv hN
                unfold Roll.Goes
                simp only [Lmo10, List.getD_cons_zero, List.getD_cons_succ]
                generalize Roll.putD Dmo10 us [10] b0 = a1 at *
                refine Roll.goes_val (w' := p) (.int .i64 (amR a b)) rfl ?_ ⟨hI, Below.refl _ _, rfl⟩
                (have ec : ∀ x, a1.eval (.const x) = x := fun _ => rfl); (have ef : ∀ x, a1.eval (.func x) = .func (.func x) #[] #[] := fun _ => rfl); generalize a1.eval = ρ at *
                clear h10
                go_simp <;> (intros; first | (exfalso; omega) | rfl | omega)
              · intro us p hI hp
                have h11 : (us 11) = .int .i64 (amE a b) := hp 11 (by simp [Lmo10])
                have e58 : (Roll.putD Dmo10 us [11] b0).eval (.tmp 58) = .int .i64 (amE a b) := (Roll.eval_new 11 rfl (by decide) (by decide) (by omega)).trans h11
                clear hp hlv hN
                unfold Roll.Goes
                simp only [Lmo10, List.getD_cons_zero, List.getD_cons_succ]
                generalize Roll.putD Dmo10 us [11] b0 = a1 at *
                refine Roll.goes_val (w' := p) (.int .i64 (amE a b)) rfl ?_ ⟨hI, Below.refl _ _, rfl⟩
                (have ec : ∀ x, a1.eval (.const x) = x := fun _ => rfl); (have ef : ∀ x, a1.eval (.func x) = .func (.func x) #[] #[] := fun _ => rfl); generalize a1.eval = ρ at *
                clear h11
                go_simp <;> (intros; first | (exfalso; omega) | rfl | omega)
            · intro us p hI hR
              have h0 : (us 0) = .slice (some ⟨gd, 0, none⟩) 3 3 := hR 0 (by omega)
              have h1 : (us 1) = .int .i64 (i : Int) := hR 1 (by omega)
              have h2 : (us 2) = .pointer (some ⟨gd, i, none⟩) := hR 2 (by omega)
              have h3 : (us 3) = .int .i64 a := hR 3 (by omega)
              have h4 : (us 4) = .slice (some ⟨gm, 0, none⟩) 3 3 := hR 4 (by omega)
              have h5 : (us 5) = .int .i64 (k : Int) := hR 5 (by omega)
              have h6 : (us 6) = .pointer (some ⟨gm, k, none⟩) := hR 6 (by omega)
              have h7 : (us 7) = .int .i64 b := hR 7 (by omega)
              have h8 : (us 8) = .tuple #[.int .i64 (amR a b), .int .i64 (amE a b)] := hR 8 (by omega)
              have h9 : (us 9) = .tuple #[.int .i64 (amR a b), .int .i64 (amE a b)] := hR 9 (by omega)
              have h10 : (us 10) = .int .i64 (amR a b) := hR 10 (by omega)
              have h11 : (us 11) = .int .i64 (amE a b) := hR 11 (by omega)
              have h12 : (us 12) = .int .i64 (amR a b) := hR 12 (by omega)
              have h13 : (us 13) = .int .i64 (amE a b) := hR 13 (by omega)
              clear hR
              simp only [List.range_succ, List.range_zero, List.nil_append, List.cons_append, Roll.putD, Act.put, List.getD_cons_zero, List.getD_cons_succ, List.setIfInBounds_toArray, List.set_cons_zero, List.set_cons_succ, List.drop_succ_cons, List.drop_zero, Dmo10]
              simp only [h0, h1, h2, h3, h4, h5, h6, h7, h8, h9, h10, h11, h12, h13]
              clear h0 h1 h2 h3 h4 h5 h6 h7 h8 h9 h10 h11 h12 h13
              have HI2 := Lib.hid hI
              clear hI
              go_wp2_with fail
              go_roundw
              case rel => exact ⟨k + 1, by omega, by go_num, HTq.out.below HI2.out, HBq.out.trans (HI2.out.mono HBq.out.size)⟩
              case measure => simp only [intOf]; omega
        · obtain rfl : k = 3 := by omega
          go_wp2_with fail
          go_roundw
          case rel => exact ⟨i + 1, by omega, by go_num, .inr trivial, HTwr.out, HBwr.out⟩
          case measure => simp only [intOf]; omega
    · obtain rfl : i = 3 := by omega
      go_wp2_with (go_at_call 19; refine (lives_any _ HTO.out).mono ?_; rintro e wl ⟨rfl, hb⟩; have HBL := Lib.hid ((HB1.out.trans (HBO.out.mono HB1.out.size)).trans (hb.mono (Nat.le_trans HB1.out.size HBO.out.size))); clear hb)
      go_ret
      exact ⟨rfl, HBL.out⟩
end Go.Proofs.YtcoijmggfkjcjaaDoor

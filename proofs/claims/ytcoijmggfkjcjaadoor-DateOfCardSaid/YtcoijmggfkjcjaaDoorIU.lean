/-
  The law DateOf (written by gen_IU.py).
-/
import Derived.Test.YtcoijmggfkjcjaaDoorIG
namespace Go.Proofs.YtcoijmggfkjcjaaDoor
open Go.RowKit
set_option linter.unusedSimpArgs false
set_option linter.unusedVariables false
attribute [local go_sem ↓] exec_storeDate
attribute [local go_sem] run_storeDate
def Dof7 : List (Option Tmp) := [some 35, some 36, some 37, some 38, some 39, some 40, some 41, some 42, some 43, some 44, some 45, some 46, some 47, some 48, some 49, some 50, some 51, some 52, some 53, some 54, some 55]
def Lof7 : List (List Nat) := [[], [], [0, 1], [2], [3], [3], [4, 5, 3], [3, 6], [7], [8], [8], [9, 10, 8], [11, 8], [12, 8], [8], [8], [14, 15, 8], [16, 8], [17, 8], [13, 18, 8], [8, 19]]
set_option maxRecDepth 100000 in
set_option maxHeartbeats 8000000 in
theorem of_law (n : Int) (w0 : World) (hT : Tabs w0) (n1 : -9223372036854775808 ≤ n) (n2 : n ≤ 9223372036854775807) : Calls Tryd.prog 4 #[.int .i64 n] w0 fun e w' => e = .returned (.bool true) ∧ Below w0.heap.size w0 w' := by
  have HNE := Lib.hid (fun u => near_any n u n1 n2)
  have HDH := Lib.hid (fun u => dayHelp_any n u n1 n2)
  have HTS := Lib.hid hT
  clear hT
  go_enter Tryd.func4, Tryd.ntmps4
  go_upto_region 2 with (first
    | (go_at_call 20; refine (HNE.out _).mono ?_; rintro e w1 ⟨rfl, rfl⟩)
    | (go_at_call 21; refine (HDH.out _).mono ?_; rintro e w1 ⟨rfl, rfl⟩))
  obtain ⟨w, hw1⟩ : ∃ w, w = w0.alloc (.cells #[.int .i64 n, .int .i64 (nearN n), .int .i64 (dayOfN n)] 3) := ⟨_, rfl⟩
  obtain ⟨gs, hgs⟩ : ∃ gs, gs = w0.heap.size := ⟨_, rfl⟩
  have hrd : w.heap[gs]? = some (.cells #[.int .i64 n, .int .i64 (nearN n), .int .i64 (dayOfN n)] 3 (0, 0)) := by rw [hw1, hgs]; exact heap_new0
  have hb1 : Below w0.heap.size w0 w := by rw [hw1]; exact (Below.refl _ w0).alloc (Nat.le_refl _) _
  rw [← hw1]
  rw [← hgs]
  have HLS := Lib.hid (heap_lt hrd)
  have HVD : Hid (∀ i : Nat, i < 3 → ∃ a, w.cell? ⟨gs, i, none⟩ = some (.int .i64 a)) := Lib.hid (fun i hi => by
    have h : i = 0 ∨ i = 1 ∨ i = 2 := by omega
    rcases h with rfl | rfl | rfl
    · exact ⟨_, cell_of_row w gs 0 _ _ _ hrd⟩
    · exact ⟨_, cell_of_row w gs 1 _ _ _ hrd⟩
    · exact ⟨_, cell_of_row w gs 2 _ _ _ hrd⟩)
  have HT0 := Lib.hid (HTS.out.below hb1)
  have HB1 := Lib.hid hb1
  clear hw1 hgs hrd hb1 HTS HNE HDH
  go_wp2_with fail
  go_loopw [4] (fun ii wr => ∃ i : Nat, i ≤ 3 ∧ ii = .int .i64 (i : Int) ∧ Tabs wr ∧ Below w.heap.size w wr) (fun ii _ => (3 - intOf ii).toNat)
  case atStart => exact ⟨0, by omega, rfl, HT0.out, Below.refl _ _⟩
  case round =>
    obtain ⟨i, hi, rfl, ht, hb⟩ := hrel
    have HTP := Lib.hid ht
    have HBP := Lib.hid hb
    clear ht hb
    by_cases hi3 : i < 3
    · have hii : (i : Int) < 3 := by omega
      obtain ⟨a, ha⟩ := HVD.out i hi3
      have HCA := Lib.hid ha
      have ca : wr.cell? ⟨gs, i, none⟩ = some (.int .i64 a) := (HBP.out.cell (p := ⟨gs, i, none⟩) HLS.out).trans ha
      have j1 : IntKind.i64.wrap ((i : Int) + 1) = (i : Int) + 1 := i64_id _ (by omega) (by omega)
      have HIX : Hid ((i : Int) < 3) := Lib.hid hii
      obtain ⟨Y, hY⟩ : ∃ Y, Y = ofY a := ⟨_, rfl⟩
      obtain ⟨M, hM⟩ : ∃ M, M = ofM a := ⟨_, rfl⟩
      obtain ⟨D, hD⟩ : ∃ D, D = ofD a := ⟨_, rfl⟩
      obtain ⟨er, her⟩ : ∃ er, er = ofE a := ⟨_, rfl⟩
      obtain ⟨s, hs⟩ : ∃ s, s = printB a := ⟨_, rfl⟩
      have HOF : Hid (∀ p, Tabs p → Calls Tryd.prog 22 #[.int .i64 a] p fun e w' => e = .returned (.tuple #[.agg #[.int .i64 Y, .int .i64 M, .int .i64 D], .int .i64 er]) ∧ Below p.heap.size p w') := Lib.hid (fun p hp => by rw [hY, hM, hD, her]; exact of_any a p hp)
      have HRF : Hid (∀ p, Tabs p → Calls Tryd.prog 23 #[.int .i64 a] p fun e w' => e = .returned (.tuple #[.agg #[.int .i64 Y, .int .i64 M, .int .i64 D], .int .i64 er]) ∧ Below p.heap.size p w') := Lib.hid (fun p hp => by rw [hY, hM, hD, her]; exact refOf_any a p hp)
      have HP1 : Hid (∀ p, Tabs p → Calls Tryd.prog 24 #[.int .i64 a] p fun e w' => e = .returned (.string s) ∧ Below p.heap.size p w') := Lib.hid (fun p hp => by rw [hs]; exact print_any a p hp)
      have HP2 : Hid (∀ p, Tabs p → Calls Tryd.prog 25 #[.int .i64 a] p fun e w' => e = .returned (.string s) ∧ Below p.heap.size p w') := Lib.hid (fun p hp => by rw [hs]; exact refPrint_any a p hp)
      clear ha hY hM hD her hs
      go_upto_region 6 with (go_at_call 22; refine (HOF.out _ HTP.out).mono ?_; rintro e v1 ⟨rfl, hb⟩; have HTN := Tab_stepD HTP hb; have HBN := Bel_stepD HBP hb; clear HTP HBP; have HTP := HTN; have HBP := HBN; clear HTN HBN; clear hb; clear ca; have pd : DB (v1.alloc (.cells #[.int .i64 0, .int .i64 0, .int .i64 0] 23)) v1.heap.size := ⟨0, 0, 0, heap_new0⟩)
      obtain ⟨w2, hw⟩ : ∃ w2, w2 = (v1.alloc (.cells #[.int .i64 0, .int .i64 0, .int .i64 0] 23)).setRow v1.heap.size #[.int .i64 Y, .int .i64 M, .int .i64 D] := ⟨_, rfl⟩
      obtain ⟨g5, hg⟩ : ∃ g5, g5 = v1.heap.size := ⟨_, rfl⟩
      have hrow : w2.heap[g5]? = some (.cells #[.int .i64 Y, .int .i64 M, .int .i64 D] 23 (0, 0)) := by rw [hw, hg]; exact setRow_heap _ _ _ _ _ _ heap_new0
      have hb : Below v1.heap.size v1 w2 := by rw [hw]; exact (((Kept.refl (fun _ => False) v1).alloc _).setRow (fun h => by omega) _).below (Nat.le_refl _) (fun _ _ h => h)
      have HG_g5 : Hid (w.heap.size ≤ g5) := Lib.hid (by rw [hg]; exact HBP.out.size)
      have HR_g5 := Lib.hid hrow
      have HTN := Tab_stepD HTP hb
      have HBN := Bel_stepD HBP hb
      clear HTP HBP
      have HTP := HTN
      have HBP := HBN
      clear HTN HBN
      rw [← hw]
      rw [← hg]
      clear hw hg hrow hb pd
      have c_g5_0 : w2.cell? ⟨g5, 0, none⟩ = some (.int .i64 Y) := cell_of_row w2 g5 0 _ _ _ HR_g5.out
      have c_g5_1 : w2.cell? ⟨g5, 1, none⟩ = some (.int .i64 M) := cell_of_row w2 g5 1 _ _ _ HR_g5.out
      have c_g5_2 : w2.cell? ⟨g5, 2, none⟩ = some (.int .i64 D) := cell_of_row w2 g5 2 _ _ _ HR_g5.out
      have f_g5_0 : w2.frozen? ⟨g5, 0, none⟩ = false := frozen_of_row w2 g5 0 _ _ HR_g5.out
      have f_g5_1 : w2.frozen? ⟨g5, 1, none⟩ = false := frozen_of_row w2 g5 1 _ _ HR_g5.out
      have f_g5_2 : w2.frozen? ⟨g5, 2, none⟩ = false := frozen_of_row w2 g5 2 _ _ HR_g5.out
      have ca : w2.cell? ⟨gs, i, none⟩ = some (.int .i64 a) := (HBP.out.cell (p := ⟨gs, i, none⟩) HLS.out).trans HCA.out
      go_upto_region 7 with (go_at_call 23; refine (HRF.out _ HTP.out).mono ?_; rintro e v2 ⟨rfl, hb⟩; have HTN := Tab_stepD HTP hb; have HBN := Bel_stepD HBP hb; clear HTP HBP; have HTP := HTN; have HBP := HBN; clear HTN HBN; have HRN := Lib.hid ((hb.block g5 (heap_lt HR_g5.out)).trans HR_g5.out); clear HR_g5; have HR_g5 := HRN; clear HRN; clear c_g5_0 c_g5_1 c_g5_2; have c_g5_0 : v2.cell? ⟨g5, 0, none⟩ = some (.int .i64 Y) := cell_of_row v2 g5 0 _ _ _ HR_g5.out; have c_g5_1 : v2.cell? ⟨g5, 1, none⟩ = some (.int .i64 M) := cell_of_row v2 g5 1 _ _ _ HR_g5.out; have c_g5_2 : v2.cell? ⟨g5, 2, none⟩ = some (.int .i64 D) := cell_of_row v2 g5 2 _ _ _ HR_g5.out; clear hb; clear ca; have pd : DB (v2.alloc (.cells #[.int .i64 0, .int .i64 0, .int .i64 0] 23)) v2.heap.size := ⟨0, 0, 0, heap_new0⟩)
      obtain ⟨w3, hw⟩ : ∃ w3, w3 = (v2.alloc (.cells #[.int .i64 0, .int .i64 0, .int .i64 0] 23)).setRow v2.heap.size #[.int .i64 Y, .int .i64 M, .int .i64 D] := ⟨_, rfl⟩
      obtain ⟨g7, hg⟩ : ∃ g7, g7 = v2.heap.size := ⟨_, rfl⟩
      have hrow : w3.heap[g7]? = some (.cells #[.int .i64 Y, .int .i64 M, .int .i64 D] 23 (0, 0)) := by rw [hw, hg]; exact setRow_heap _ _ _ _ _ _ heap_new0
      have hb : Below v2.heap.size v2 w3 := by rw [hw]; exact (((Kept.refl (fun _ => False) v2).alloc _).setRow (fun h => by omega) _).below (Nat.le_refl _) (fun _ _ h => h)
      have HG_g7 : Hid (w.heap.size ≤ g7) := Lib.hid (by rw [hg]; exact HBP.out.size)
      have HNE_g5_g7 : Hid (g5 ≠ g7) := Lib.hid (by have := heap_lt HR_g5.out; omega)
      have HRN := Lib.hid ((hb.block g5 (heap_lt HR_g5.out)).trans HR_g5.out)
      clear HR_g5
      have HR_g5 := HRN
      clear HRN
      have HR_g7 := Lib.hid hrow
      have HTN := Tab_stepD HTP hb
      have HBN := Bel_stepD HBP hb
      clear HTP HBP
      have HTP := HTN
      have HBP := HBN
      clear HTN HBN
      rw [← hw]
      rw [← hg]
      clear hw hg hrow hb pd c_g5_0 c_g5_1 c_g5_2
      have c_g5_0 : w3.cell? ⟨g5, 0, none⟩ = some (.int .i64 Y) := cell_of_row w3 g5 0 _ _ _ HR_g5.out
      have c_g5_1 : w3.cell? ⟨g5, 1, none⟩ = some (.int .i64 M) := cell_of_row w3 g5 1 _ _ _ HR_g5.out
      have c_g5_2 : w3.cell? ⟨g5, 2, none⟩ = some (.int .i64 D) := cell_of_row w3 g5 2 _ _ _ HR_g5.out
      have c_g7_0 : w3.cell? ⟨g7, 0, none⟩ = some (.int .i64 Y) := cell_of_row w3 g7 0 _ _ _ HR_g7.out
      have c_g7_1 : w3.cell? ⟨g7, 1, none⟩ = some (.int .i64 M) := cell_of_row w3 g7 1 _ _ _ HR_g7.out
      have c_g7_2 : w3.cell? ⟨g7, 2, none⟩ = some (.int .i64 D) := cell_of_row w3 g7 2 _ _ _ HR_g7.out
      have f_g7_0 : w3.frozen? ⟨g7, 0, none⟩ = false := frozen_of_row w3 g7 0 _ _ HR_g7.out
      have f_g7_1 : w3.frozen? ⟨g7, 1, none⟩ = false := frozen_of_row w3 g7 1 _ _ HR_g7.out
      have f_g7_2 : w3.frozen? ⟨g7, 2, none⟩ = false := frozen_of_row w3 g7 2 _ _ HR_g7.out
      have CS3 : Hid (w3.cell? ⟨gs, i, none⟩ = some (.int .i64 a)) := Lib.hid ((HBP.out.cell (p := ⟨gs, i, none⟩) HLS.out).trans HCA.out)
      have HLS3 : Hid (gs < w3.heap.size) := Lib.hid (Nat.lt_of_lt_of_le HLS.out HBP.out.size)
      have HLg5 := Lib.hid (heap_lt HR_g5.out)
      have HLg7 := Lib.hid (heap_lt HR_g7.out)
      have Cg50 := Lib.hid c_g5_0
      have Cg51 := Lib.hid c_g5_1
      have Cg52 := Lib.hid c_g5_2
      have Cg70 := Lib.hid c_g7_0
      have Cg71 := Lib.hid c_g7_1
      have Cg72 := Lib.hid c_g7_2
      have HT3 := HTP
      have HB3 := HBP
      clear c_g5_0 c_g5_1 c_g5_2 c_g7_0 c_g7_1 c_g7_2 f_g5_0 f_g5_1 f_g5_2 f_g7_0 f_g7_1 f_g7_2
      refine Roll.region_f 21 57 Dof7 Lof7 [(3, .slice (some ⟨gs, 0, none⟩) 3 3), (4, .int .i64 (i : Int)), (5, .pointer (some ⟨g5, 0, none⟩)), (6, .int .i64 er), (7, .pointer (some ⟨g7, 0, none⟩)), (8, .int .i64 er)] (fun p => Below w3.heap.size w3 p) (fun p p2 => Below p.heap.size p p2) [fun vv p => vv = .agg #[.int .i64 Y, .int .i64 M, .int .i64 D], fun vv p => vv = .agg #[.int .i64 Y, .int .i64 M, .int .i64 D], fun vv p => vv = .bool false, fun vv p => vv = .bool false, fun vv p => vv = .int .i64 er, fun vv p => vv = .int .i64 er, fun vv p => vv = .bool false, fun vv p => vv = .bool false, fun vv p => vv = .bool false, fun vv p => vv = .slice (some ⟨gs, 0, none⟩) 3 3, fun vv p => vv = .int .i64 (i : Int), fun vv p => vv = .pointer (some ⟨gs, i, none⟩), fun vv p => vv = .int .i64 a, fun vv p => vv = .string s, fun vv p => vv = .slice (some ⟨gs, 0, none⟩) 3 3, fun vv p => vv = .int .i64 (i : Int), fun vv p => vv = .pointer (some ⟨gs, i, none⟩), fun vv p => vv = .int .i64 a, fun vv p => vv = .string s, fun vv p => vv = .bool false, fun vv p => vv = .bool false] (by kernel_rfl) (by kernel_rfl) rfl ⟨rfl, rfl, rfl, rfl, rfl, rfl, trivial⟩ ((Below.refl _ _).drew) ?_ ?_ ?_
      · exact ⟨fun _ _ _ _ h => h, fun _ _ _ _ h => h, fun _ _ _ _ h => h, fun _ _ _ _ h => h, fun _ _ _ _ h => h, fun _ _ _ _ h => h, fun _ _ _ _ h => h, fun _ _ _ _ h => h, fun _ _ _ _ h => h, fun _ _ _ _ h => h, fun _ _ _ _ h => h, fun _ _ _ _ h => h, fun _ _ _ _ h => h, fun _ _ _ _ h => h, fun _ _ _ _ h => h, fun _ _ _ _ h => h, fun _ _ _ _ h => h, fun _ _ _ _ h => h, fun _ _ _ _ h => h, fun _ _ _ _ h => h, fun _ _ _ _ h => h, trivial⟩
      · intro b0 hN hlv
        refine ⟨?_, ?_, ?_, ?_, ?_, ?_, ?_, ?_, ?_, ?_, ?_, ?_, ?_, ?_, ?_, ?_, ?_, ?_, ?_, ?_, ?_, trivial⟩
        · intro vs p hI hp
          have e5 : (Roll.putD Dof7 vs [] b0).eval (.tmp 5) = .pointer (some ⟨g5, 0, none⟩) := (Roll.eval_old rfl).trans (hlv.at 2 (5, .pointer (some ⟨g5, 0, none⟩)) rfl)
          clear hp hlv hN
          unfold Roll.Goes
          simp only [Lof7, List.getD_cons_zero, List.getD_cons_succ]
          generalize Roll.putD Dof7 vs [] b0 = a1 at *
          have cf0 : p.cell? ⟨g5, 0, none⟩ = some (.int .i64 Y) := (hI.cell (p := ⟨g5, 0, none⟩) HLg5.out).trans Cg50.out
          have cf1 : p.cell? ⟨g5, 1, none⟩ = some (.int .i64 M) := (hI.cell (p := ⟨g5, 1, none⟩) HLg5.out).trans Cg51.out
          have cf2 : p.cell? ⟨g5, 2, none⟩ = some (.int .i64 D) := (hI.cell (p := ⟨g5, 2, none⟩) HLg5.out).trans Cg52.out
          refine Roll.goes_val (w' := p) (.agg #[.int .i64 Y, .int .i64 M, .int .i64 D]) rfl ?_ ⟨hI, Below.refl _ _, rfl⟩
          (have ec : ∀ x, a1.eval (.const x) = x := fun _ => rfl); (have ef : ∀ x, a1.eval (.func x) = .func (.func x) #[] #[] := fun _ => rfl); generalize a1.eval = ρ at *
          skip
          go_simp <;> (intros; first | (exfalso; omega) | rfl | omega)
        · intro vs p hI hp
          have e7 : (Roll.putD Dof7 vs [] b0).eval (.tmp 7) = .pointer (some ⟨g7, 0, none⟩) := (Roll.eval_old rfl).trans (hlv.at 4 (7, .pointer (some ⟨g7, 0, none⟩)) rfl)
          clear hp hlv hN
          unfold Roll.Goes
          simp only [Lof7, List.getD_cons_zero, List.getD_cons_succ]
          generalize Roll.putD Dof7 vs [] b0 = a1 at *
          have cf0 : p.cell? ⟨g7, 0, none⟩ = some (.int .i64 Y) := (hI.cell (p := ⟨g7, 0, none⟩) HLg7.out).trans Cg70.out
          have cf1 : p.cell? ⟨g7, 1, none⟩ = some (.int .i64 M) := (hI.cell (p := ⟨g7, 1, none⟩) HLg7.out).trans Cg71.out
          have cf2 : p.cell? ⟨g7, 2, none⟩ = some (.int .i64 D) := (hI.cell (p := ⟨g7, 2, none⟩) HLg7.out).trans Cg72.out
          refine Roll.goes_val (w' := p) (.agg #[.int .i64 Y, .int .i64 M, .int .i64 D]) rfl ?_ ⟨hI, Below.refl _ _, rfl⟩
          (have ec : ∀ x, a1.eval (.const x) = x := fun _ => rfl); (have ef : ∀ x, a1.eval (.func x) = .func (.func x) #[] #[] := fun _ => rfl); generalize a1.eval = ρ at *
          skip
          go_simp <;> (intros; first | (exfalso; omega) | rfl | omega)
        · intro vs p hI hp
          have h0 : (vs 0) = .agg #[.int .i64 Y, .int .i64 M, .int .i64 D] := hp 0 (by simp [Lof7])
          have h1 : (vs 1) = .agg #[.int .i64 Y, .int .i64 M, .int .i64 D] := hp 1 (by simp [Lof7])
          have e35 : (Roll.putD Dof7 vs [0, 1] b0).eval (.tmp 35) = .agg #[.int .i64 Y, .int .i64 M, .int .i64 D] := (Roll.eval_new 0 rfl (by decide) (by decide) (by omega)).trans h0
          have e36 : (Roll.putD Dof7 vs [0, 1] b0).eval (.tmp 36) = .agg #[.int .i64 Y, .int .i64 M, .int .i64 D] := (Roll.eval_new 1 rfl (by decide) (by decide) (by omega)).trans h1
          clear hp hlv hN
          unfold Roll.Goes
          simp only [Lof7, List.getD_cons_zero, List.getD_cons_succ]
          generalize Roll.putD Dof7 vs [0, 1] b0 = a1 at *
          refine Roll.goes_val (w' := p) (.bool false) rfl ?_ ⟨hI, Below.refl _ _, rfl⟩
          (have ec : ∀ x, a1.eval (.const x) = x := fun _ => rfl); (have ef : ∀ x, a1.eval (.func x) = .func (.func x) #[] #[] := fun _ => rfl); generalize a1.eval = ρ at *
          clear h0 h1
          go_simp <;> (intros; first | (exfalso; omega) | rfl | omega)
        · intro vs p hI hp
          have h2 : (vs 2) = .bool false := hp 2 (by simp [Lof7])
          have e37 : (Roll.putD Dof7 vs [2] b0).eval (.tmp 37) = .bool false := (Roll.eval_new 2 rfl (by decide) (by decide) (by omega)).trans h2
          clear hp hlv hN
          unfold Roll.Goes
          simp only [Lof7, List.getD_cons_zero, List.getD_cons_succ]
          generalize Roll.putD Dof7 vs [2] b0 = a1 at *
          refine Roll.goes_val (w' := p) (.bool false) rfl ?_ ⟨hI, Below.refl _ _, rfl⟩
          (have ec : ∀ x, a1.eval (.const x) = x := fun _ => rfl); (have ef : ∀ x, a1.eval (.func x) = .func (.func x) #[] #[] := fun _ => rfl); generalize a1.eval = ρ at *
          clear h2
          go_simp <;> (intros; first | (exfalso; omega) | rfl | omega)
        · intro vs p hI hp
          have h3 : (vs 3) = .bool false := hp 3 (by simp [Lof7])
          have e6 : (Roll.putD Dof7 vs [3] b0).eval (.tmp 6) = .int .i64 er := (Roll.eval_old rfl).trans (hlv.at 3 (6, .int .i64 er) rfl)
          clear hp hlv hN
          refine ⟨fun hg => ?_, fun hg => absurd h3 hg⟩
          clear hg
          unfold Roll.Goes
          simp only [Lof7, List.getD_cons_zero, List.getD_cons_succ]
          generalize Roll.putD Dof7 vs [3] b0 = a1 at *
          refine Roll.goes_val (w' := p) (.int .i64 er) rfl ?_ ⟨hI, Below.refl _ _, rfl⟩
          (have ec : ∀ x, a1.eval (.const x) = x := fun _ => rfl); (have ef : ∀ x, a1.eval (.func x) = .func (.func x) #[] #[] := fun _ => rfl); generalize a1.eval = ρ at *
          clear h3
          go_simp <;> (intros; first | (exfalso; omega) | rfl | omega)
        · intro vs p hI hp
          have h3 : (vs 3) = .bool false := hp 3 (by simp [Lof7])
          have e8 : (Roll.putD Dof7 vs [3] b0).eval (.tmp 8) = .int .i64 er := (Roll.eval_old rfl).trans (hlv.at 5 (8, .int .i64 er) rfl)
          clear hp hlv hN
          refine ⟨fun hg => ?_, fun hg => absurd h3 hg⟩
          clear hg
          unfold Roll.Goes
          simp only [Lof7, List.getD_cons_zero, List.getD_cons_succ]
          generalize Roll.putD Dof7 vs [3] b0 = a1 at *
          refine Roll.goes_val (w' := p) (.int .i64 er) rfl ?_ ⟨hI, Below.refl _ _, rfl⟩
          (have ec : ∀ x, a1.eval (.const x) = x := fun _ => rfl); (have ef : ∀ x, a1.eval (.func x) = .func (.func x) #[] #[] := fun _ => rfl); generalize a1.eval = ρ at *
          clear h3
          go_simp <;> (intros; first | (exfalso; omega) | rfl | omega)
        · intro vs p hI hp
          have h4 : (vs 4) = .int .i64 er := hp 4 (by simp [Lof7])
          have h5 : (vs 5) = .int .i64 er := hp 5 (by simp [Lof7])
          have h3 : (vs 3) = .bool false := hp 3 (by simp [Lof7])
          have e39 : (Roll.putD Dof7 vs [4, 5, 3] b0).eval (.tmp 39) = .int .i64 er := (Roll.eval_new 4 rfl (by decide) (by decide) (by omega)).trans h4
          have e40 : (Roll.putD Dof7 vs [4, 5, 3] b0).eval (.tmp 40) = .int .i64 er := (Roll.eval_new 5 rfl (by decide) (by decide) (by omega)).trans h5
          clear hp hlv hN
          refine ⟨fun hg => ?_, fun hg => absurd h3 hg⟩
          clear hg
          unfold Roll.Goes
          simp only [Lof7, List.getD_cons_zero, List.getD_cons_succ]
          generalize Roll.putD Dof7 vs [4, 5, 3] b0 = a1 at *
          refine Roll.goes_val (w' := p) (.bool false) rfl ?_ ⟨hI, Below.refl _ _, rfl⟩
          (have ec : ∀ x, a1.eval (.const x) = x := fun _ => rfl); (have ef : ∀ x, a1.eval (.func x) = .func (.func x) #[] #[] := fun _ => rfl); generalize a1.eval = ρ at *
          clear h4 h5 h3
          go_simp <;> (intros; first | (exfalso; omega) | rfl | omega)
        · intro vs p hI hp
          have h3 : (vs 3) = .bool false := hp 3 (by simp [Lof7])
          have h6 : (vs 6) = .bool false := hp 6 (by simp [Lof7])
          have e38 : (Roll.putD Dof7 vs [3, 6] b0).eval (.tmp 38) = .bool false := (Roll.eval_new 3 rfl (by decide) (by decide) (by omega)).trans h3
          have e41 : (Roll.putD Dof7 vs [3, 6] b0).eval (.tmp 41) = .bool false := (Roll.eval_new 6 rfl (by decide) (by decide) (by omega)).trans h6
          clear hp hlv hN
          unfold Roll.Goes
          simp only [Lof7, List.getD_cons_zero, List.getD_cons_succ]
          generalize Roll.putD Dof7 vs [3, 6] b0 = a1 at *
          refine Roll.goes_val (w' := p) (.bool false) rfl ?_ ⟨hI, Below.refl _ _, rfl⟩
          (have ec : ∀ x, a1.eval (.const x) = x := fun _ => rfl); (have ef : ∀ x, a1.eval (.func x) = .func (.func x) #[] #[] := fun _ => rfl); generalize a1.eval = ρ at *
          clear h3 h6
          go_simp <;> (intros; first | (exfalso; omega) | rfl | omega)
        · intro vs p hI hp
          have h7 : (vs 7) = .bool false := hp 7 (by simp [Lof7])
          have e42 : (Roll.putD Dof7 vs [7] b0).eval (.tmp 42) = .bool false := (Roll.eval_new 7 rfl (by decide) (by decide) (by omega)).trans h7
          clear hp hlv hN
          unfold Roll.Goes
          simp only [Lof7, List.getD_cons_zero, List.getD_cons_succ]
          generalize Roll.putD Dof7 vs [7] b0 = a1 at *
          refine Roll.goes_val (w' := p) (.bool false) rfl ?_ ⟨hI, Below.refl _ _, rfl⟩
          (have ec : ∀ x, a1.eval (.const x) = x := fun _ => rfl); (have ef : ∀ x, a1.eval (.func x) = .func (.func x) #[] #[] := fun _ => rfl); generalize a1.eval = ρ at *
          clear h7
          go_simp <;> (intros; first | (exfalso; omega) | rfl | omega)
        · intro vs p hI hp
          have h8 : (vs 8) = .bool false := hp 8 (by simp [Lof7])
          have e3 : (Roll.putD Dof7 vs [8] b0).eval (.tmp 3) = .slice (some ⟨gs, 0, none⟩) 3 3 := (Roll.eval_old rfl).trans (hlv.at 0 (3, .slice (some ⟨gs, 0, none⟩) 3 3) rfl)
          clear hp hlv hN
          refine ⟨fun hg => ?_, fun hg => absurd h8 hg⟩
          clear hg
          unfold Roll.Goes
          simp only [Lof7, List.getD_cons_zero, List.getD_cons_succ]
          generalize Roll.putD Dof7 vs [8] b0 = a1 at *
          refine Roll.goes_val (w' := p) (.slice (some ⟨gs, 0, none⟩) 3 3) rfl ?_ ⟨hI, Below.refl _ _, rfl⟩
          (have ec : ∀ x, a1.eval (.const x) = x := fun _ => rfl); (have ef : ∀ x, a1.eval (.func x) = .func (.func x) #[] #[] := fun _ => rfl); generalize a1.eval = ρ at *
          clear h8
          go_simp <;> (intros; first | (exfalso; omega) | rfl | omega)
        · intro vs p hI hp
          have h8 : (vs 8) = .bool false := hp 8 (by simp [Lof7])
          have e4 : (Roll.putD Dof7 vs [8] b0).eval (.tmp 4) = .int .i64 (i : Int) := (Roll.eval_old rfl).trans (hlv.at 1 (4, .int .i64 (i : Int)) rfl)
          clear hp hlv hN
          refine ⟨fun hg => ?_, fun hg => absurd h8 hg⟩
          clear hg
          unfold Roll.Goes
          simp only [Lof7, List.getD_cons_zero, List.getD_cons_succ]
          generalize Roll.putD Dof7 vs [8] b0 = a1 at *
          refine Roll.goes_val (w' := p) (.int .i64 (i : Int)) rfl ?_ ⟨hI, Below.refl _ _, rfl⟩
          (have ec : ∀ x, a1.eval (.const x) = x := fun _ => rfl); (have ef : ∀ x, a1.eval (.func x) = .func (.func x) #[] #[] := fun _ => rfl); generalize a1.eval = ρ at *
          clear h8
          go_simp <;> (intros; first | (exfalso; omega) | rfl | omega)
        · intro vs p hI hp
          have h9 : (vs 9) = .slice (some ⟨gs, 0, none⟩) 3 3 := hp 9 (by simp [Lof7])
          have h10 : (vs 10) = .int .i64 (i : Int) := hp 10 (by simp [Lof7])
          have h8 : (vs 8) = .bool false := hp 8 (by simp [Lof7])
          have e44 : (Roll.putD Dof7 vs [9, 10, 8] b0).eval (.tmp 44) = .slice (some ⟨gs, 0, none⟩) 3 3 := (Roll.eval_new 9 rfl (by decide) (by decide) (by omega)).trans h9
          have e45 : (Roll.putD Dof7 vs [9, 10, 8] b0).eval (.tmp 45) = .int .i64 (i : Int) := (Roll.eval_new 10 rfl (by decide) (by decide) (by omega)).trans h10
          clear hp hlv hN
          refine ⟨fun hg => ?_, fun hg => absurd h8 hg⟩
          clear hg
          unfold Roll.Goes
          simp only [Lof7, List.getD_cons_zero, List.getD_cons_succ]
          generalize Roll.putD Dof7 vs [9, 10, 8] b0 = a1 at *
          have f0 := HIX.out
          refine Roll.goes_val (w' := p) (.pointer (some ⟨gs, i, none⟩)) rfl ?_ ⟨hI, Below.refl _ _, rfl⟩
          (have ec : ∀ x, a1.eval (.const x) = x := fun _ => rfl); (have ef : ∀ x, a1.eval (.func x) = .func (.func x) #[] #[] := fun _ => rfl); generalize a1.eval = ρ at *
          clear h9 h10 h8
          go_simp <;> (intros; first | (exfalso; omega) | rfl | omega)
        · intro vs p hI hp
          have h11 : (vs 11) = .pointer (some ⟨gs, i, none⟩) := hp 11 (by simp [Lof7])
          have h8 : (vs 8) = .bool false := hp 8 (by simp [Lof7])
          have e46 : (Roll.putD Dof7 vs [11, 8] b0).eval (.tmp 46) = .pointer (some ⟨gs, i, none⟩) := (Roll.eval_new 11 rfl (by decide) (by decide) (by omega)).trans h11
          clear hp hlv hN
          refine ⟨fun hg => ?_, fun hg => absurd h8 hg⟩
          clear hg
          unfold Roll.Goes
          simp only [Lof7, List.getD_cons_zero, List.getD_cons_succ]
          generalize Roll.putD Dof7 vs [11, 8] b0 = a1 at *
          have cf : p.cell? ⟨gs, i, none⟩ = some (.int .i64 a) := (hI.cell (p := ⟨gs, i, none⟩) HLS3.out).trans CS3.out
          refine Roll.goes_val (w' := p) (.int .i64 a) rfl ?_ ⟨hI, Below.refl _ _, rfl⟩
          (have ec : ∀ x, a1.eval (.const x) = x := fun _ => rfl); (have ef : ∀ x, a1.eval (.func x) = .func (.func x) #[] #[] := fun _ => rfl); generalize a1.eval = ρ at *
          clear h11 h8
          go_simp <;> (intros; first | (exfalso; omega) | rfl | omega)
        · intro vs p hI hp
          have h12 : (vs 12) = .int .i64 a := hp 12 (by simp [Lof7])
          have h8 : (vs 8) = .bool false := hp 8 (by simp [Lof7])
          have e47 : (Roll.putD Dof7 vs [12, 8] b0).eval (.tmp 47) = .int .i64 a := (Roll.eval_new 12 rfl (by decide) (by decide) (by omega)).trans h12
          clear hp hlv hN
          refine ⟨fun hg => ?_, fun hg => absurd h8 hg⟩
          clear hg
          unfold Roll.Goes
          simp only [Lof7, List.getD_cons_zero, List.getD_cons_succ]
          generalize Roll.putD Dof7 vs [12, 8] b0 = a1 at *
          refine Roll.goes_call 24 #[.int .i64 a] p rfl (by have ec : ∀ x, a1.eval (.const x) = x := fun _ => rfl; have ef : ∀ x, a1.eval (.func x) = .func (.func x) #[] #[] := fun _ => rfl; generalize a1.eval = ρ at *; go_simp) ?_
          refine (HP1.out p (HT3.out.below hI)).mono ?_
          rintro z p2 ⟨rfl, hb⟩
          exact ⟨_, rfl, hI.trans (hb.mono hI.size), hb, rfl⟩
        · intro vs p hI hp
          have h8 : (vs 8) = .bool false := hp 8 (by simp [Lof7])
          have e3 : (Roll.putD Dof7 vs [8] b0).eval (.tmp 3) = .slice (some ⟨gs, 0, none⟩) 3 3 := (Roll.eval_old rfl).trans (hlv.at 0 (3, .slice (some ⟨gs, 0, none⟩) 3 3) rfl)
          clear hp hlv hN
          refine ⟨fun hg => ?_, fun hg => absurd h8 hg⟩
          clear hg
          unfold Roll.Goes
          simp only [Lof7, List.getD_cons_zero, List.getD_cons_succ]
          generalize Roll.putD Dof7 vs [8] b0 = a1 at *
          refine Roll.goes_val (w' := p) (.slice (some ⟨gs, 0, none⟩) 3 3) rfl ?_ ⟨hI, Below.refl _ _, rfl⟩
          (have ec : ∀ x, a1.eval (.const x) = x := fun _ => rfl); (have ef : ∀ x, a1.eval (.func x) = .func (.func x) #[] #[] := fun _ => rfl); generalize a1.eval = ρ at *
          clear h8
          go_simp <;> (intros; first | (exfalso; omega) | rfl | omega)
        · intro vs p hI hp
          have h8 : (vs 8) = .bool false := hp 8 (by simp [Lof7])
          have e4 : (Roll.putD Dof7 vs [8] b0).eval (.tmp 4) = .int .i64 (i : Int) := (Roll.eval_old rfl).trans (hlv.at 1 (4, .int .i64 (i : Int)) rfl)
          clear hp hlv hN
          refine ⟨fun hg => ?_, fun hg => absurd h8 hg⟩
          clear hg
          unfold Roll.Goes
          simp only [Lof7, List.getD_cons_zero, List.getD_cons_succ]
          generalize Roll.putD Dof7 vs [8] b0 = a1 at *
          refine Roll.goes_val (w' := p) (.int .i64 (i : Int)) rfl ?_ ⟨hI, Below.refl _ _, rfl⟩
          (have ec : ∀ x, a1.eval (.const x) = x := fun _ => rfl); (have ef : ∀ x, a1.eval (.func x) = .func (.func x) #[] #[] := fun _ => rfl); generalize a1.eval = ρ at *
          clear h8
          go_simp <;> (intros; first | (exfalso; omega) | rfl | omega)
        · intro vs p hI hp
          have h14 : (vs 14) = .slice (some ⟨gs, 0, none⟩) 3 3 := hp 14 (by simp [Lof7])
          have h15 : (vs 15) = .int .i64 (i : Int) := hp 15 (by simp [Lof7])
          have h8 : (vs 8) = .bool false := hp 8 (by simp [Lof7])
          have e49 : (Roll.putD Dof7 vs [14, 15, 8] b0).eval (.tmp 49) = .slice (some ⟨gs, 0, none⟩) 3 3 := (Roll.eval_new 14 rfl (by decide) (by decide) (by omega)).trans h14
          have e50 : (Roll.putD Dof7 vs [14, 15, 8] b0).eval (.tmp 50) = .int .i64 (i : Int) := (Roll.eval_new 15 rfl (by decide) (by decide) (by omega)).trans h15
          clear hp hlv hN
          refine ⟨fun hg => ?_, fun hg => absurd h8 hg⟩
          clear hg
          unfold Roll.Goes
          simp only [Lof7, List.getD_cons_zero, List.getD_cons_succ]
          generalize Roll.putD Dof7 vs [14, 15, 8] b0 = a1 at *
          have f0 := HIX.out
          refine Roll.goes_val (w' := p) (.pointer (some ⟨gs, i, none⟩)) rfl ?_ ⟨hI, Below.refl _ _, rfl⟩
          (have ec : ∀ x, a1.eval (.const x) = x := fun _ => rfl); (have ef : ∀ x, a1.eval (.func x) = .func (.func x) #[] #[] := fun _ => rfl); generalize a1.eval = ρ at *
          clear h14 h15 h8
          go_simp <;> (intros; first | (exfalso; omega) | rfl | omega)
        · intro vs p hI hp
          have h16 : (vs 16) = .pointer (some ⟨gs, i, none⟩) := hp 16 (by simp [Lof7])
          have h8 : (vs 8) = .bool false := hp 8 (by simp [Lof7])
          have e51 : (Roll.putD Dof7 vs [16, 8] b0).eval (.tmp 51) = .pointer (some ⟨gs, i, none⟩) := (Roll.eval_new 16 rfl (by decide) (by decide) (by omega)).trans h16
          clear hp hlv hN
          refine ⟨fun hg => ?_, fun hg => absurd h8 hg⟩
          clear hg
          unfold Roll.Goes
          simp only [Lof7, List.getD_cons_zero, List.getD_cons_succ]
          generalize Roll.putD Dof7 vs [16, 8] b0 = a1 at *
          have cf : p.cell? ⟨gs, i, none⟩ = some (.int .i64 a) := (hI.cell (p := ⟨gs, i, none⟩) HLS3.out).trans CS3.out
          refine Roll.goes_val (w' := p) (.int .i64 a) rfl ?_ ⟨hI, Below.refl _ _, rfl⟩
          (have ec : ∀ x, a1.eval (.const x) = x := fun _ => rfl); (have ef : ∀ x, a1.eval (.func x) = .func (.func x) #[] #[] := fun _ => rfl); generalize a1.eval = ρ at *
          clear h16 h8
          go_simp <;> (intros; first | (exfalso; omega) | rfl | omega)
        · intro vs p hI hp
          have h17 : (vs 17) = .int .i64 a := hp 17 (by simp [Lof7])
          have h8 : (vs 8) = .bool false := hp 8 (by simp [Lof7])
          have e52 : (Roll.putD Dof7 vs [17, 8] b0).eval (.tmp 52) = .int .i64 a := (Roll.eval_new 17 rfl (by decide) (by decide) (by omega)).trans h17
          clear hp hlv hN
          refine ⟨fun hg => ?_, fun hg => absurd h8 hg⟩
          clear hg
          unfold Roll.Goes
          simp only [Lof7, List.getD_cons_zero, List.getD_cons_succ]
          generalize Roll.putD Dof7 vs [17, 8] b0 = a1 at *
          refine Roll.goes_call 25 #[.int .i64 a] p rfl (by have ec : ∀ x, a1.eval (.const x) = x := fun _ => rfl; have ef : ∀ x, a1.eval (.func x) = .func (.func x) #[] #[] := fun _ => rfl; generalize a1.eval = ρ at *; go_simp) ?_
          refine (HP2.out p (HT3.out.below hI)).mono ?_
          rintro z p2 ⟨rfl, hb⟩
          exact ⟨_, rfl, hI.trans (hb.mono hI.size), hb, rfl⟩
        · intro vs p hI hp
          have h13 : (vs 13) = .string s := hp 13 (by simp [Lof7])
          have h18 : (vs 18) = .string s := hp 18 (by simp [Lof7])
          have h8 : (vs 8) = .bool false := hp 8 (by simp [Lof7])
          have e48 : (Roll.putD Dof7 vs [13, 18, 8] b0).eval (.tmp 48) = .string s := (Roll.eval_new 13 rfl (by decide) (by decide) (by omega)).trans h13
          have e53 : (Roll.putD Dof7 vs [13, 18, 8] b0).eval (.tmp 53) = .string s := (Roll.eval_new 18 rfl (by decide) (by decide) (by omega)).trans h18
          clear hp hlv hN
          refine ⟨fun hg => ?_, fun hg => absurd h8 hg⟩
          clear hg
          unfold Roll.Goes
          simp only [Lof7, List.getD_cons_zero, List.getD_cons_succ]
          generalize Roll.putD Dof7 vs [13, 18, 8] b0 = a1 at *
          refine Roll.goes_val (w' := p) (.bool false) rfl ?_ ⟨hI, Below.refl _ _, rfl⟩
          (have ec : ∀ x, a1.eval (.const x) = x := fun _ => rfl); (have ef : ∀ x, a1.eval (.func x) = .func (.func x) #[] #[] := fun _ => rfl); generalize a1.eval = ρ at *
          clear h13 h18 h8
          go_simp <;> (intros; first | (exfalso; omega) | rfl | omega)
        · intro vs p hI hp
          have h8 : (vs 8) = .bool false := hp 8 (by simp [Lof7])
          have h19 : (vs 19) = .bool false := hp 19 (by simp [Lof7])
          have e43 : (Roll.putD Dof7 vs [8, 19] b0).eval (.tmp 43) = .bool false := (Roll.eval_new 8 rfl (by decide) (by decide) (by omega)).trans h8
          have e54 : (Roll.putD Dof7 vs [8, 19] b0).eval (.tmp 54) = .bool false := (Roll.eval_new 19 rfl (by decide) (by decide) (by omega)).trans h19
          clear hp hlv hN
          unfold Roll.Goes
          simp only [Lof7, List.getD_cons_zero, List.getD_cons_succ]
          generalize Roll.putD Dof7 vs [8, 19] b0 = a1 at *
          refine Roll.goes_val (w' := p) (.bool false) rfl ?_ ⟨hI, Below.refl _ _, rfl⟩
          (have ec : ∀ x, a1.eval (.const x) = x := fun _ => rfl); (have ef : ∀ x, a1.eval (.func x) = .func (.func x) #[] #[] := fun _ => rfl); generalize a1.eval = ρ at *
          clear h8 h19
          go_simp <;> (intros; first | (exfalso; omega) | rfl | omega)
      · intro vs p hI hR
        have h0 : (vs 0) = .agg #[.int .i64 Y, .int .i64 M, .int .i64 D] := hR 0 (by omega)
        have h1 : (vs 1) = .agg #[.int .i64 Y, .int .i64 M, .int .i64 D] := hR 1 (by omega)
        have h2 : (vs 2) = .bool false := hR 2 (by omega)
        have h3 : (vs 3) = .bool false := hR 3 (by omega)
        have h4 : (vs 4) = .int .i64 er := hR 4 (by omega)
        have h5 : (vs 5) = .int .i64 er := hR 5 (by omega)
        have h6 : (vs 6) = .bool false := hR 6 (by omega)
        have h7 : (vs 7) = .bool false := hR 7 (by omega)
        have h8 : (vs 8) = .bool false := hR 8 (by omega)
        have h9 : (vs 9) = .slice (some ⟨gs, 0, none⟩) 3 3 := hR 9 (by omega)
        have h10 : (vs 10) = .int .i64 (i : Int) := hR 10 (by omega)
        have h11 : (vs 11) = .pointer (some ⟨gs, i, none⟩) := hR 11 (by omega)
        have h12 : (vs 12) = .int .i64 a := hR 12 (by omega)
        have h13 : (vs 13) = .string s := hR 13 (by omega)
        have h14 : (vs 14) = .slice (some ⟨gs, 0, none⟩) 3 3 := hR 14 (by omega)
        have h15 : (vs 15) = .int .i64 (i : Int) := hR 15 (by omega)
        have h16 : (vs 16) = .pointer (some ⟨gs, i, none⟩) := hR 16 (by omega)
        have h17 : (vs 17) = .int .i64 a := hR 17 (by omega)
        have h18 : (vs 18) = .string s := hR 18 (by omega)
        have h19 : (vs 19) = .bool false := hR 19 (by omega)
        have h20 : (vs 20) = .bool false := hR 20 (by omega)
        clear hR
        simp only [List.range_succ, List.range_zero, List.nil_append, List.cons_append, Roll.putD, Act.put, List.getD_cons_zero, List.getD_cons_succ, List.setIfInBounds_toArray, List.set_cons_zero, List.set_cons_succ, List.drop_succ_cons, List.drop_zero, Dof7]
        simp only [h0, h1, h2, h3, h4, h5, h6, h7, h8, h9, h10, h11, h12, h13, h14, h15, h16, h17, h18, h19, h20]
        clear h0 h1 h2 h3 h4 h5 h6 h7 h8 h9 h10 h11 h12 h13 h14 h15 h16 h17 h18 h19 h20
        have HI2 := Lib.hid hI
        clear hI
        go_wp2_with fail
        go_roundw
        case rel => exact ⟨i + 1, by omega, by go_num, HT3.out.below HI2.out, HB3.out.trans (HI2.out.mono HB3.out.size)⟩
        case measure => simp only [intOf]; omega
    · obtain rfl : i = 3 := by omega
      go_wp2_with (go_at_call 19; refine (lives_any _ HTP.out).mono ?_; rintro e wl ⟨rfl, hb⟩; have HBL := Lib.hid ((HB1.out.trans (HBP.out.mono HB1.out.size)).trans (hb.mono (Nat.le_trans HB1.out.size HBP.out.size))); clear hb)
      go_ret
      exact ⟨rfl, HBL.out⟩
end Go.Proofs.YtcoijmggfkjcjaaDoor

/-
  The law DateDays (written by gen_IV.py).
-/
import Derived.Test.YtcoijmggfkjcjaaDoorIP
namespace Go.Proofs.YtcoijmggfkjcjaaDoor
open Go.RowKit
set_option linter.unusedSimpArgs false
set_option linter.unusedVariables false
attribute [local go_sem ↓] exec_storeDate
attribute [local go_sem] run_storeDate
def Ddd1 : List (Option Tmp) := [some 10, some 11, some 12, some 13, some 14, some 15, some 16, some 17, some 18, some 19, some 20, some 21, some 22, some 3, none]
def Ldd1 : List (List Nat) := [[], [0], [1], [2], [], [4], [5], [6], [], [8], [9], [10], [3, 7, 11], [], [13, 12]]
set_option maxRecDepth 100000 in
set_option maxHeartbeats 8000000 in
theorem days_law (A B C : Int) (w0 : World) (hT : Tabs w0) (a1 : -9223372036854775808 ≤ A) (a2 : A ≤ 9223372036854775807) (b1 : -9223372036854775808 ≤ B) (b2 : B ≤ 9223372036854775807) (c1 : -9223372036854775808 ≤ C) (c2 : C ≤ 9223372036854775807) : Calls Tryd.prog 3 #[.agg #[.int .i64 A, .int .i64 B, .int .i64 C]] w0 fun e w' => e = .returned (.bool true) ∧ Below w0.heap.size w0 w' := by
  have bA := aroundD_bd A 10003 (by omega)
  have bB := aroundD_bd B 15 (by omega)
  have bC := aroundD_bd C 35 (by omega)
  have HA1 : Hid (∀ u, Calls Tryd.prog 15 #[.int .i64 A, .int .i64 10003] u fun e w' => e = .returned (.int .i64 (aroundD A 10003)) ∧ w' = u) := Lib.hid (fun u => (aroundD_any A 10003 u a1 a2 (by omega) (by omega)).mono fun e w' h => ⟨h.1, h.2.symm⟩)
  have HA2 : Hid (∀ u, Calls Tryd.prog 15 #[.int .i64 B, .int .i64 15] u fun e w' => e = .returned (.int .i64 (aroundD B 15)) ∧ w' = u) := Lib.hid (fun u => (aroundD_any B 15 u b1 b2 (by omega) (by omega)).mono fun e w' h => ⟨h.1, h.2.symm⟩)
  have HA3 : Hid (∀ u, Calls Tryd.prog 15 #[.int .i64 C, .int .i64 35] u fun e w' => e = .returned (.int .i64 (aroundD C 35)) ∧ w' = u) := Lib.hid (fun u => (aroundD_any C 35 u c1 c2 (by omega) (by omega)).mono fun e w' h => ⟨h.1, h.2.symm⟩)
  obtain ⟨x, hx⟩ : ∃ x, x = aroundD A 10003 := ⟨_, rfl⟩
  obtain ⟨z, hz⟩ : ∃ z, z = aroundD B 15 := ⟨_, rfl⟩
  obtain ⟨v, hv⟩ : ∃ v, v = aroundD C 35 := ⟨_, rfl⟩
  rw [← hx] at HA1 bA
  rw [← hz] at HA2 bB
  rw [← hv] at HA3 bC
  obtain ⟨y, hy⟩ : ∃ y, y = x - 1 := ⟨_, rfl⟩
  obtain ⟨m, hm⟩ : ∃ m, m = z - 1 := ⟨_, rfl⟩
  obtain ⟨d, hd⟩ : ∃ d, d = v - 1 := ⟨_, rfl⟩
  have I1 : Hid (IntKind.i64.wrap (x - 1) = y) := Lib.hid (by rw [hy]; exact i64_id _ (by omega) (by omega))
  have I2 : Hid (IntKind.i64.wrap (z - 1) = m) := Lib.hid (by rw [hm]; exact i64_id _ (by omega) (by omega))
  have I3 : Hid (IntKind.i64.wrap (v - 1) = d) := Lib.hid (by rw [hd]; exact i64_id _ (by omega) (by omega))
  have HTP := Lib.hid hT
  have HBP : Hid (Below w0.heap.size w0 w0) := Lib.hid (Below.refl _ _)
  clear hT hx hz hv hy hm hd bA bB bC a1 a2 b1 b2 c1 c2
  go_enter Tryd.func3, Tryd.ntmps3
  go_upto_region 1 with fail
  obtain ⟨w1, hw⟩ : ∃ w1, w1 = w0.alloc (.cells #[.int .i64 A, .int .i64 B, .int .i64 C] 23) := ⟨_, rfl⟩
  obtain ⟨g1, hg⟩ : ∃ g1, g1 = w0.heap.size := ⟨_, rfl⟩
  have hrow : w1.heap[g1]? = some (.cells #[.int .i64 A, .int .i64 B, .int .i64 C] 23 (0, 0)) := by rw [hw, hg]; exact heap_new0
  have hb : Below w0.heap.size w0 w1 := by rw [hw]; exact (Below.refl _ _).alloc (Nat.le_refl _) _
  have HR_g1 := Lib.hid hrow
  have HTN := Tab_stepD HTP hb
  have HBN := Bel_stepD HBP hb
  clear HTP HBP
  have HTP := HTN
  have HBP := HBN
  clear HTN HBN
  rw [← hw]
  rw [← hg]
  clear hw hg hrow hb
  have c_g1_0 : w1.cell? ⟨g1, 0, none⟩ = some (.int .i64 A) := cell_of_row w1 g1 0 _ _ _ HR_g1.out
  have c_g1_1 : w1.cell? ⟨g1, 1, none⟩ = some (.int .i64 B) := cell_of_row w1 g1 1 _ _ _ HR_g1.out
  have c_g1_2 : w1.cell? ⟨g1, 2, none⟩ = some (.int .i64 C) := cell_of_row w1 g1 2 _ _ _ HR_g1.out
  have CR0 := Lib.hid c_g1_0
  have CR1 := Lib.hid c_g1_1
  have CR2 := Lib.hid c_g1_2
  have HGL := Lib.hid (heap_lt HR_g1.out)
  clear c_g1_0 c_g1_1 c_g1_2
  refine Roll.region_f 14 64 Ddd1 Ldd1 [(1, .pointer (some ⟨g1, 0, none⟩))] (fun p => Below w1.heap.size w1 p) (fun p p2 => Below p.heap.size p p2) [fun vv p => vv = .pointer (some ⟨g1, 0, none⟩), fun vv p => vv = .int .i64 A, fun vv p => vv = .int .i64 x, fun vv p => vv = .int .i64 y, fun vv p => vv = .pointer (some ⟨g1, 1, none⟩), fun vv p => vv = .int .i64 B, fun vv p => vv = .int .i64 z, fun vv p => vv = .int .i64 m, fun vv p => vv = .pointer (some ⟨g1, 2, none⟩), fun vv p => vv = .int .i64 C, fun vv p => vv = .int .i64 v, fun vv p => vv = .int .i64 d, fun vv p => vv = .agg #[.int .i64 y, .int .i64 m, .int .i64 d], fun vv p => ∃ r, vv = .pointer (some ⟨r, 0, none⟩) ∧ w1.heap.size ≤ r ∧ p.heap[r]? = some (.cells #[.int .i64 0, .int .i64 0, .int .i64 0] 23 (0, 0))] (by kernel_rfl) (by kernel_rfl) rfl ⟨rfl, trivial⟩ ((Below.refl _ _).drew) ?_ ?_ ?_
  · exact ⟨fun _ _ _ _ h => h, fun _ _ _ _ h => h, fun _ _ _ _ h => h, fun _ _ _ _ h => h, fun _ _ _ _ h => h, fun _ _ _ _ h => h, fun _ _ _ _ h => h, fun _ _ _ _ h => h, fun _ _ _ _ h => h, fun _ _ _ _ h => h, fun _ _ _ _ h => h, fun _ _ _ _ h => h, fun _ _ _ _ h => h, fun _ _ _ hs h => by obtain ⟨r, e1, e2, e3⟩ := h; exact ⟨r, e1, e2, (Kept.of_below (fun _ => False) hs).heap e3 (fun h => h)⟩, trivial⟩
  · intro b0 hN hlv
    refine ⟨?_, ?_, ?_, ?_, ?_, ?_, ?_, ?_, ?_, ?_, ?_, ?_, ?_, ?_, trivial⟩
    · intro vs p hI hp
      have e1 : (Roll.putD Ddd1 vs [] b0).eval (.tmp 1) = .pointer (some ⟨g1, 0, none⟩) := (Roll.eval_old rfl).trans (hlv.at 0 (1, .pointer (some ⟨g1, 0, none⟩)) rfl)
      clear hp hlv hN
      unfold Roll.Goes
      simp only [Ldd1, List.getD_cons_zero, List.getD_cons_succ]
      generalize Roll.putD Ddd1 vs [] b0 = a1 at *
      refine Roll.goes_val (w' := p) (.pointer (some ⟨g1, 0, none⟩)) rfl ?_ ⟨hI, Below.refl _ _, rfl⟩
      (have ec : ∀ x, a1.eval (.const x) = x := fun _ => rfl); (have ef : ∀ x, a1.eval (.func x) = .func (.func x) #[] #[] := fun _ => rfl); generalize a1.eval = ρ at *
      skip
      go_simp <;> (intros; first | (exfalso; omega) | rfl | omega)
    · intro vs p hI hp
      have h0 : (vs 0) = .pointer (some ⟨g1, 0, none⟩) := hp 0 (by simp [Ldd1])
      have e10 : (Roll.putD Ddd1 vs [0] b0).eval (.tmp 10) = .pointer (some ⟨g1, 0, none⟩) := (Roll.eval_new 0 rfl (by decide) (by decide) (by omega)).trans h0
      clear hp hlv hN
      unfold Roll.Goes
      simp only [Ldd1, List.getD_cons_zero, List.getD_cons_succ]
      generalize Roll.putD Ddd1 vs [0] b0 = a1 at *
      have cf : p.cell? ⟨g1, 0, none⟩ = some (.int .i64 A) := (hI.cell (p := ⟨g1, 0, none⟩) HGL.out).trans CR0.out
      refine Roll.goes_val (w' := p) (.int .i64 A) rfl ?_ ⟨hI, Below.refl _ _, rfl⟩
      (have ec : ∀ x, a1.eval (.const x) = x := fun _ => rfl); (have ef : ∀ x, a1.eval (.func x) = .func (.func x) #[] #[] := fun _ => rfl); generalize a1.eval = ρ at *
      clear h0
      go_simp <;> (intros; first | (exfalso; omega) | rfl | omega)
    · intro vs p hI hp
      have h1 : (vs 1) = .int .i64 A := hp 1 (by simp [Ldd1])
      have e11 : (Roll.putD Ddd1 vs [1] b0).eval (.tmp 11) = .int .i64 A := (Roll.eval_new 1 rfl (by decide) (by decide) (by omega)).trans h1
      clear hp hlv hN
      unfold Roll.Goes
      simp only [Ldd1, List.getD_cons_zero, List.getD_cons_succ]
      generalize Roll.putD Ddd1 vs [1] b0 = a1 at *
      refine Roll.goes_call 15 #[.int .i64 A, .int .i64 10003] p rfl (by have ec : ∀ x, a1.eval (.const x) = x := fun _ => rfl; have ef : ∀ x, a1.eval (.func x) = .func (.func x) #[] #[] := fun _ => rfl; generalize a1.eval = ρ at *; go_simp) ?_
      refine (HA1.out p).mono ?_
      rintro q p2 ⟨rfl, rfl⟩
      exact ⟨_, rfl, hI, Below.refl _ _, rfl⟩
    · intro vs p hI hp
      have h2 : (vs 2) = .int .i64 x := hp 2 (by simp [Ldd1])
      have e12 : (Roll.putD Ddd1 vs [2] b0).eval (.tmp 12) = .int .i64 x := (Roll.eval_new 2 rfl (by decide) (by decide) (by omega)).trans h2
      clear hp hlv hN
      unfold Roll.Goes
      simp only [Ldd1, List.getD_cons_zero, List.getD_cons_succ]
      generalize Roll.putD Ddd1 vs [2] b0 = a1 at *
      have f0 := I1.out
      refine Roll.goes_val (w' := p) (.int .i64 y) rfl ?_ ⟨hI, Below.refl _ _, rfl⟩
      (have ec : ∀ x, a1.eval (.const x) = x := fun _ => rfl); (have ef : ∀ x, a1.eval (.func x) = .func (.func x) #[] #[] := fun _ => rfl); generalize a1.eval = ρ at *
      clear h2
      go_simp <;> (intros; first | (exfalso; omega) | rfl | omega)
    · intro vs p hI hp
      have e1 : (Roll.putD Ddd1 vs [] b0).eval (.tmp 1) = .pointer (some ⟨g1, 0, none⟩) := (Roll.eval_old rfl).trans (hlv.at 0 (1, .pointer (some ⟨g1, 0, none⟩)) rfl)
      clear hp hlv hN
      unfold Roll.Goes
      simp only [Ldd1, List.getD_cons_zero, List.getD_cons_succ]
      generalize Roll.putD Ddd1 vs [] b0 = a1 at *
      refine Roll.goes_val (w' := p) (.pointer (some ⟨g1, 1, none⟩)) rfl ?_ ⟨hI, Below.refl _ _, rfl⟩
      (have ec : ∀ x, a1.eval (.const x) = x := fun _ => rfl); (have ef : ∀ x, a1.eval (.func x) = .func (.func x) #[] #[] := fun _ => rfl); generalize a1.eval = ρ at *
      skip
      go_simp <;> (intros; first | (exfalso; omega) | rfl | omega)
    · intro vs p hI hp
      have h4 : (vs 4) = .pointer (some ⟨g1, 1, none⟩) := hp 4 (by simp [Ldd1])
      have e14 : (Roll.putD Ddd1 vs [4] b0).eval (.tmp 14) = .pointer (some ⟨g1, 1, none⟩) := (Roll.eval_new 4 rfl (by decide) (by decide) (by omega)).trans h4
      clear hp hlv hN
      unfold Roll.Goes
      simp only [Ldd1, List.getD_cons_zero, List.getD_cons_succ]
      generalize Roll.putD Ddd1 vs [4] b0 = a1 at *
      have cf : p.cell? ⟨g1, 1, none⟩ = some (.int .i64 B) := (hI.cell (p := ⟨g1, 1, none⟩) HGL.out).trans CR1.out
      refine Roll.goes_val (w' := p) (.int .i64 B) rfl ?_ ⟨hI, Below.refl _ _, rfl⟩
      (have ec : ∀ x, a1.eval (.const x) = x := fun _ => rfl); (have ef : ∀ x, a1.eval (.func x) = .func (.func x) #[] #[] := fun _ => rfl); generalize a1.eval = ρ at *
      clear h4
      go_simp <;> (intros; first | (exfalso; omega) | rfl | omega)
    · intro vs p hI hp
      have h5 : (vs 5) = .int .i64 B := hp 5 (by simp [Ldd1])
      have e15 : (Roll.putD Ddd1 vs [5] b0).eval (.tmp 15) = .int .i64 B := (Roll.eval_new 5 rfl (by decide) (by decide) (by omega)).trans h5
      clear hp hlv hN
      unfold Roll.Goes
      simp only [Ldd1, List.getD_cons_zero, List.getD_cons_succ]
      generalize Roll.putD Ddd1 vs [5] b0 = a1 at *
      refine Roll.goes_call 15 #[.int .i64 B, .int .i64 15] p rfl (by have ec : ∀ x, a1.eval (.const x) = x := fun _ => rfl; have ef : ∀ x, a1.eval (.func x) = .func (.func x) #[] #[] := fun _ => rfl; generalize a1.eval = ρ at *; go_simp) ?_
      refine (HA2.out p).mono ?_
      rintro q p2 ⟨rfl, rfl⟩
      exact ⟨_, rfl, hI, Below.refl _ _, rfl⟩
    · intro vs p hI hp
      have h6 : (vs 6) = .int .i64 z := hp 6 (by simp [Ldd1])
      have e16 : (Roll.putD Ddd1 vs [6] b0).eval (.tmp 16) = .int .i64 z := (Roll.eval_new 6 rfl (by decide) (by decide) (by omega)).trans h6
      clear hp hlv hN
      unfold Roll.Goes
      simp only [Ldd1, List.getD_cons_zero, List.getD_cons_succ]
      generalize Roll.putD Ddd1 vs [6] b0 = a1 at *
      have f0 := I2.out
      refine Roll.goes_val (w' := p) (.int .i64 m) rfl ?_ ⟨hI, Below.refl _ _, rfl⟩
      (have ec : ∀ x, a1.eval (.const x) = x := fun _ => rfl); (have ef : ∀ x, a1.eval (.func x) = .func (.func x) #[] #[] := fun _ => rfl); generalize a1.eval = ρ at *
      clear h6
      go_simp <;> (intros; first | (exfalso; omega) | rfl | omega)
    · intro vs p hI hp
      have e1 : (Roll.putD Ddd1 vs [] b0).eval (.tmp 1) = .pointer (some ⟨g1, 0, none⟩) := (Roll.eval_old rfl).trans (hlv.at 0 (1, .pointer (some ⟨g1, 0, none⟩)) rfl)
      clear hp hlv hN
      unfold Roll.Goes
      simp only [Ldd1, List.getD_cons_zero, List.getD_cons_succ]
      generalize Roll.putD Ddd1 vs [] b0 = a1 at *
      refine Roll.goes_val (w' := p) (.pointer (some ⟨g1, 2, none⟩)) rfl ?_ ⟨hI, Below.refl _ _, rfl⟩
      (have ec : ∀ x, a1.eval (.const x) = x := fun _ => rfl); (have ef : ∀ x, a1.eval (.func x) = .func (.func x) #[] #[] := fun _ => rfl); generalize a1.eval = ρ at *
      skip
      go_simp <;> (intros; first | (exfalso; omega) | rfl | omega)
    · intro vs p hI hp
      have h8 : (vs 8) = .pointer (some ⟨g1, 2, none⟩) := hp 8 (by simp [Ldd1])
      have e18 : (Roll.putD Ddd1 vs [8] b0).eval (.tmp 18) = .pointer (some ⟨g1, 2, none⟩) := (Roll.eval_new 8 rfl (by decide) (by decide) (by omega)).trans h8
      clear hp hlv hN
      unfold Roll.Goes
      simp only [Ldd1, List.getD_cons_zero, List.getD_cons_succ]
      generalize Roll.putD Ddd1 vs [8] b0 = a1 at *
      have cf : p.cell? ⟨g1, 2, none⟩ = some (.int .i64 C) := (hI.cell (p := ⟨g1, 2, none⟩) HGL.out).trans CR2.out
      refine Roll.goes_val (w' := p) (.int .i64 C) rfl ?_ ⟨hI, Below.refl _ _, rfl⟩
      (have ec : ∀ x, a1.eval (.const x) = x := fun _ => rfl); (have ef : ∀ x, a1.eval (.func x) = .func (.func x) #[] #[] := fun _ => rfl); generalize a1.eval = ρ at *
      clear h8
      go_simp <;> (intros; first | (exfalso; omega) | rfl | omega)
    · intro vs p hI hp
      have h9 : (vs 9) = .int .i64 C := hp 9 (by simp [Ldd1])
      have e19 : (Roll.putD Ddd1 vs [9] b0).eval (.tmp 19) = .int .i64 C := (Roll.eval_new 9 rfl (by decide) (by decide) (by omega)).trans h9
      clear hp hlv hN
      unfold Roll.Goes
      simp only [Ldd1, List.getD_cons_zero, List.getD_cons_succ]
      generalize Roll.putD Ddd1 vs [9] b0 = a1 at *
      refine Roll.goes_call 15 #[.int .i64 C, .int .i64 35] p rfl (by have ec : ∀ x, a1.eval (.const x) = x := fun _ => rfl; have ef : ∀ x, a1.eval (.func x) = .func (.func x) #[] #[] := fun _ => rfl; generalize a1.eval = ρ at *; go_simp) ?_
      refine (HA3.out p).mono ?_
      rintro q p2 ⟨rfl, rfl⟩
      exact ⟨_, rfl, hI, Below.refl _ _, rfl⟩
    · intro vs p hI hp
      have h10 : (vs 10) = .int .i64 v := hp 10 (by simp [Ldd1])
      have e20 : (Roll.putD Ddd1 vs [10] b0).eval (.tmp 20) = .int .i64 v := (Roll.eval_new 10 rfl (by decide) (by decide) (by omega)).trans h10
      clear hp hlv hN
      unfold Roll.Goes
      simp only [Ldd1, List.getD_cons_zero, List.getD_cons_succ]
      generalize Roll.putD Ddd1 vs [10] b0 = a1 at *
      have f0 := I3.out
      refine Roll.goes_val (w' := p) (.int .i64 d) rfl ?_ ⟨hI, Below.refl _ _, rfl⟩
      (have ec : ∀ x, a1.eval (.const x) = x := fun _ => rfl); (have ef : ∀ x, a1.eval (.func x) = .func (.func x) #[] #[] := fun _ => rfl); generalize a1.eval = ρ at *
      clear h10
      go_simp <;> (intros; first | (exfalso; omega) | rfl | omega)
    · intro vs p hI hp
      have h3 : (vs 3) = .int .i64 y := hp 3 (by simp [Ldd1])
      have h7 : (vs 7) = .int .i64 m := hp 7 (by simp [Ldd1])
      have h11 : (vs 11) = .int .i64 d := hp 11 (by simp [Ldd1])
      have e13 : (Roll.putD Ddd1 vs [3, 7, 11] b0).eval (.tmp 13) = .int .i64 y := (Roll.eval_new 3 rfl (by decide) (by decide) (by omega)).trans h3
      have e17 : (Roll.putD Ddd1 vs [3, 7, 11] b0).eval (.tmp 17) = .int .i64 m := (Roll.eval_new 7 rfl (by decide) (by decide) (by omega)).trans h7
      have e21 : (Roll.putD Ddd1 vs [3, 7, 11] b0).eval (.tmp 21) = .int .i64 d := (Roll.eval_new 11 rfl (by decide) (by decide) (by omega)).trans h11
      clear hp hlv hN
      unfold Roll.Goes
      simp only [Ldd1, List.getD_cons_zero, List.getD_cons_succ]
      generalize Roll.putD Ddd1 vs [3, 7, 11] b0 = a1 at *
      refine Roll.goes_val (w' := p) (.agg #[.int .i64 y, .int .i64 m, .int .i64 d]) rfl ?_ ⟨hI, Below.refl _ _, rfl⟩
      (have ec : ∀ x, a1.eval (.const x) = x := fun _ => rfl); (have ef : ∀ x, a1.eval (.func x) = .func (.func x) #[] #[] := fun _ => rfl); generalize a1.eval = ρ at *
      clear h3 h7 h11
      go_simp <;> (intros; first | (exfalso; omega) | rfl | omega)
    · intro vs p hI hp
      clear hp hlv hN
      unfold Roll.Goes
      simp only [Ldd1, List.getD_cons_zero, List.getD_cons_succ]
      generalize Roll.putD Ddd1 vs [] b0 = a1 at *
      have hal : Below p.heap.size p (p.alloc (.cells #[.int .i64 0, .int .i64 0, .int .i64 0] 23)) := (Below.refl _ _).alloc (Nat.le_refl _) _
      refine Roll.goes_val (w' := p.alloc (.cells #[.int .i64 0, .int .i64 0, .int .i64 0] 23)) (.pointer (some ⟨p.heap.size, 0, none⟩)) rfl (by have ec : ∀ x, a1.eval (.const x) = x := fun _ => rfl; have ef : ∀ x, a1.eval (.func x) = .func (.func x) #[] #[] := fun _ => rfl; have hbs := run_allocD; generalize a1.eval = ρ at *; go_simp <;> (intros; first | (exfalso; omega) | rfl)) ⟨hI.trans (hal.mono hI.size), hal, p.heap.size, rfl, hI.size, heap_new0⟩
  · intro vs p hI hR
    have h0 : (vs 0) = .pointer (some ⟨g1, 0, none⟩) := hR 0 (by omega)
    have h1 : (vs 1) = .int .i64 A := hR 1 (by omega)
    have h2 : (vs 2) = .int .i64 x := hR 2 (by omega)
    have h3 : (vs 3) = .int .i64 y := hR 3 (by omega)
    have h4 : (vs 4) = .pointer (some ⟨g1, 1, none⟩) := hR 4 (by omega)
    have h5 : (vs 5) = .int .i64 B := hR 5 (by omega)
    have h6 : (vs 6) = .int .i64 z := hR 6 (by omega)
    have h7 : (vs 7) = .int .i64 m := hR 7 (by omega)
    have h8 : (vs 8) = .pointer (some ⟨g1, 2, none⟩) := hR 8 (by omega)
    have h9 : (vs 9) = .int .i64 C := hR 9 (by omega)
    have h10 : (vs 10) = .int .i64 v := hR 10 (by omega)
    have h11 : (vs 11) = .int .i64 d := hR 11 (by omega)
    have h12 : (vs 12) = .agg #[.int .i64 y, .int .i64 m, .int .i64 d] := hR 12 (by omega)
    have h13 : ∃ r, (vs 13) = .pointer (some ⟨r, 0, none⟩) ∧ w1.heap.size ≤ r ∧ p.heap[r]? = some (.cells #[.int .i64 0, .int .i64 0, .int .i64 0] 23 (0, 0)) := hR 13 (by omega)
    clear hR
    simp only [List.range_succ, List.range_zero, List.nil_append, List.cons_append, Roll.putD, Act.put, List.getD_cons_zero, List.getD_cons_succ, List.setIfInBounds_toArray, List.set_cons_zero, List.set_cons_succ, List.drop_succ_cons, List.drop_zero, Ddd1]
    simp only [h0, h1, h2, h3, h4, h5, h6, h7, h8, h9, h10, h11, h12]
    clear h0 h1 h2 h3 h4 h5 h6 h7 h8 h9 h10 h11 h12
    generalize vs 13 = v13 at *
    obtain ⟨g3, rfl, hr1, hh1⟩ := h13
    have HI := Lib.hid hI
    have HR1 := Lib.hid hr1
    have HH1 := Lib.hid hh1
    have pd : DB p g3 := ⟨0, 0, 0, hh1⟩
    clear hI hr1 hh1
    go_upto_region 2 with fail
    obtain ⟨w3, hw⟩ : ∃ w3, w3 = p.setRow g3 #[.int .i64 y, .int .i64 m, .int .i64 d] := ⟨_, rfl⟩
    have hrow : w3.heap[g3]? = some (.cells #[.int .i64 y, .int .i64 m, .int .i64 d] 23 (0, 0)) := by rw [hw]; exact setRow_heap _ _ _ _ _ _ HH1.out
    have hb : Below w1.heap.size w1 w3 := by rw [hw]; exact ((Kept.of_below (fun _ => False) HI.out).setRow (fun h => absurd h (by have := HR1.out; omega)) _).below (Nat.le_refl _) (fun _ _ h => h)
    have HR_g1n := Lib.hid ((hb.block g1 (heap_lt HR_g1.out)).trans HR_g1.out)
    clear HR_g1
    have HR_g1 := HR_g1n
    clear HR_g1n
    have HR_g3 := Lib.hid hrow
    have HTN := Tab_stepD HTP hb
    have HBN := Bel_stepD HBP hb
    clear HTP HBP
    have HTP := HTN
    have HBP := HBN
    clear HTN HBN
    rw [← hw]
    clear hw hrow hb pd HI HR1 HH1 CR0 CR1 CR2 HGL I1 I2 I3
    have c_g1_0 : w3.cell? ⟨g1, 0, none⟩ = some (.int .i64 A) := cell_of_row w3 g1 0 _ _ _ HR_g1.out
    have c_g1_1 : w3.cell? ⟨g1, 1, none⟩ = some (.int .i64 B) := cell_of_row w3 g1 1 _ _ _ HR_g1.out
    have c_g1_2 : w3.cell? ⟨g1, 2, none⟩ = some (.int .i64 C) := cell_of_row w3 g1 2 _ _ _ HR_g1.out
    have c_g3_0 : w3.cell? ⟨g3, 0, none⟩ = some (.int .i64 y) := cell_of_row w3 g3 0 _ _ _ HR_g3.out
    have c_g3_1 : w3.cell? ⟨g3, 1, none⟩ = some (.int .i64 m) := cell_of_row w3 g3 1 _ _ _ HR_g3.out
    have c_g3_2 : w3.cell? ⟨g3, 2, none⟩ = some (.int .i64 d) := cell_of_row w3 g3 2 _ _ _ HR_g3.out
    go_upto_region 3 with fail
    obtain ⟨w, hw1⟩ : ∃ w, w = w3.alloc (.cells #[.int .i64 A, .int .i64 B, .int .i64 C, .int .i64 y, .int .i64 m, .int .i64 d] 23) := ⟨_, rfl⟩
    obtain ⟨gs, hgs⟩ : ∃ gs, gs = w3.heap.size := ⟨_, rfl⟩
    have hrd : w.heap[gs]? = some (.cells #[.int .i64 A, .int .i64 B, .int .i64 C, .int .i64 y, .int .i64 m, .int .i64 d] 23 (0, 0)) := by rw [hw1, hgs]; exact heap_new0
    have hb1 : Below w3.heap.size w3 w := by rw [hw1]; exact (Below.refl _ w3).alloc (Nat.le_refl _) _
    rw [← hw1]
    rw [← hgs]
    have HLS := Lib.hid (heap_lt hrd)
    have CS0 : Hid (w.cell? ⟨gs, 0, none⟩ = some (.int .i64 A)) := Lib.hid (cell_of_row w gs 0 _ _ _ hrd)
    have CS1 : Hid (w.cell? ⟨gs, 1, none⟩ = some (.int .i64 B)) := Lib.hid (cell_of_row w gs 1 _ _ _ hrd)
    have CS2 : Hid (w.cell? ⟨gs, 2, none⟩ = some (.int .i64 C)) := Lib.hid (cell_of_row w gs 2 _ _ _ hrd)
    have CS3 : Hid (w.cell? ⟨gs, 3, none⟩ = some (.int .i64 y)) := Lib.hid (cell_of_row w gs 3 _ _ _ hrd)
    have CS4 : Hid (w.cell? ⟨gs, 4, none⟩ = some (.int .i64 m)) := Lib.hid (cell_of_row w gs 4 _ _ _ hrd)
    have CS5 : Hid (w.cell? ⟨gs, 5, none⟩ = some (.int .i64 d)) := Lib.hid (cell_of_row w gs 5 _ _ _ hrd)
    have HT0 := Lib.hid (HTP.out.below hb1)
    have HB1 := Bel_stepD HBP hb1
    clear hw1 hgs hrd hb1 HTP HBP HR_g1 HR_g3 c_g1_0 c_g1_1 c_g1_2 c_g3_0 c_g3_1 c_g3_2
    go_wp2_with fail
    go_loopw [5] (fun ii wr => ∃ i : Nat, i ≤ 2 ∧ ii = .int .i64 (i : Int) ∧ Tabs wr ∧ Below w.heap.size w wr) (fun ii _ => (2 - intOf ii).toNat)
    case atStart => exact ⟨0, by omega, rfl, HT0.out, Below.refl _ _⟩
    case round =>
      obtain ⟨i, hi, rfl, ht, hb⟩ := hrel
      have HTP := Lib.hid ht
      have HBP := Lib.hid hb
      clear ht hb
      have hc : i = 0 ∨ i = 1 ∨ i = 2 := by omega
      clear hi
      rcases hc with rfl | rfl | rfl
      · have c0 : wr.cell? ⟨gs, 0, none⟩ = some (.int .i64 A) := (HBP.out.cell (p := ⟨gs, 0, none⟩) HLS.out).trans CS0.out
        have c1 : wr.cell? ⟨gs, 1, none⟩ = some (.int .i64 B) := (HBP.out.cell (p := ⟨gs, 1, none⟩) HLS.out).trans CS1.out
        have c2 : wr.cell? ⟨gs, 2, none⟩ = some (.int .i64 C) := (HBP.out.cell (p := ⟨gs, 2, none⟩) HLS.out).trans CS2.out
        obtain ⟨r, hr⟩ : ∃ r, r = dayR A B C := ⟨_, rfl⟩
        obtain ⟨er, her⟩ : ∃ er, er = chk A B C := ⟨_, rfl⟩
        have HP1 : Hid (∀ p, Tabs p → Calls Tryd.prog 16 #[.agg #[.int .i64 A, .int .i64 B, .int .i64 C]] p fun e w' => e = .returned (.tuple #[.int .i64 r, .int .i64 er]) ∧ Below p.heap.size p w') := Lib.hid (fun p hp => by rw [hr, her]; exact day_any A B C p hp)
        have HP2 : Hid (∀ p, Tabs p → Calls Tryd.prog 17 #[.agg #[.int .i64 A, .int .i64 B, .int .i64 C]] p fun e w' => e = .returned (.tuple #[.int .i64 r, .int .i64 er]) ∧ Below p.heap.size p w') := Lib.hid (fun p hp => by rw [hr, her]; exact refDay_any A B C p hp)
        have HP3 : Hid (∀ p, Tabs p → Calls Tryd.prog 18 #[.agg #[.int .i64 A, .int .i64 B, .int .i64 C]] p fun e w' => e = .returned (.int .i64 er) ∧ Below p.heap.size p w') := Lib.hid (fun p hp => by rw [her]; exact check_any A B C p hp)
        clear hr her
        go_upto_region 7 with (go_at_call 16; refine (HP1.out _ HTP.out).mono ?_; rintro e v1 ⟨rfl, hb⟩; have HTN := Tab_stepD HTP hb; have HBN := Bel_stepD HBP hb; clear HTP HBP; have HTP := HTN; have HBP := HBN; clear HTN HBN; clear hb; clear c0 c1 c2)
        have c0 : v1.cell? ⟨gs, 0, none⟩ = some (.int .i64 A) := (HBP.out.cell (p := ⟨gs, 0, none⟩) HLS.out).trans CS0.out
        have c1 : v1.cell? ⟨gs, 1, none⟩ = some (.int .i64 B) := (HBP.out.cell (p := ⟨gs, 1, none⟩) HLS.out).trans CS1.out
        have c2 : v1.cell? ⟨gs, 2, none⟩ = some (.int .i64 C) := (HBP.out.cell (p := ⟨gs, 2, none⟩) HLS.out).trans CS2.out
        go_upto_region 8 with (go_at_call 17; refine (HP2.out _ HTP.out).mono ?_; rintro e v2 ⟨rfl, hb⟩; have HTN := Tab_stepD HTP hb; have HBN := Bel_stepD HBP hb; clear HTP HBP; have HTP := HTN; have HBP := HBN; clear HTN HBN; clear hb; clear c0 c1 c2)
        have c0 : v2.cell? ⟨gs, 0, none⟩ = some (.int .i64 A) := (HBP.out.cell (p := ⟨gs, 0, none⟩) HLS.out).trans CS0.out
        have c1 : v2.cell? ⟨gs, 1, none⟩ = some (.int .i64 B) := (HBP.out.cell (p := ⟨gs, 1, none⟩) HLS.out).trans CS1.out
        have c2 : v2.cell? ⟨gs, 2, none⟩ = some (.int .i64 C) := (HBP.out.cell (p := ⟨gs, 2, none⟩) HLS.out).trans CS2.out
        go_wp2_with (go_at_call 18; refine (HP3.out _ HTP.out).mono ?_; rintro e v3 ⟨rfl, hb⟩; have HTN := Tab_stepD HTP hb; have HBN := Bel_stepD HBP hb; clear HTP HBP; have HTP := HTN; have HBP := HBN; clear HTN HBN; clear hb; clear c0 c1 c2)
        go_roundw
        case rel => exact ⟨1, by omega, by go_num, HTP.out, HBP.out⟩
        case measure => simp only [intOf]; omega
      · have c0 : wr.cell? ⟨gs, 3, none⟩ = some (.int .i64 y) := (HBP.out.cell (p := ⟨gs, 3, none⟩) HLS.out).trans CS3.out
        have c1 : wr.cell? ⟨gs, 4, none⟩ = some (.int .i64 m) := (HBP.out.cell (p := ⟨gs, 4, none⟩) HLS.out).trans CS4.out
        have c2 : wr.cell? ⟨gs, 5, none⟩ = some (.int .i64 d) := (HBP.out.cell (p := ⟨gs, 5, none⟩) HLS.out).trans CS5.out
        obtain ⟨r, hr⟩ : ∃ r, r = dayR y m d := ⟨_, rfl⟩
        obtain ⟨er, her⟩ : ∃ er, er = chk y m d := ⟨_, rfl⟩
        have HP1 : Hid (∀ p, Tabs p → Calls Tryd.prog 16 #[.agg #[.int .i64 y, .int .i64 m, .int .i64 d]] p fun e w' => e = .returned (.tuple #[.int .i64 r, .int .i64 er]) ∧ Below p.heap.size p w') := Lib.hid (fun p hp => by rw [hr, her]; exact day_any y m d p hp)
        have HP2 : Hid (∀ p, Tabs p → Calls Tryd.prog 17 #[.agg #[.int .i64 y, .int .i64 m, .int .i64 d]] p fun e w' => e = .returned (.tuple #[.int .i64 r, .int .i64 er]) ∧ Below p.heap.size p w') := Lib.hid (fun p hp => by rw [hr, her]; exact refDay_any y m d p hp)
        have HP3 : Hid (∀ p, Tabs p → Calls Tryd.prog 18 #[.agg #[.int .i64 y, .int .i64 m, .int .i64 d]] p fun e w' => e = .returned (.int .i64 er) ∧ Below p.heap.size p w') := Lib.hid (fun p hp => by rw [her]; exact check_any y m d p hp)
        clear hr her
        go_upto_region 7 with (go_at_call 16; refine (HP1.out _ HTP.out).mono ?_; rintro e v1 ⟨rfl, hb⟩; have HTN := Tab_stepD HTP hb; have HBN := Bel_stepD HBP hb; clear HTP HBP; have HTP := HTN; have HBP := HBN; clear HTN HBN; clear hb; clear c0 c1 c2)
        have c0 : v1.cell? ⟨gs, 3, none⟩ = some (.int .i64 y) := (HBP.out.cell (p := ⟨gs, 3, none⟩) HLS.out).trans CS3.out
        have c1 : v1.cell? ⟨gs, 4, none⟩ = some (.int .i64 m) := (HBP.out.cell (p := ⟨gs, 4, none⟩) HLS.out).trans CS4.out
        have c2 : v1.cell? ⟨gs, 5, none⟩ = some (.int .i64 d) := (HBP.out.cell (p := ⟨gs, 5, none⟩) HLS.out).trans CS5.out
        go_upto_region 8 with (go_at_call 17; refine (HP2.out _ HTP.out).mono ?_; rintro e v2 ⟨rfl, hb⟩; have HTN := Tab_stepD HTP hb; have HBN := Bel_stepD HBP hb; clear HTP HBP; have HTP := HTN; have HBP := HBN; clear HTN HBN; clear hb; clear c0 c1 c2)
        have c0 : v2.cell? ⟨gs, 3, none⟩ = some (.int .i64 y) := (HBP.out.cell (p := ⟨gs, 3, none⟩) HLS.out).trans CS3.out
        have c1 : v2.cell? ⟨gs, 4, none⟩ = some (.int .i64 m) := (HBP.out.cell (p := ⟨gs, 4, none⟩) HLS.out).trans CS4.out
        have c2 : v2.cell? ⟨gs, 5, none⟩ = some (.int .i64 d) := (HBP.out.cell (p := ⟨gs, 5, none⟩) HLS.out).trans CS5.out
        go_wp2_with (go_at_call 18; refine (HP3.out _ HTP.out).mono ?_; rintro e v3 ⟨rfl, hb⟩; have HTN := Tab_stepD HTP hb; have HBN := Bel_stepD HBP hb; clear HTP HBP; have HTP := HTN; have HBP := HBN; clear HTN HBN; clear hb; clear c0 c1 c2)
        go_roundw
        case rel => exact ⟨2, by omega, by go_num, HTP.out, HBP.out⟩
        case measure => simp only [intOf]; omega
      · go_wp2_with (go_at_call 19; refine (lives_any _ HTP.out).mono ?_; rintro e wl ⟨rfl, hb⟩; have HBL := Lib.hid ((HB1.out.trans (HBP.out.mono HB1.out.size)).trans (hb.mono (Nat.le_trans HB1.out.size HBP.out.size))); clear hb)
        go_ret
        exact ⟨rfl, HBL.out⟩
end Go.Proofs.YtcoijmggfkjcjaaDoor

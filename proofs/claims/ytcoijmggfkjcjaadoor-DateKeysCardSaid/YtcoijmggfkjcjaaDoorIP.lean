/-
  The law DateCycles (written by gen_IP.py).
-/
import Derived.Test.YtcoijmggfkjcjaaDoorIG
import Derived.StillTailTactics
namespace Go.Proofs.YtcoijmggfkjcjaaDoor
open Go.RowKit
set_option linter.unusedSimpArgs false
set_option linter.unusedVariables false
attribute [local go_sem ↓] exec_storeDate
attribute [local go_sem] run_storeDate
theorem leap_400 (y : Int) : leapB (y + 400) = leapB y := by
  rw [Bool.eq_iff_iff, leap_iff, leap_iff]
  omega
theorem len_400 (y m : Int) : lenD (y + 400) m = lenD y m := by unfold lenD; rw [leap_400]
theorem cum_400 (y : Int) : ∀ k : Nat, cumD (y + 400) k = cumD y k
  | 0 => rfl
  | k + 1 => by
    show cumD (y + 400) k + lenD (y + 400) (k : Int) = cumD y k + lenD y (k : Int)
    rw [cum_400 y k, len_400]
theorem day_400 (y m d : Int) : dayN (y + 400) m d = dayN y m d + 146097 := by
  unfold dayN newY
  rw [cum_400]
  omega
theorem day_first (y : Int) : dayN y 1 1 = newY y := by
  unfold dayN
  rw [show (1 : Int).toNat = 1 from rfl, cum_one]
  omega
theorem valid_first {y : Int} (h1 : 1 ≤ y) (h2 : y ≤ 9999) : validD y 1 1 := ⟨h1, h2, by omega, by have := (len_pos y 1 (by omega) (by omega)).1; omega⟩
theorem day_good {y m d : Int} (hv : validD y m d) (u : World) (hu : Tabs u) : Calls Tryd.prog 16 #[.agg #[.int .i64 y, .int .i64 m, .int .i64 d]] u fun e w' => e = .returned (.tuple #[.int .i64 (dayN y m d), .int .i64 0]) ∧ Below u.heap.size u w' := by
  have h := day_any y m d u hu
  rw [chk_ok hv, show dayR y m d = dayN y m d by unfold dayR; rw [if_pos hv]] at h
  exact h
theorem run_allocD (W : World) : (Instr.alloc 23 true (.tuple #[])).run Tryd.prog W = .ok (.pointer (some ⟨W.heap.size, 0, none⟩)) (W.alloc (.cells #[.int .i64 0, .int .i64 0, .int .i64 0] 23)) := by kernel_rfl
def Dcy1 : List (Option Tmp) := [some 14, some 15, some 16, some 17, some 18, some 19, some 20, some 21, some 22, some 3, none]
def Lcy1 : List (List Nat) := [[], [0], [1], [2], [], [4], [5], [6], [3, 7], [], [9, 8]]
set_option maxRecDepth 100000 in
set_option maxHeartbeats 4000000 in
theorem cycles_law (A B C : Int) (w : World) (hT : Tabs w) (a1 : -9223372036854775808 ≤ A) (a2 : A ≤ 9223372036854775807) (b1 : -9223372036854775808 ≤ B) (b2 : B ≤ 9223372036854775807) (c1 : -9223372036854775808 ≤ C) (c2 : C ≤ 9223372036854775807) : Calls Tryd.prog 11 #[.agg #[.int .i64 A, .int .i64 B, .int .i64 C]] w fun e w' => e = .returned (.bool true) ∧ Below w.heap.size w w' := by
  have bA := aroundD_bd A 9599 (by omega)
  have bB := aroundD_bd B 12 (by omega)
  have HA1 : Hid (∀ u, Calls Tryd.prog 15 #[.int .i64 A, .int .i64 9599] u fun e w' => e = .returned (.int .i64 (aroundD A 9599)) ∧ w' = u) := Lib.hid (fun u => (aroundD_any A 9599 u a1 a2 (by omega) (by omega)).mono fun e w' h => ⟨h.1, h.2.symm⟩)
  have HA2 : Hid (∀ u, Calls Tryd.prog 15 #[.int .i64 B, .int .i64 12] u fun e w' => e = .returned (.int .i64 (aroundD B 12)) ∧ w' = u) := Lib.hid (fun u => (aroundD_any B 12 u b1 b2 (by omega) (by omega)).mono fun e w' h => ⟨h.1, h.2.symm⟩)
  obtain ⟨x, hx⟩ : ∃ x, x = aroundD A 9599 := ⟨_, rfl⟩
  obtain ⟨z, hz⟩ : ∃ z, z = aroundD B 12 := ⟨_, rfl⟩
  rw [← hx] at HA1 bA
  rw [← hz] at HA2 bB
  obtain ⟨y, hy⟩ : ∃ y, y = 1 + x := ⟨_, rfl⟩
  obtain ⟨m, hm⟩ : ∃ m, m = 1 + z := ⟨_, rfl⟩
  have i1 : IntKind.i64.wrap (1 + x) = y := by rw [hy]; exact i64_id _ (by omega) (by omega)
  have i2 : IntKind.i64.wrap (1 + z) = m := by rw [hm]; exact i64_id _ (by omega) (by omega)
  have hyb : 1 ≤ y ∧ y ≤ 9599 := by omega
  have hmb : 1 ≤ m ∧ m ≤ 12 := by omega
  have hL := len_pos y m hmb.1 hmb.2
  obtain ⟨L, hLL⟩ : ∃ L, L = lenD y m := ⟨_, rfl⟩
  rw [← hLL] at hL
  have bC := aroundD_bd C L (by omega)
  have HA3 : Hid (∀ u, Calls Tryd.prog 15 #[.int .i64 C, .int .i64 L] u fun e w' => e = .returned (.int .i64 (aroundD C L)) ∧ w' = u) := Lib.hid (fun u => (aroundD_any C L u c1 c2 (by omega) (by omega)).mono fun e w' h => ⟨h.1, h.2.symm⟩)
  obtain ⟨v, hv⟩ : ∃ v, v = aroundD C L := ⟨_, rfl⟩
  rw [← hv] at HA3 bC
  obtain ⟨d, hd⟩ : ∃ d, d = 1 + v := ⟨_, rfl⟩
  have i3 : IntKind.i64.wrap (1 + v) = d := by rw [hd]; exact i64_id _ (by omega) (by omega)
  have hmx : max 1 L = L := Int.max_eq_right (by omega)
  have hval : validD y m d := ⟨hyb.1, by omega, by omega, by rw [← hLL]; omega⟩
  have HLN : Hid (∀ u, Tabs u → Calls Tryd.prog 30 #[.int .i64 y, .int .i64 m] u fun e w' => e = .returned (.int .i64 L) ∧ w' = u) := Lib.hid (fun u hu => by rw [hLL]; exact (length_any y m u hu).mono fun e w' h => ⟨h.1, h.2.symm⟩)
  have hval2 : validD (y + 400) m d := ⟨by omega, by omega, hval.2.2.1, by rw [len_400]; exact hval.2.2.2⟩
  have r1 := day_rng hval
  have r2 := day_rng hval2
  have hv1 := valid_first hyb.1 (by omega)
  have hv2 := valid_first (y := y + 1) (by omega) (by omega)
  have r3 := day_rng hv1
  have r4 := day_rng hv2
  have e400 := day_400 y m d
  have ef1 := day_first y
  have ef2 := day_first (y + 1)
  have ens := new_succ y
  rw [cum_13] at ens
  obtain ⟨a, ha⟩ : ∃ a, a = dayN y m d := ⟨_, rfl⟩
  obtain ⟨b, hb⟩ : ∃ b, b = dayN (y + 400) m d := ⟨_, rfl⟩
  obtain ⟨n1, hn1⟩ : ∃ n1, n1 = dayN y 1 1 := ⟨_, rfl⟩
  obtain ⟨n2, hn2⟩ : ∃ n2, n2 = dayN (y + 1) 1 1 := ⟨_, rfl⟩
  have D1 : Hid (∀ u, Tabs u → Calls Tryd.prog 16 #[.agg #[.int .i64 y, .int .i64 m, .int .i64 d]] u fun e w' => e = .returned (.tuple #[.int .i64 a, .int .i64 0]) ∧ Below u.heap.size u w') := Lib.hid (fun u hu => by rw [ha]; exact day_good hval u hu)
  have D2 : Hid (∀ u, Tabs u → Calls Tryd.prog 16 #[.agg #[.int .i64 (y + 400), .int .i64 m, .int .i64 d]] u fun e w' => e = .returned (.tuple #[.int .i64 b, .int .i64 0]) ∧ Below u.heap.size u w') := Lib.hid (fun u hu => by rw [hb]; exact day_good hval2 u hu)
  have D3 : Hid (∀ u, Tabs u → Calls Tryd.prog 16 #[.agg #[.int .i64 y, .int .i64 1, .int .i64 1]] u fun e w' => e = .returned (.tuple #[.int .i64 n1, .int .i64 0]) ∧ Below u.heap.size u w') := Lib.hid (fun u hu => by rw [hn1]; exact day_good hv1 u hu)
  have D4 : Hid (∀ u, Tabs u → Calls Tryd.prog 16 #[.agg #[.int .i64 (y + 1), .int .i64 1, .int .i64 1]] u fun e w' => e = .returned (.tuple #[.int .i64 n2, .int .i64 0]) ∧ Below u.heap.size u w') := Lib.hid (fun u hu => by rw [hn2]; exact day_good hv2 u hu)
  rw [← ha, ← hb] at e400
  rw [← ha] at r1
  rw [← hb] at r2
  rw [← hn1] at r3 ef1
  rw [← hn2] at r4 ef2
  have HDIF : Hid (n2 - n1 = 365 + (if leapB y = true then 1 else 0)) := Lib.hid (by rw [ef1, ef2, ens]; omega)
  have hba : b - a = 146097 := by omega
  have i4 : IntKind.i64.wrap (b - a) = 146097 := by rw [hba]; rfl
  have hb7 : b % 7 = a % 7 := by omega
  have HWA : Hid (∀ t u, t = a ∨ t = b → Calls Tryd.prog 26 #[.int .i64 t] u fun e w' => e = .returned (.int .i64 (a % 7)) ∧ u = w') := Lib.hid (fun t u ht => by
    rcases ht with rfl | rfl
    · exact weekday_any t u (by omega) (by omega)
    · rw [← hb7]; exact weekday_any t u (by omega) (by omega))
  have i5 : IntKind.i64.wrap (y + 400) = y + 400 := i64_id _ (by omega) (by omega)
  have i7 : IntKind.i64.wrap (y + 1) = y + 1 := i64_id _ (by omega) (by omega)
  have HTP := Lib.hid hT
  have HT0 := HTP
  have HBP : Hid (Below w.heap.size w w) := Lib.hid (Below.refl _ _)
  clear hT hx hz hy hm hLL hv hd bA bB bC hval hval2 hv1 hv2 e400 ef1 ef2 ens ha hb hn1 hn2 hba hb7 r1 r2
  go_enter Tryd.func11, Tryd.ntmps11
  go_upto_region 1 with fail
  obtain ⟨w1, hw⟩ : ∃ w1, w1 = w.alloc (.cells #[.int .i64 A, .int .i64 B, .int .i64 C] 23) := ⟨_, rfl⟩
  obtain ⟨g1, hg⟩ : ∃ g1, g1 = w.heap.size := ⟨_, rfl⟩
  have hrow : w1.heap[g1]? = some (.cells #[.int .i64 A, .int .i64 B, .int .i64 C] 23 (0, 0)) := by rw [hw, hg]; exact heap_new0
  have hb : Below w.heap.size w w1 := by rw [hw]; exact (Below.refl _ _).alloc (Nat.le_refl _) _
  have HR_g1 := Lib.hid hrow
  have HTN := Tab_stepD HTP hb
  have HBN := Bel_stepD HBP hb
  clear HTP HBP
  have HTP := HTN
  have HBP := HBN
  clear HTN HBN
  rw [← hw]
  rw [← hg]
  clear hw hg hrow hb
  have c_g1_0 : w1.cell? ⟨g1, 0, none⟩ = some (.int .i64 A) := cell_of_row w1 g1 0 _ _ _ HR_g1.out
  have c_g1_1 : w1.cell? ⟨g1, 1, none⟩ = some (.int .i64 B) := cell_of_row w1 g1 1 _ _ _ HR_g1.out
  have c_g1_2 : w1.cell? ⟨g1, 2, none⟩ = some (.int .i64 C) := cell_of_row w1 g1 2 _ _ _ HR_g1.out
  have CR0 := Lib.hid c_g1_0
  have CR1 := Lib.hid c_g1_1
  have HGL := Lib.hid (heap_lt HR_g1.out)
  have I1 := Lib.hid i1
  have I2 := Lib.hid i2
  clear c_g1_0 c_g1_1 c_g1_2
  refine Roll.region_f 10 102 Dcy1 Lcy1 [(1, .pointer (some ⟨g1, 0, none⟩))] (fun p => Below w1.heap.size w1 p) (fun p p2 => Below p.heap.size p p2) [fun vv p => vv = .pointer (some ⟨g1, 0, none⟩), fun vv p => vv = .int .i64 A, fun vv p => vv = .int .i64 x, fun vv p => vv = .int .i64 y, fun vv p => vv = .pointer (some ⟨g1, 1, none⟩), fun vv p => vv = .int .i64 B, fun vv p => vv = .int .i64 z, fun vv p => vv = .int .i64 m, fun vv p => vv = .agg #[.int .i64 y, .int .i64 m, .int .i64 0], fun vv p => ∃ r, vv = .pointer (some ⟨r, 0, none⟩) ∧ w1.heap.size ≤ r ∧ p.heap[r]? = some (.cells #[.int .i64 0, .int .i64 0, .int .i64 0] 23 (0, 0))] (by kernel_rfl) (by kernel_rfl) rfl ⟨rfl, trivial⟩ ((Below.refl _ _).drew) ?_ ?_ ?_
  · exact ⟨fun _ _ _ _ h => h, fun _ _ _ _ h => h, fun _ _ _ _ h => h, fun _ _ _ _ h => h, fun _ _ _ _ h => h, fun _ _ _ _ h => h, fun _ _ _ _ h => h, fun _ _ _ _ h => h, fun _ _ _ _ h => h, fun _ _ _ hs h => by obtain ⟨r, e1, e2, e3⟩ := h; exact ⟨r, e1, e2, (Kept.of_below (fun _ => False) hs).heap e3 (fun h => h)⟩, trivial⟩
  · intro b0 hN hlv
    refine ⟨?_, ?_, ?_, ?_, ?_, ?_, ?_, ?_, ?_, ?_, trivial⟩
    · intro vs p hI hp
      have e1 : (Roll.putD Dcy1 vs [] b0).eval (.tmp 1) = .pointer (some ⟨g1, 0, none⟩) := (Roll.eval_old rfl).trans (hlv.at 0 (1, .pointer (some ⟨g1, 0, none⟩)) rfl)
      clear hp hlv hN
      unfold Roll.Goes
      simp only [Lcy1, List.getD_cons_zero, List.getD_cons_succ]
      generalize Roll.putD Dcy1 vs [] b0 = a1 at *
      refine Roll.goes_val (w' := p) (.pointer (some ⟨g1, 0, none⟩)) rfl ?_ ⟨hI, Below.refl _ _, rfl⟩
      (have ec : ∀ x, a1.eval (.const x) = x := fun _ => rfl); (have ef : ∀ x, a1.eval (.func x) = .func (.func x) #[] #[] := fun _ => rfl); generalize a1.eval = ρ at *
      skip
      go_simp <;> (intros; first | (exfalso; omega) | rfl | omega)
    · intro vs p hI hp
      have h0 : (vs 0) = .pointer (some ⟨g1, 0, none⟩) := hp 0 (by simp [Lcy1])
      have e14 : (Roll.putD Dcy1 vs [0] b0).eval (.tmp 14) = .pointer (some ⟨g1, 0, none⟩) := (Roll.eval_new 0 rfl (by decide) (by decide) (by omega)).trans h0
      clear hp hlv hN
      unfold Roll.Goes
      simp only [Lcy1, List.getD_cons_zero, List.getD_cons_succ]
      generalize Roll.putD Dcy1 vs [0] b0 = a1 at *
      have cf : p.cell? ⟨g1, 0, none⟩ = some (.int .i64 A) := (hI.cell (p := ⟨g1, 0, none⟩) HGL.out).trans CR0.out
      refine Roll.goes_val (w' := p) (.int .i64 A) rfl ?_ ⟨hI, Below.refl _ _, rfl⟩
      (have ec : ∀ x, a1.eval (.const x) = x := fun _ => rfl); (have ef : ∀ x, a1.eval (.func x) = .func (.func x) #[] #[] := fun _ => rfl); generalize a1.eval = ρ at *
      clear h0
      go_simp <;> (intros; first | (exfalso; omega) | rfl | omega)
    · intro vs p hI hp
      have h1 : (vs 1) = .int .i64 A := hp 1 (by simp [Lcy1])
      have e15 : (Roll.putD Dcy1 vs [1] b0).eval (.tmp 15) = .int .i64 A := (Roll.eval_new 1 rfl (by decide) (by decide) (by omega)).trans h1
      clear hp hlv hN
      unfold Roll.Goes
      simp only [Lcy1, List.getD_cons_zero, List.getD_cons_succ]
      generalize Roll.putD Dcy1 vs [1] b0 = a1 at *
      refine Roll.goes_call 15 #[.int .i64 A, .int .i64 9599] p rfl (by have ec : ∀ x, a1.eval (.const x) = x := fun _ => rfl; have ef : ∀ x, a1.eval (.func x) = .func (.func x) #[] #[] := fun _ => rfl; generalize a1.eval = ρ at *; go_simp) ?_
      refine (HA1.out p).mono ?_
      rintro q p2 ⟨rfl, rfl⟩
      exact ⟨_, rfl, hI, Below.refl _ _, rfl⟩
    · intro vs p hI hp
      have h2 : (vs 2) = .int .i64 x := hp 2 (by simp [Lcy1])
      have e16 : (Roll.putD Dcy1 vs [2] b0).eval (.tmp 16) = .int .i64 x := (Roll.eval_new 2 rfl (by decide) (by decide) (by omega)).trans h2
      clear hp hlv hN
      unfold Roll.Goes
      simp only [Lcy1, List.getD_cons_zero, List.getD_cons_succ]
      generalize Roll.putD Dcy1 vs [2] b0 = a1 at *
      have f0 := I1.out
      refine Roll.goes_val (w' := p) (.int .i64 y) rfl ?_ ⟨hI, Below.refl _ _, rfl⟩
      (have ec : ∀ x, a1.eval (.const x) = x := fun _ => rfl); (have ef : ∀ x, a1.eval (.func x) = .func (.func x) #[] #[] := fun _ => rfl); generalize a1.eval = ρ at *
      clear h2
      go_simp <;> (intros; first | (exfalso; omega) | rfl | omega)
    · intro vs p hI hp
      have e1 : (Roll.putD Dcy1 vs [] b0).eval (.tmp 1) = .pointer (some ⟨g1, 0, none⟩) := (Roll.eval_old rfl).trans (hlv.at 0 (1, .pointer (some ⟨g1, 0, none⟩)) rfl)
      clear hp hlv hN
      unfold Roll.Goes
      simp only [Lcy1, List.getD_cons_zero, List.getD_cons_succ]
      generalize Roll.putD Dcy1 vs [] b0 = a1 at *
      refine Roll.goes_val (w' := p) (.pointer (some ⟨g1, 1, none⟩)) rfl ?_ ⟨hI, Below.refl _ _, rfl⟩
      (have ec : ∀ x, a1.eval (.const x) = x := fun _ => rfl); (have ef : ∀ x, a1.eval (.func x) = .func (.func x) #[] #[] := fun _ => rfl); generalize a1.eval = ρ at *
      skip
      go_simp <;> (intros; first | (exfalso; omega) | rfl | omega)
    · intro vs p hI hp
      have h4 : (vs 4) = .pointer (some ⟨g1, 1, none⟩) := hp 4 (by simp [Lcy1])
      have e18 : (Roll.putD Dcy1 vs [4] b0).eval (.tmp 18) = .pointer (some ⟨g1, 1, none⟩) := (Roll.eval_new 4 rfl (by decide) (by decide) (by omega)).trans h4
      clear hp hlv hN
      unfold Roll.Goes
      simp only [Lcy1, List.getD_cons_zero, List.getD_cons_succ]
      generalize Roll.putD Dcy1 vs [4] b0 = a1 at *
      have cf : p.cell? ⟨g1, 1, none⟩ = some (.int .i64 B) := (hI.cell (p := ⟨g1, 1, none⟩) HGL.out).trans CR1.out
      refine Roll.goes_val (w' := p) (.int .i64 B) rfl ?_ ⟨hI, Below.refl _ _, rfl⟩
      (have ec : ∀ x, a1.eval (.const x) = x := fun _ => rfl); (have ef : ∀ x, a1.eval (.func x) = .func (.func x) #[] #[] := fun _ => rfl); generalize a1.eval = ρ at *
      clear h4
      go_simp <;> (intros; first | (exfalso; omega) | rfl | omega)
    · intro vs p hI hp
      have h5 : (vs 5) = .int .i64 B := hp 5 (by simp [Lcy1])
      have e19 : (Roll.putD Dcy1 vs [5] b0).eval (.tmp 19) = .int .i64 B := (Roll.eval_new 5 rfl (by decide) (by decide) (by omega)).trans h5
      clear hp hlv hN
      unfold Roll.Goes
      simp only [Lcy1, List.getD_cons_zero, List.getD_cons_succ]
      generalize Roll.putD Dcy1 vs [5] b0 = a1 at *
      refine Roll.goes_call 15 #[.int .i64 B, .int .i64 12] p rfl (by have ec : ∀ x, a1.eval (.const x) = x := fun _ => rfl; have ef : ∀ x, a1.eval (.func x) = .func (.func x) #[] #[] := fun _ => rfl; generalize a1.eval = ρ at *; go_simp) ?_
      refine (HA2.out p).mono ?_
      rintro q p2 ⟨rfl, rfl⟩
      exact ⟨_, rfl, hI, Below.refl _ _, rfl⟩
    · intro vs p hI hp
      have h6 : (vs 6) = .int .i64 z := hp 6 (by simp [Lcy1])
      have e20 : (Roll.putD Dcy1 vs [6] b0).eval (.tmp 20) = .int .i64 z := (Roll.eval_new 6 rfl (by decide) (by decide) (by omega)).trans h6
      clear hp hlv hN
      unfold Roll.Goes
      simp only [Lcy1, List.getD_cons_zero, List.getD_cons_succ]
      generalize Roll.putD Dcy1 vs [6] b0 = a1 at *
      have f0 := I2.out
      refine Roll.goes_val (w' := p) (.int .i64 m) rfl ?_ ⟨hI, Below.refl _ _, rfl⟩
      (have ec : ∀ x, a1.eval (.const x) = x := fun _ => rfl); (have ef : ∀ x, a1.eval (.func x) = .func (.func x) #[] #[] := fun _ => rfl); generalize a1.eval = ρ at *
      clear h6
      go_simp <;> (intros; first | (exfalso; omega) | rfl | omega)
    · intro vs p hI hp
      have h3 : (vs 3) = .int .i64 y := hp 3 (by simp [Lcy1])
      have h7 : (vs 7) = .int .i64 m := hp 7 (by simp [Lcy1])
      have e17 : (Roll.putD Dcy1 vs [3, 7] b0).eval (.tmp 17) = .int .i64 y := (Roll.eval_new 3 rfl (by decide) (by decide) (by omega)).trans h3
      have e21 : (Roll.putD Dcy1 vs [3, 7] b0).eval (.tmp 21) = .int .i64 m := (Roll.eval_new 7 rfl (by decide) (by decide) (by omega)).trans h7
      clear hp hlv hN
      unfold Roll.Goes
      simp only [Lcy1, List.getD_cons_zero, List.getD_cons_succ]
      generalize Roll.putD Dcy1 vs [3, 7] b0 = a1 at *
      refine Roll.goes_val (w' := p) (.agg #[.int .i64 y, .int .i64 m, .int .i64 0]) rfl ?_ ⟨hI, Below.refl _ _, rfl⟩
      (have ec : ∀ x, a1.eval (.const x) = x := fun _ => rfl); (have ef : ∀ x, a1.eval (.func x) = .func (.func x) #[] #[] := fun _ => rfl); generalize a1.eval = ρ at *
      clear h3 h7
      go_simp <;> (intros; first | (exfalso; omega) | rfl | omega)
    · intro vs p hI hp
      clear hp hlv hN
      unfold Roll.Goes
      simp only [Lcy1, List.getD_cons_zero, List.getD_cons_succ]
      generalize Roll.putD Dcy1 vs [] b0 = a1 at *
      have hal : Below p.heap.size p (p.alloc (.cells #[.int .i64 0, .int .i64 0, .int .i64 0] 23)) := (Below.refl _ _).alloc (Nat.le_refl _) _
      refine Roll.goes_val (w' := p.alloc (.cells #[.int .i64 0, .int .i64 0, .int .i64 0] 23)) (.pointer (some ⟨p.heap.size, 0, none⟩)) rfl (by have ec : ∀ x, a1.eval (.const x) = x := fun _ => rfl; have ef : ∀ x, a1.eval (.func x) = .func (.func x) #[] #[] := fun _ => rfl; have hbs := run_allocD; generalize a1.eval = ρ at *; go_simp <;> (intros; first | (exfalso; omega) | rfl)) ⟨hI.trans (hal.mono hI.size), hal, p.heap.size, rfl, hI.size, heap_new0⟩
  · intro vs p hI hR
    have h0 : (vs 0) = .pointer (some ⟨g1, 0, none⟩) := hR 0 (by omega)
    have h1 : (vs 1) = .int .i64 A := hR 1 (by omega)
    have h2 : (vs 2) = .int .i64 x := hR 2 (by omega)
    have h3 : (vs 3) = .int .i64 y := hR 3 (by omega)
    have h4 : (vs 4) = .pointer (some ⟨g1, 1, none⟩) := hR 4 (by omega)
    have h5 : (vs 5) = .int .i64 B := hR 5 (by omega)
    have h6 : (vs 6) = .int .i64 z := hR 6 (by omega)
    have h7 : (vs 7) = .int .i64 m := hR 7 (by omega)
    have h8 : (vs 8) = .agg #[.int .i64 y, .int .i64 m, .int .i64 0] := hR 8 (by omega)
    have h9 : ∃ r, (vs 9) = .pointer (some ⟨r, 0, none⟩) ∧ w1.heap.size ≤ r ∧ p.heap[r]? = some (.cells #[.int .i64 0, .int .i64 0, .int .i64 0] 23 (0, 0)) := hR 9 (by omega)
    clear hR
    simp only [List.range_succ, List.range_zero, List.nil_append, List.cons_append, Roll.putD, Act.put, List.getD_cons_zero, List.getD_cons_succ, List.setIfInBounds_toArray, List.set_cons_zero, List.set_cons_succ, List.drop_succ_cons, List.drop_zero, Dcy1]
    simp only [h0, h1, h2, h3, h4, h5, h6, h7, h8]
    clear h0 h1 h2 h3 h4 h5 h6 h7 h8
    generalize vs 9 = v9 at *
    obtain ⟨g3, rfl, hr1, hh1⟩ := h9
    have HI := Lib.hid hI
    have HR1 := Lib.hid hr1
    have HH1 := Lib.hid hh1
    have pd : DB p g3 := ⟨0, 0, 0, hh1⟩
    clear hI hr1 hh1
    go_upto_region 2 with fail
    obtain ⟨w3, hw⟩ : ∃ w3, w3 = p.setRow g3 #[.int .i64 y, .int .i64 m, .int .i64 0] := ⟨_, rfl⟩
    have hrow : w3.heap[g3]? = some (.cells #[.int .i64 y, .int .i64 m, .int .i64 0] 23 (0, 0)) := by rw [hw]; exact setRow_heap _ _ _ _ _ _ HH1.out
    have hb : Below w1.heap.size w1 w3 := by rw [hw]; exact ((Kept.of_below (fun _ => False) HI.out).setRow (fun h => absurd h (by have := HR1.out; omega)) _).below (Nat.le_refl _) (fun _ _ h => h)
    have HG_g3 : Hid (w.heap.size ≤ g3) := Lib.hid (Nat.le_trans HBP.out.size HR1.out)
    have HNE_g1_g3 : Hid (g1 ≠ g3) := Lib.hid (by have := heap_lt HR_g1.out; have := HR1.out; omega)
    have HRN := Lib.hid ((hb.block g1 (heap_lt HR_g1.out)).trans HR_g1.out)
    clear HR_g1
    have HR_g1 := HRN
    clear HRN
    have HR_g3 := Lib.hid hrow
    have HTN := Tab_stepD HTP hb
    have HBN := Bel_stepD HBP hb
    clear HTP HBP
    have HTP := HTN
    have HBP := HBN
    clear HTN HBN
    rw [← hw]
    clear hw hrow hb pd HI HR1 HH1 CR0 CR1 HGL I1 I2
    have c_g1_0 : w3.cell? ⟨g1, 0, none⟩ = some (.int .i64 A) := cell_of_row w3 g1 0 _ _ _ HR_g1.out
    have c_g1_1 : w3.cell? ⟨g1, 1, none⟩ = some (.int .i64 B) := cell_of_row w3 g1 1 _ _ _ HR_g1.out
    have c_g1_2 : w3.cell? ⟨g1, 2, none⟩ = some (.int .i64 C) := cell_of_row w3 g1 2 _ _ _ HR_g1.out
    have c_g3_0 : w3.cell? ⟨g3, 0, none⟩ = some (.int .i64 y) := cell_of_row w3 g3 0 _ _ _ HR_g3.out
    have c_g3_1 : w3.cell? ⟨g3, 1, none⟩ = some (.int .i64 m) := cell_of_row w3 g3 1 _ _ _ HR_g3.out
    have c_g3_2 : w3.cell? ⟨g3, 2, none⟩ = some (.int .i64 0) := cell_of_row w3 g3 2 _ _ _ HR_g3.out
    have f_g3_0 : w3.frozen? ⟨g3, 0, none⟩ = false := frozen_of_row w3 g3 0 _ _ HR_g3.out
    have f_g3_1 : w3.frozen? ⟨g3, 1, none⟩ = false := frozen_of_row w3 g3 1 _ _ HR_g3.out
    have f_g3_2 : w3.frozen? ⟨g3, 2, none⟩ = false := frozen_of_row w3 g3 2 _ _ HR_g3.out
    have HLN3 := Lib.hid (HLN.out w3.drew (HTP.out.below (Below.refl _ _).drew))
    go_still_tail 11, (by kernel_rfl)
    still_call (HLN3.out)
    repeat still_step
    still_call (HA3.out _)
    repeat still_step
    refine wpStill_nil ?_
    change wpList _ _ _ _ _ w3.drew
    go_upto_region 3 with fail
    obtain ⟨w4, hw⟩ : ∃ w4, w4 = (w3.setCell ⟨g3, 2, none⟩ (.int .i64 d)).drew := ⟨_, rfl⟩
    have hrow : w4.heap[g3]? = some (.cells #[.int .i64 y, .int .i64 m, .int .i64 d] 23 (0, 0)) := by rw [hw]; exact heap_setCell_same _ _ _ _ _ _ HR_g3.out
    have hb : Below w.heap.size w w4 := by rw [hw]; exact ((((Kept.of_below (fun _ => False) HBP.out).setCell (fun h => absurd (show g3 < w.heap.size from h) (by have := HG_g3.out; omega)) _).below (Nat.le_refl _) (fun _ _ h => h))).drew
    have HTN : Hid (Tabs w4) := Lib.hid (HT0.out.below hb)
    have HBN : Hid (Below w.heap.size w w4) := Lib.hid hb
    have HRN : Hid (w4.heap[g1]? = some (.cells #[.int .i64 A, .int .i64 B, .int .i64 C] 23 (0, 0))) := Lib.hid (by rw [hw]; exact (heap_setCell_other _ _ _ _ HNE_g1_g3.out).trans HR_g1.out)
    clear HR_g1
    have HR_g1 := HRN
    clear HRN
    clear HTP HBP HR_g3 c_g1_0 c_g1_1 c_g1_2 c_g3_0 c_g3_1 c_g3_2 f_g3_0 f_g3_1 f_g3_2
    have HTP := HTN
    have HBP := HBN
    have HR_g3 := Lib.hid hrow
    rw [← hw]
    clear HTN HBN hw hrow hb
    have c_g1_0 : w4.cell? ⟨g1, 0, none⟩ = some (.int .i64 A) := cell_of_row w4 g1 0 _ _ _ HR_g1.out
    have c_g1_1 : w4.cell? ⟨g1, 1, none⟩ = some (.int .i64 B) := cell_of_row w4 g1 1 _ _ _ HR_g1.out
    have c_g1_2 : w4.cell? ⟨g1, 2, none⟩ = some (.int .i64 C) := cell_of_row w4 g1 2 _ _ _ HR_g1.out
    have c_g3_0 : w4.cell? ⟨g3, 0, none⟩ = some (.int .i64 y) := cell_of_row w4 g3 0 _ _ _ HR_g3.out
    have c_g3_1 : w4.cell? ⟨g3, 1, none⟩ = some (.int .i64 m) := cell_of_row w4 g3 1 _ _ _ HR_g3.out
    have c_g3_2 : w4.cell? ⟨g3, 2, none⟩ = some (.int .i64 d) := cell_of_row w4 g3 2 _ _ _ HR_g3.out
    have f_g3_0 : w4.frozen? ⟨g3, 0, none⟩ = false := frozen_of_row w4 g3 0 _ _ HR_g3.out
    have f_g3_1 : w4.frozen? ⟨g3, 1, none⟩ = false := frozen_of_row w4 g3 1 _ _ HR_g3.out
    have f_g3_2 : w4.frozen? ⟨g3, 2, none⟩ = false := frozen_of_row w4 g3 2 _ _ HR_g3.out
    have pd : DB (w4.alloc (.cells #[.int .i64 0, .int .i64 0, .int .i64 0] 23)) w4.heap.size := ⟨0, 0, 0, heap_new0⟩
    go_upto_region 4 with fail
    obtain ⟨w5, hw⟩ : ∃ w5, w5 = (w4.alloc (.cells #[.int .i64 0, .int .i64 0, .int .i64 0] 23)).setRow w4.heap.size #[.int .i64 y, .int .i64 m, .int .i64 d] := ⟨_, rfl⟩
    obtain ⟨g4, hg⟩ : ∃ g4, g4 = w4.heap.size := ⟨_, rfl⟩
    have hrow : w5.heap[g4]? = some (.cells #[.int .i64 y, .int .i64 m, .int .i64 d] 23 (0, 0)) := by rw [hw, hg]; exact setRow_heap _ _ _ _ _ _ heap_new0
    have hb : Below w4.heap.size w4 w5 := by rw [hw]; exact (((Kept.refl (fun _ => False) w4).alloc _).setRow (fun h => by omega) _).below (Nat.le_refl _) (fun _ _ h => h)
    have HG_g4 : Hid (w.heap.size ≤ g4) := Lib.hid (by rw [hg]; exact HBP.out.size)
    have HNE_g1_g4 : Hid (g1 ≠ g4) := Lib.hid (by have := heap_lt HR_g1.out; omega)
    have HRN := Lib.hid ((hb.block g1 (heap_lt HR_g1.out)).trans HR_g1.out)
    clear HR_g1
    have HR_g1 := HRN
    clear HRN
    have HNE_g3_g4 : Hid (g3 ≠ g4) := Lib.hid (by have := heap_lt HR_g3.out; omega)
    have HRN := Lib.hid ((hb.block g3 (heap_lt HR_g3.out)).trans HR_g3.out)
    clear HR_g3
    have HR_g3 := HRN
    clear HRN
    have HR_g4 := Lib.hid hrow
    have HTN := Tab_stepD HTP hb
    have HBN := Bel_stepD HBP hb
    clear HTP HBP
    have HTP := HTN
    have HBP := HBN
    clear HTN HBN
    rw [← hw]
    rw [← hg]
    clear hw hg hrow hb pd c_g1_0 c_g1_1 c_g1_2 c_g3_0 c_g3_1 c_g3_2
    have c_g1_0 : w5.cell? ⟨g1, 0, none⟩ = some (.int .i64 A) := cell_of_row w5 g1 0 _ _ _ HR_g1.out
    have c_g1_1 : w5.cell? ⟨g1, 1, none⟩ = some (.int .i64 B) := cell_of_row w5 g1 1 _ _ _ HR_g1.out
    have c_g1_2 : w5.cell? ⟨g1, 2, none⟩ = some (.int .i64 C) := cell_of_row w5 g1 2 _ _ _ HR_g1.out
    have c_g3_0 : w5.cell? ⟨g3, 0, none⟩ = some (.int .i64 y) := cell_of_row w5 g3 0 _ _ _ HR_g3.out
    have c_g3_1 : w5.cell? ⟨g3, 1, none⟩ = some (.int .i64 m) := cell_of_row w5 g3 1 _ _ _ HR_g3.out
    have c_g3_2 : w5.cell? ⟨g3, 2, none⟩ = some (.int .i64 d) := cell_of_row w5 g3 2 _ _ _ HR_g3.out
    have c_g4_0 : w5.cell? ⟨g4, 0, none⟩ = some (.int .i64 y) := cell_of_row w5 g4 0 _ _ _ HR_g4.out
    have c_g4_1 : w5.cell? ⟨g4, 1, none⟩ = some (.int .i64 m) := cell_of_row w5 g4 1 _ _ _ HR_g4.out
    have c_g4_2 : w5.cell? ⟨g4, 2, none⟩ = some (.int .i64 d) := cell_of_row w5 g4 2 _ _ _ HR_g4.out
    have f_g4_0 : w5.frozen? ⟨g4, 0, none⟩ = false := frozen_of_row w5 g4 0 _ _ HR_g4.out
    have f_g4_1 : w5.frozen? ⟨g4, 1, none⟩ = false := frozen_of_row w5 g4 1 _ _ HR_g4.out
    have f_g4_2 : w5.frozen? ⟨g4, 2, none⟩ = false := frozen_of_row w5 g4 2 _ _ HR_g4.out
    go_upto_region 5 with fail
    obtain ⟨w6, hw⟩ : ∃ w6, w6 = w5.setCell ⟨g4, 0, none⟩ (.int .i64 (y + 400)) := ⟨_, rfl⟩
    have hrow : w6.heap[g4]? = some (.cells #[.int .i64 (y + 400), .int .i64 m, .int .i64 d] 23 (0, 0)) := by rw [hw]; exact heap_setCell_same _ _ _ _ _ _ HR_g4.out
    have hb : Below w.heap.size w w6 := by rw [hw]; exact ((((Kept.of_below (fun _ => False) HBP.out).setCell (fun h => absurd (show g4 < w.heap.size from h) (by have := HG_g4.out; omega)) _).below (Nat.le_refl _) (fun _ _ h => h)))
    have HTN : Hid (Tabs w6) := Lib.hid (HT0.out.below hb)
    have HBN : Hid (Below w.heap.size w w6) := Lib.hid hb
    have HRN : Hid (w6.heap[g1]? = some (.cells #[.int .i64 A, .int .i64 B, .int .i64 C] 23 (0, 0))) := Lib.hid (by rw [hw]; exact (heap_setCell_other _ _ _ _ HNE_g1_g4.out).trans HR_g1.out)
    clear HR_g1
    have HR_g1 := HRN
    clear HRN
    have HRN : Hid (w6.heap[g3]? = some (.cells #[.int .i64 y, .int .i64 m, .int .i64 d] 23 (0, 0))) := Lib.hid (by rw [hw]; exact (heap_setCell_other _ _ _ _ HNE_g3_g4.out).trans HR_g3.out)
    clear HR_g3
    have HR_g3 := HRN
    clear HRN
    clear HTP HBP HR_g4 c_g1_0 c_g1_1 c_g1_2 c_g3_0 c_g3_1 c_g3_2 c_g4_0 c_g4_1 c_g4_2 f_g4_0 f_g4_1 f_g4_2
    have HTP := HTN
    have HBP := HBN
    have HR_g4 := Lib.hid hrow
    rw [← hw]
    clear HTN HBN hw hrow hb
    have c_g1_0 : w6.cell? ⟨g1, 0, none⟩ = some (.int .i64 A) := cell_of_row w6 g1 0 _ _ _ HR_g1.out
    have c_g1_1 : w6.cell? ⟨g1, 1, none⟩ = some (.int .i64 B) := cell_of_row w6 g1 1 _ _ _ HR_g1.out
    have c_g1_2 : w6.cell? ⟨g1, 2, none⟩ = some (.int .i64 C) := cell_of_row w6 g1 2 _ _ _ HR_g1.out
    have c_g3_0 : w6.cell? ⟨g3, 0, none⟩ = some (.int .i64 y) := cell_of_row w6 g3 0 _ _ _ HR_g3.out
    have c_g3_1 : w6.cell? ⟨g3, 1, none⟩ = some (.int .i64 m) := cell_of_row w6 g3 1 _ _ _ HR_g3.out
    have c_g3_2 : w6.cell? ⟨g3, 2, none⟩ = some (.int .i64 d) := cell_of_row w6 g3 2 _ _ _ HR_g3.out
    have c_g4_0 : w6.cell? ⟨g4, 0, none⟩ = some (.int .i64 (y + 400)) := cell_of_row w6 g4 0 _ _ _ HR_g4.out
    have c_g4_1 : w6.cell? ⟨g4, 1, none⟩ = some (.int .i64 m) := cell_of_row w6 g4 1 _ _ _ HR_g4.out
    have c_g4_2 : w6.cell? ⟨g4, 2, none⟩ = some (.int .i64 d) := cell_of_row w6 g4 2 _ _ _ HR_g4.out
    have f_g4_0 : w6.frozen? ⟨g4, 0, none⟩ = false := frozen_of_row w6 g4 0 _ _ HR_g4.out
    have f_g4_1 : w6.frozen? ⟨g4, 1, none⟩ = false := frozen_of_row w6 g4 1 _ _ HR_g4.out
    have f_g4_2 : w6.frozen? ⟨g4, 2, none⟩ = false := frozen_of_row w6 g4 2 _ _ HR_g4.out
    go_upto_region 6 with (go_at_call 16; refine (D1.out _ HTP.out).mono ?_; rintro e v0 ⟨rfl, hb⟩; have HTN := Tab_stepD HTP hb; have HBN := Bel_stepD HBP hb; clear HTP HBP; have HTP := HTN; have HBP := HBN; clear HTN HBN; have HRN := Lib.hid ((hb.block g1 (heap_lt HR_g1.out)).trans HR_g1.out); clear HR_g1; have HR_g1 := HRN; clear HRN; have HRN := Lib.hid ((hb.block g3 (heap_lt HR_g3.out)).trans HR_g3.out); clear HR_g3; have HR_g3 := HRN; clear HRN; have HRN := Lib.hid ((hb.block g4 (heap_lt HR_g4.out)).trans HR_g4.out); clear HR_g4; have HR_g4 := HRN; clear HRN; clear c_g1_0 c_g1_1 c_g1_2 c_g3_0 c_g3_1 c_g3_2 c_g4_0 c_g4_1 c_g4_2; have c_g1_0 : v0.cell? ⟨g1, 0, none⟩ = some (.int .i64 A) := cell_of_row v0 g1 0 _ _ _ HR_g1.out; have c_g1_1 : v0.cell? ⟨g1, 1, none⟩ = some (.int .i64 B) := cell_of_row v0 g1 1 _ _ _ HR_g1.out; have c_g1_2 : v0.cell? ⟨g1, 2, none⟩ = some (.int .i64 C) := cell_of_row v0 g1 2 _ _ _ HR_g1.out; have c_g3_0 : v0.cell? ⟨g3, 0, none⟩ = some (.int .i64 y) := cell_of_row v0 g3 0 _ _ _ HR_g3.out; have c_g3_1 : v0.cell? ⟨g3, 1, none⟩ = some (.int .i64 m) := cell_of_row v0 g3 1 _ _ _ HR_g3.out; have c_g3_2 : v0.cell? ⟨g3, 2, none⟩ = some (.int .i64 d) := cell_of_row v0 g3 2 _ _ _ HR_g3.out; have c_g4_0 : v0.cell? ⟨g4, 0, none⟩ = some (.int .i64 (y + 400)) := cell_of_row v0 g4 0 _ _ _ HR_g4.out; have c_g4_1 : v0.cell? ⟨g4, 1, none⟩ = some (.int .i64 m) := cell_of_row v0 g4 1 _ _ _ HR_g4.out; have c_g4_2 : v0.cell? ⟨g4, 2, none⟩ = some (.int .i64 d) := cell_of_row v0 g4 2 _ _ _ HR_g4.out; clear hb)
    go_upto_region 7 with (go_at_call 16; refine (D2.out _ HTP.out).mono ?_; rintro e v1 ⟨rfl, hb⟩; have HTN := Tab_stepD HTP hb; have HBN := Bel_stepD HBP hb; clear HTP HBP; have HTP := HTN; have HBP := HBN; clear HTN HBN; have HRN := Lib.hid ((hb.block g1 (heap_lt HR_g1.out)).trans HR_g1.out); clear HR_g1; have HR_g1 := HRN; clear HRN; have HRN := Lib.hid ((hb.block g3 (heap_lt HR_g3.out)).trans HR_g3.out); clear HR_g3; have HR_g3 := HRN; clear HRN; have HRN := Lib.hid ((hb.block g4 (heap_lt HR_g4.out)).trans HR_g4.out); clear HR_g4; have HR_g4 := HRN; clear HRN; clear c_g1_0 c_g1_1 c_g1_2 c_g3_0 c_g3_1 c_g3_2 c_g4_0 c_g4_1 c_g4_2; have c_g1_0 : v1.cell? ⟨g1, 0, none⟩ = some (.int .i64 A) := cell_of_row v1 g1 0 _ _ _ HR_g1.out; have c_g1_1 : v1.cell? ⟨g1, 1, none⟩ = some (.int .i64 B) := cell_of_row v1 g1 1 _ _ _ HR_g1.out; have c_g1_2 : v1.cell? ⟨g1, 2, none⟩ = some (.int .i64 C) := cell_of_row v1 g1 2 _ _ _ HR_g1.out; have c_g3_0 : v1.cell? ⟨g3, 0, none⟩ = some (.int .i64 y) := cell_of_row v1 g3 0 _ _ _ HR_g3.out; have c_g3_1 : v1.cell? ⟨g3, 1, none⟩ = some (.int .i64 m) := cell_of_row v1 g3 1 _ _ _ HR_g3.out; have c_g3_2 : v1.cell? ⟨g3, 2, none⟩ = some (.int .i64 d) := cell_of_row v1 g3 2 _ _ _ HR_g3.out; have c_g4_0 : v1.cell? ⟨g4, 0, none⟩ = some (.int .i64 (y + 400)) := cell_of_row v1 g4 0 _ _ _ HR_g4.out; have c_g4_1 : v1.cell? ⟨g4, 1, none⟩ = some (.int .i64 m) := cell_of_row v1 g4 1 _ _ _ HR_g4.out; have c_g4_2 : v1.cell? ⟨g4, 2, none⟩ = some (.int .i64 d) := cell_of_row v1 g4 2 _ _ _ HR_g4.out; clear hb)
    go_upto_region 8 with (go_at_call 16; refine (D3.out _ HTP.out).mono ?_; rintro e v2 ⟨rfl, hb⟩; have HTN := Tab_stepD HTP hb; have HBN := Bel_stepD HBP hb; clear HTP HBP; have HTP := HTN; have HBP := HBN; clear HTN HBN; have HRN := Lib.hid ((hb.block g1 (heap_lt HR_g1.out)).trans HR_g1.out); clear HR_g1; have HR_g1 := HRN; clear HRN; have HRN := Lib.hid ((hb.block g3 (heap_lt HR_g3.out)).trans HR_g3.out); clear HR_g3; have HR_g3 := HRN; clear HRN; have HRN := Lib.hid ((hb.block g4 (heap_lt HR_g4.out)).trans HR_g4.out); clear HR_g4; have HR_g4 := HRN; clear HRN; clear c_g1_0 c_g1_1 c_g1_2 c_g3_0 c_g3_1 c_g3_2 c_g4_0 c_g4_1 c_g4_2; have c_g1_0 : v2.cell? ⟨g1, 0, none⟩ = some (.int .i64 A) := cell_of_row v2 g1 0 _ _ _ HR_g1.out; have c_g1_1 : v2.cell? ⟨g1, 1, none⟩ = some (.int .i64 B) := cell_of_row v2 g1 1 _ _ _ HR_g1.out; have c_g1_2 : v2.cell? ⟨g1, 2, none⟩ = some (.int .i64 C) := cell_of_row v2 g1 2 _ _ _ HR_g1.out; have c_g3_0 : v2.cell? ⟨g3, 0, none⟩ = some (.int .i64 y) := cell_of_row v2 g3 0 _ _ _ HR_g3.out; have c_g3_1 : v2.cell? ⟨g3, 1, none⟩ = some (.int .i64 m) := cell_of_row v2 g3 1 _ _ _ HR_g3.out; have c_g3_2 : v2.cell? ⟨g3, 2, none⟩ = some (.int .i64 d) := cell_of_row v2 g3 2 _ _ _ HR_g3.out; have c_g4_0 : v2.cell? ⟨g4, 0, none⟩ = some (.int .i64 (y + 400)) := cell_of_row v2 g4 0 _ _ _ HR_g4.out; have c_g4_1 : v2.cell? ⟨g4, 1, none⟩ = some (.int .i64 m) := cell_of_row v2 g4 1 _ _ _ HR_g4.out; have c_g4_2 : v2.cell? ⟨g4, 2, none⟩ = some (.int .i64 d) := cell_of_row v2 g4 2 _ _ _ HR_g4.out; clear hb)
    go_upto_region 9 with (go_at_call 16; refine (D4.out _ HTP.out).mono ?_; rintro e v3 ⟨rfl, hb⟩; have HTN := Tab_stepD HTP hb; have HBN := Bel_stepD HBP hb; clear HTP HBP; have HTP := HTN; have HBP := HBN; clear HTN HBN; have HRN := Lib.hid ((hb.block g1 (heap_lt HR_g1.out)).trans HR_g1.out); clear HR_g1; have HR_g1 := HRN; clear HRN; have HRN := Lib.hid ((hb.block g3 (heap_lt HR_g3.out)).trans HR_g3.out); clear HR_g3; have HR_g3 := HRN; clear HRN; have HRN := Lib.hid ((hb.block g4 (heap_lt HR_g4.out)).trans HR_g4.out); clear HR_g4; have HR_g4 := HRN; clear HRN; clear c_g1_0 c_g1_1 c_g1_2 c_g3_0 c_g3_1 c_g3_2 c_g4_0 c_g4_1 c_g4_2; have c_g1_0 : v3.cell? ⟨g1, 0, none⟩ = some (.int .i64 A) := cell_of_row v3 g1 0 _ _ _ HR_g1.out; have c_g1_1 : v3.cell? ⟨g1, 1, none⟩ = some (.int .i64 B) := cell_of_row v3 g1 1 _ _ _ HR_g1.out; have c_g1_2 : v3.cell? ⟨g1, 2, none⟩ = some (.int .i64 C) := cell_of_row v3 g1 2 _ _ _ HR_g1.out; have c_g3_0 : v3.cell? ⟨g3, 0, none⟩ = some (.int .i64 y) := cell_of_row v3 g3 0 _ _ _ HR_g3.out; have c_g3_1 : v3.cell? ⟨g3, 1, none⟩ = some (.int .i64 m) := cell_of_row v3 g3 1 _ _ _ HR_g3.out; have c_g3_2 : v3.cell? ⟨g3, 2, none⟩ = some (.int .i64 d) := cell_of_row v3 g3 2 _ _ _ HR_g3.out; have c_g4_0 : v3.cell? ⟨g4, 0, none⟩ = some (.int .i64 (y + 400)) := cell_of_row v3 g4 0 _ _ _ HR_g4.out; have c_g4_1 : v3.cell? ⟨g4, 1, none⟩ = some (.int .i64 m) := cell_of_row v3 g4 1 _ _ _ HR_g4.out; have c_g4_2 : v3.cell? ⟨g4, 2, none⟩ = some (.int .i64 d) := cell_of_row v3 g4 2 _ _ _ HR_g4.out; clear hb)
    cases hl : leapB y
    · have HLP : Hid (∀ u, Calls Tryd.prog 28 #[.int .i64 y] u fun e w' => e = .returned (.bool false) ∧ u = w') := Lib.hid (fun u => by rw [← hl]; exact leap_any y u)
      have hq : n2 - n1 = 365 := by have h := HDIF.out; rw [hl] at h; simpa using h
      have i6 : IntKind.i64.wrap (n2 - n1) = 365 := by rw [hq]; exact i64_id _ (by omega) (by omega)
      clear hl hq
      go_wp2_with (first
        | (go_at_call 28; refine (HLP.out _).mono ?_; rintro e w1 ⟨rfl, rfl⟩)
        | (go_at_call 26; refine (HWA.out _ _ (by first | exact .inl rfl | exact .inr rfl)).mono ?_; rintro e w1 ⟨rfl, rfl⟩)
        | (go_at_call 19; refine (lives_any _ HTP.out).mono ?_; rintro e w1 ⟨rfl, hb⟩; have HTN := Tab_stepD HTP hb; have HBN := Bel_stepD HBP hb; clear HTP HBP; have HTP := HTN; have HBP := HBN; clear HTN HBN; clear hb))
      go_ret
      exact ⟨rfl, HBP.out⟩
    · have HLP : Hid (∀ u, Calls Tryd.prog 28 #[.int .i64 y] u fun e w' => e = .returned (.bool true) ∧ u = w') := Lib.hid (fun u => by rw [← hl]; exact leap_any y u)
      have hq : n2 - n1 = 366 := by have h := HDIF.out; rw [hl] at h; simpa using h
      have i6 : IntKind.i64.wrap (n2 - n1) = 366 := by rw [hq]; exact i64_id _ (by omega) (by omega)
      clear hl hq
      go_wp2_with (first
        | (go_at_call 28; refine (HLP.out _).mono ?_; rintro e w1 ⟨rfl, rfl⟩)
        | (go_at_call 26; refine (HWA.out _ _ (by first | exact .inl rfl | exact .inr rfl)).mono ?_; rintro e w1 ⟨rfl, rfl⟩)
        | (go_at_call 19; refine (lives_any _ HTP.out).mono ?_; rintro e w1 ⟨rfl, hb⟩; have HTN := Tab_stepD HTP hb; have HBN := Bel_stepD HBP hb; clear HTP HBP; have HTP := HTN; have HBP := HBN; clear HTN HBN; clear hb))
      go_ret
      exact ⟨rfl, HBP.out⟩
end Go.Proofs.YtcoijmggfkjcjaaDoor

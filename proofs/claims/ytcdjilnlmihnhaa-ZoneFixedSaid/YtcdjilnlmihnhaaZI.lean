/-
  The law ZoneFixed (written by gen_ZI.py).
-/
import Derived.Test.YtcdjilnlmihnhaaZD
import Derived.Test.YtcdjilnlmihnhaaZA
import Derived.Test.YtcdjilnlmihnhaaR4
namespace Go.Proofs.Ytcdjilnlmihnhaa
open Go.RowKit
set_option linter.unusedSimpArgs false
set_option linter.unusedVariables false
attribute [local go_sem ↓] exec_loadShift exec_storeShift exec_loadSeg exec_storeSeg exec_loadZone exec_storeZone
attribute [local go_sem] run_storeShift run_storeSeg run_storeZone
theorem run_bldIZ (x : Int) (W : World) : (Instr.buildSlice 25 1 #[(0, .int .i64 x)]).run Try.prog W = .ok (.slice (some ⟨W.heap.size, 0, none⟩) 1 1) (W.alloc (.cells #[.int .i64 x] 3)) := by kernel_rfl
theorem Is.rowZ {w : World} {g : Nat} {l : List Int} (h : w.heap[g]? = some (.cells (ivals l).toArray 3 (0, 0))) (hm : l.length ≤ maxLen) : Is (fun _ => True) w (some ⟨g, 0, none⟩) l.length l.length l :=
  ⟨rfl, by rw [ivals_len, Nat.mul_one], Nat.le_refl _, hm, (fun h => by cases h), fun _ => ⟨g, 0, trivial, rfl, fun j v hv => by rw [Nat.zero_add, cell_of_row w g j _ _ _ h]; simpa using hv⟩⟩
def Dzf4 : List (Option Tmp) := [some 23, some 24, some 25, some 26, some 27, some 28, some 29, some 30, some 31, some 32, some 33, some 34, some 35, some 36, some 37, some 38, some 39, some 40, some 41, some 42, some 43, some 44, some 45, some 46, some 47, some 48, some 49, some 50, some 6]
def Lzf4 : List (List Nat) := [[], [], [1], [], [2, 3], [], [5], [4, 6], [7], [0, 8], [9], [10], [10], [10], [10], [11, 12, 13, 14, 10], [10], [16, 10], [10], [17, 18, 10], [10], [20, 10], [19, 21, 10], [15, 22, 10], [10, 23], [24], [25], [25, 26], [27]]
set_option maxRecDepth 100000 in
set_option maxHeartbeats 4000000 in
theorem fixed_law (x y : Int) (late : Bool) (w : World) (x1 : -9223372036854775808 ≤ x) (x2 : x ≤ 9223372036854775807) (y1 : -9223372036854775808 ≤ y) (y2 : y ≤ 9223372036854775807) : Calls Try.prog 10 #[.int .i64 x, .int .i64 y, .bool late] w fun e w' => e = .returned (.bool true) ∧ Below w.heap.size w w' := by
  have HLV := Lib.hid (fun u => lives_any u)
  have HBO := Lib.hid (fun u => boundZ_any x 900 u x1 x2 (by omega) (by omega))
  have hob := boundZ_bd x 900 (by omega)
  have HLO := Lib.hid (fun u => localZ_any y u y1 y2)
  have hkb := boundZ_bd y 500000 (by omega)
  obtain ⟨O, hO⟩ : ∃ O, O = boundZ x 900 := ⟨_, rfl⟩
  obtain ⟨k, hk⟩ : ∃ k, k = boundZ y 500000 := ⟨_, rfl⟩
  rw [← hO] at HBO hob
  rw [← hk] at HLO hkb
  obtain ⟨d, hd⟩ : ∃ d, d = k / 1440 := ⟨_, rfl⟩
  obtain ⟨s, hs⟩ : ∃ s, s = k % 1440 := ⟨_, rfl⟩
  rw [← hd, ← hs] at HLO
  obtain ⟨X, hX⟩ : ∃ X, X = k - O := ⟨_, rfl⟩
  have J1 : Hid (IntKind.i64.wrap (1440 * d) = 1440 * d) := Lib.hid (i64_id _ (by omega) (by omega))
  have J2 : Hid (IntKind.i64.wrap (1440 * d + s) = k) := Lib.hid (by rw [i64_id _ (by omega) (by omega)]; omega)
  have J3 : Hid (IntKind.i64.wrap (k - O) = X) := Lib.hid (by rw [i64_id _ (by omega) (by omega), hX])
  have HKB : Hid ((-500000 ≤ k ∧ k ≤ 500000) ∧ (-400 ≤ d ∧ d ≤ 400) ∧ (0 ≤ s ∧ s < 1440) ∧ k = 1440 * d + s) := Lib.hid (by omega)
  have HO := Lib.hid hob
  have ei : insP k (segL minI O []) = [X] := by
    rw [segL_nil, insP_cons, if_pos (by show minI ≤ k - O ∧ k - O < maxI; unfold minI maxI; omega), hX]; rfl
  have er : resP late k 0 (segL minI O []) = X := by
    rw [segL_nil, resP_end (by unfold minI; omega), hX]
    show min (k - O) maxI = _
    unfold maxI; omega
  have CI : Hid (∀ u, Calls Try.prog 22 #[.agg #[.int .i64 O, .slice none 0 0], .int .i64 d, .int .i64 s] u fun e w' => ∃ a c, e = .returned (.slice a 1 c) ∧ Is (fun _ => True) w' a 1 c [X] ∧ Below u.heap.size u w') := Lib.hid (fun u => by
    refine (instants_any (o := O) (day := d) (minute := s) (N := k) (Ss.nil (fun _ => True) u) HO.out (fun s h => by cases h) (by decide) (by have := HKB.out; omega) (by have := HKB.out; omega) (by have := HKB.out; omega) (by have := HKB.out; omega)).mono ?_
    rintro e w' ⟨v, rfl, hr, hb⟩
    rw [ei] at hr
    obtain ⟨a, n, c, rfl, hi⟩ := Is.row hr
    have hn : n = 1 := hi.1.symm
    subst hn
    exact ⟨a, c, rfl, hi.dom (fun _ _ => trivial), hb⟩)
  have CR0 : Hid (∀ u, Calls Try.prog 24 #[.agg #[.int .i64 O, .slice none 0 0], .int .i64 d, .int .i64 s, .bool late] u fun e w' => e = .returned (.int .i64 X) ∧ Below u.heap.size u w') := Lib.hid (fun u => by
    have h := resolve_any (o := O) (day := d) (minute := s) (N := k) (late := late) (Ss.nil (fun _ => True) u) HO.out (fun s h => by cases h) (by have := HKB.out; omega) (by have := HKB.out; omega) (by have := HKB.out; omega)
    rw [er] at h
    exact h)
  have b0 := run_bldZone0 O
  have p0 : ZoneB (w.alloc (.cells #[.int .i64 0, .slice none 0 0] 24)) w.heap.size := ⟨_, _, heap_newZ⟩
  clear hO hk hd hs hX hob hkb ei er
  go_enter Try.func10, Try.ntmps10
  go_upto_region 2 with (go_at_call 26; refine (HBO.out _).mono ?_; rintro e w2 ⟨rfl, rfl⟩)
  obtain ⟨W1, hW1⟩ : ∃ W1, W1 = (w.alloc (.cells #[.int .i64 0, .slice none 0 0] 24)).setRow w.heap.size #[.int .i64 O, .slice none 0 0] := ⟨_, rfl⟩
  obtain ⟨gz, hgz⟩ : ∃ gz, gz = w.heap.size := ⟨_, rfl⟩
  have hr1 : W1.heap[gz]? = some (.cells #[.int .i64 O, .slice none 0 0] 24 (0, 0)) := by rw [hW1, hgz]; exact setRow_heap _ _ _ _ _ _ heap_newZ
  have hb1 : Below w.heap.size w W1 := by rw [hW1]; exact (((Kept.refl (fun _ => False) w).alloc _).setRow (fun h => by omega) _).below (Nat.le_refl _) (fun _ _ h => h)
  rw [← hW1]
  rw [← hgz]
  have HW := Lib.hid hb1
  have HR := Lib.hid hr1
  have ldz := run_loadZone hr1
  clear hW1 hgz hr1 hb1 p0 b0
  go_upto_region 3 with (go_at_call 20; refine (HLO.out _).mono ?_; rintro e w2 ⟨rfl, rfl⟩)
  have CR : Hid (∀ u, Below W1.heap.size W1 u → Calls Try.prog 24 #[.agg #[.int .i64 O, .slice none 0 0], .int .i64 d, .int .i64 s, .bool late] u fun e w' => e = .returned (.int .i64 X) ∧ Below u.heap.size u w') := Lib.hid (fun u _ => CR0.out u)
  go_upto_region 4 with (go_at_call 22; refine (CI.out _).mono ?_; rintro e q1 ⟨ai, ci, rfl, hi, hb⟩; have HBP := Lib.hid hb; have HIS := Lib.hid hi; have HRN := Lib.hid ((hb.block gz (heap_lt HR.out)).trans HR.out); clear HR ldz hb hi; have HR := HRN; clear HRN)
  have HGZL := Lib.hid (heap_lt HR.out)
  have CZO : Hid (q1.cell? ⟨gz, 0, none⟩ = some (.int .i64 O)) := Lib.hid (cell_of_row q1 gz 0 _ _ _ HR.out)
  refine Roll.region_f 28 51 Dzf4 Lzf4 [(2, .bool late), (7, .pointer (some ⟨gz, 0, none⟩)), (8, .int .i64 d), (9, .int .i64 s), (10, .slice ai 1 ci)] (fun p => Below q1.heap.size q1 p) (fun p p2 => Below p.heap.size p p2) [fun vv p => vv = .slice ai 1 ci, fun vv p => vv = .int .i64 d, fun vv p => vv = .int .i64 (1440 * d), fun vv p => vv = .int .i64 s, fun vv p => vv = .int .i64 k, fun vv p => vv = .pointer (some ⟨gz, 0, none⟩), fun vv p => vv = .int .i64 O, fun vv p => vv = .int .i64 X, fun vv p => ∃ r, vv = .slice (some ⟨r, 0, none⟩) 1 1 ∧ q1.heap.size ≤ r ∧ p.heap[r]? = some (.cells #[.int .i64 X] 3 (0, 0)), fun vv p => vv = .bool true, fun vv p => vv = .bool true, fun vv p => vv = .agg #[.int .i64 O, .slice none 0 0], fun vv p => vv = .int .i64 d, fun vv p => vv = .int .i64 s, fun vv p => vv = .bool late, fun vv p => vv = .int .i64 X, fun vv p => vv = .int .i64 d, fun vv p => vv = .int .i64 (1440 * d), fun vv p => vv = .int .i64 s, fun vv p => vv = .int .i64 k, fun vv p => vv = .pointer (some ⟨gz, 0, none⟩), fun vv p => vv = .int .i64 O, fun vv p => vv = .int .i64 X, fun vv p => vv = .bool true, fun vv p => vv = .bool true, fun vv p => vv = .bool true, fun vv p => vv = .bool true, fun vv p => vv = .bool true] (by kernel_rfl) (by kernel_rfl) rfl ⟨rfl, rfl, rfl, rfl, rfl, trivial⟩ ((Below.refl _ _).drew) ?_ ?_ ?_
  · exact ⟨fun _ _ _ _ h => h, fun _ _ _ _ h => h, fun _ _ _ _ h => h, fun _ _ _ _ h => h, fun _ _ _ _ h => h, fun _ _ _ _ h => h, fun _ _ _ _ h => h, fun _ _ _ _ h => h, fun _ _ _ hs h => by obtain ⟨r, e1, e2, e3⟩ := h; exact ⟨r, e1, e2, (Kept.of_below (fun _ => False) hs).heap e3 (fun h => h)⟩, fun _ _ _ _ h => h, fun _ _ _ _ h => h, fun _ _ _ _ h => h, fun _ _ _ _ h => h, fun _ _ _ _ h => h, fun _ _ _ _ h => h, fun _ _ _ _ h => h, fun _ _ _ _ h => h, fun _ _ _ _ h => h, fun _ _ _ _ h => h, fun _ _ _ _ h => h, fun _ _ _ _ h => h, fun _ _ _ _ h => h, fun _ _ _ _ h => h, fun _ _ _ _ h => h, fun _ _ _ _ h => h, fun _ _ _ _ h => h, fun _ _ _ _ h => h, fun _ _ _ _ h => h, trivial⟩
  · intro b0 hN hlv
    refine ⟨?_, ?_, ?_, ?_, ?_, ?_, ?_, ?_, ?_, ?_, ?_, ?_, ?_, ?_, ?_, ?_, ?_, ?_, ?_, ?_, ?_, ?_, ?_, ?_, ?_, ?_, ?_, ?_, trivial⟩
    · intro vs p hI hp
      have e10 : (Roll.putD Dzf4 vs [] b0).eval (.tmp 10) = .slice ai 1 ci := (Roll.eval_old rfl).trans (hlv.at 4 (10, .slice ai 1 ci) rfl)
      clear hp hlv hN
      unfold Roll.Goes
      simp only [Lzf4, List.getD_cons_zero, List.getD_cons_succ]
      generalize Roll.putD Dzf4 vs [] b0 = a1 at *
      refine Roll.goes_val (w' := p) (.slice ai 1 ci) rfl ?_ ⟨hI, Below.refl _ _, rfl⟩
      (have ec : ∀ x, a1.eval (.const x) = x := fun _ => rfl); (have ef : ∀ x, a1.eval (.func x) = .func (.func x) #[] #[] := fun _ => rfl); generalize a1.eval = ρ at *
      skip
      go_simp <;> (intros; first | (exfalso; omega) | rfl | omega)
    · intro vs p hI hp
      have e8 : (Roll.putD Dzf4 vs [] b0).eval (.tmp 8) = .int .i64 d := (Roll.eval_old rfl).trans (hlv.at 2 (8, .int .i64 d) rfl)
      clear hp hlv hN
      unfold Roll.Goes
      simp only [Lzf4, List.getD_cons_zero, List.getD_cons_succ]
      generalize Roll.putD Dzf4 vs [] b0 = a1 at *
      refine Roll.goes_val (w' := p) (.int .i64 d) rfl ?_ ⟨hI, Below.refl _ _, rfl⟩
      (have ec : ∀ x, a1.eval (.const x) = x := fun _ => rfl); (have ef : ∀ x, a1.eval (.func x) = .func (.func x) #[] #[] := fun _ => rfl); generalize a1.eval = ρ at *
      skip
      go_simp <;> (intros; first | (exfalso; omega) | rfl | omega)
    · intro vs p hI hp
      have h1 : (vs 1) = .int .i64 d := hp 1 (by simp [Lzf4])
      have e24 : (Roll.putD Dzf4 vs [1] b0).eval (.tmp 24) = .int .i64 d := (Roll.eval_new 1 rfl (by decide) (by decide) (by omega)).trans h1
      clear hp hlv hN
      unfold Roll.Goes
      simp only [Lzf4, List.getD_cons_zero, List.getD_cons_succ]
      generalize Roll.putD Dzf4 vs [1] b0 = a1 at *
      have f0 := J1.out
      refine Roll.goes_val (w' := p) (.int .i64 (1440 * d)) rfl ?_ ⟨hI, Below.refl _ _, rfl⟩
      (have ec : ∀ x, a1.eval (.const x) = x := fun _ => rfl); (have ef : ∀ x, a1.eval (.func x) = .func (.func x) #[] #[] := fun _ => rfl); generalize a1.eval = ρ at *
      clear h1
      go_simp <;> (intros; first | (exfalso; omega) | rfl | omega)
    · intro vs p hI hp
      have e9 : (Roll.putD Dzf4 vs [] b0).eval (.tmp 9) = .int .i64 s := (Roll.eval_old rfl).trans (hlv.at 3 (9, .int .i64 s) rfl)
      clear hp hlv hN
      unfold Roll.Goes
      simp only [Lzf4, List.getD_cons_zero, List.getD_cons_succ]
      generalize Roll.putD Dzf4 vs [] b0 = a1 at *
      refine Roll.goes_val (w' := p) (.int .i64 s) rfl ?_ ⟨hI, Below.refl _ _, rfl⟩
      (have ec : ∀ x, a1.eval (.const x) = x := fun _ => rfl); (have ef : ∀ x, a1.eval (.func x) = .func (.func x) #[] #[] := fun _ => rfl); generalize a1.eval = ρ at *
      skip
      go_simp <;> (intros; first | (exfalso; omega) | rfl | omega)
    · intro vs p hI hp
      have h2 : (vs 2) = .int .i64 (1440 * d) := hp 2 (by simp [Lzf4])
      have h3 : (vs 3) = .int .i64 s := hp 3 (by simp [Lzf4])
      have e25 : (Roll.putD Dzf4 vs [2, 3] b0).eval (.tmp 25) = .int .i64 (1440 * d) := (Roll.eval_new 2 rfl (by decide) (by decide) (by omega)).trans h2
      have e26 : (Roll.putD Dzf4 vs [2, 3] b0).eval (.tmp 26) = .int .i64 s := (Roll.eval_new 3 rfl (by decide) (by decide) (by omega)).trans h3
      clear hp hlv hN
      unfold Roll.Goes
      simp only [Lzf4, List.getD_cons_zero, List.getD_cons_succ]
      generalize Roll.putD Dzf4 vs [2, 3] b0 = a1 at *
      have f0 := J2.out
      refine Roll.goes_val (w' := p) (.int .i64 k) rfl ?_ ⟨hI, Below.refl _ _, rfl⟩
      (have ec : ∀ x, a1.eval (.const x) = x := fun _ => rfl); (have ef : ∀ x, a1.eval (.func x) = .func (.func x) #[] #[] := fun _ => rfl); generalize a1.eval = ρ at *
      clear h2 h3
      go_simp <;> (intros; first | (exfalso; omega) | rfl | omega)
    · intro vs p hI hp
      have e7 : (Roll.putD Dzf4 vs [] b0).eval (.tmp 7) = .pointer (some ⟨gz, 0, none⟩) := (Roll.eval_old rfl).trans (hlv.at 1 (7, .pointer (some ⟨gz, 0, none⟩)) rfl)
      clear hp hlv hN
      unfold Roll.Goes
      simp only [Lzf4, List.getD_cons_zero, List.getD_cons_succ]
      generalize Roll.putD Dzf4 vs [] b0 = a1 at *
      refine Roll.goes_val (w' := p) (.pointer (some ⟨gz, 0, none⟩)) rfl ?_ ⟨hI, Below.refl _ _, rfl⟩
      (have ec : ∀ x, a1.eval (.const x) = x := fun _ => rfl); (have ef : ∀ x, a1.eval (.func x) = .func (.func x) #[] #[] := fun _ => rfl); generalize a1.eval = ρ at *
      skip
      go_simp <;> (intros; first | (exfalso; omega) | rfl | omega)
    · intro vs p hI hp
      have h5 : (vs 5) = .pointer (some ⟨gz, 0, none⟩) := hp 5 (by simp [Lzf4])
      have e28 : (Roll.putD Dzf4 vs [5] b0).eval (.tmp 28) = .pointer (some ⟨gz, 0, none⟩) := (Roll.eval_new 5 rfl (by decide) (by decide) (by omega)).trans h5
      clear hp hlv hN
      unfold Roll.Goes
      simp only [Lzf4, List.getD_cons_zero, List.getD_cons_succ]
      generalize Roll.putD Dzf4 vs [5] b0 = a1 at *
      have cf : p.cell? ⟨gz, 0, none⟩ = some (.int .i64 O) := (hI.cell (p := ⟨gz, 0, none⟩) HGZL.out).trans CZO.out
      refine Roll.goes_val (w' := p) (.int .i64 O) rfl ?_ ⟨hI, Below.refl _ _, rfl⟩
      (have ec : ∀ x, a1.eval (.const x) = x := fun _ => rfl); (have ef : ∀ x, a1.eval (.func x) = .func (.func x) #[] #[] := fun _ => rfl); generalize a1.eval = ρ at *
      clear h5
      go_simp <;> (intros; first | (exfalso; omega) | rfl | omega)
    · intro vs p hI hp
      have h4 : (vs 4) = .int .i64 k := hp 4 (by simp [Lzf4])
      have h6 : (vs 6) = .int .i64 O := hp 6 (by simp [Lzf4])
      have e27 : (Roll.putD Dzf4 vs [4, 6] b0).eval (.tmp 27) = .int .i64 k := (Roll.eval_new 4 rfl (by decide) (by decide) (by omega)).trans h4
      have e29 : (Roll.putD Dzf4 vs [4, 6] b0).eval (.tmp 29) = .int .i64 O := (Roll.eval_new 6 rfl (by decide) (by decide) (by omega)).trans h6
      clear hp hlv hN
      unfold Roll.Goes
      simp only [Lzf4, List.getD_cons_zero, List.getD_cons_succ]
      generalize Roll.putD Dzf4 vs [4, 6] b0 = a1 at *
      have f0 := J3.out
      refine Roll.goes_val (w' := p) (.int .i64 X) rfl ?_ ⟨hI, Below.refl _ _, rfl⟩
      (have ec : ∀ x, a1.eval (.const x) = x := fun _ => rfl); (have ef : ∀ x, a1.eval (.func x) = .func (.func x) #[] #[] := fun _ => rfl); generalize a1.eval = ρ at *
      clear h4 h6
      go_simp <;> (intros; first | (exfalso; omega) | rfl | omega)
    · intro vs p hI hp
      have h7 : (vs 7) = .int .i64 X := hp 7 (by simp [Lzf4])
      have e30 : (Roll.putD Dzf4 vs [7] b0).eval (.tmp 30) = .int .i64 X := (Roll.eval_new 7 rfl (by decide) (by decide) (by omega)).trans h7
      clear hp hlv hN
      unfold Roll.Goes
      simp only [Lzf4, List.getD_cons_zero, List.getD_cons_succ]
      generalize Roll.putD Dzf4 vs [7] b0 = a1 at *
      have hal : Below p.heap.size p (p.alloc (.cells #[.int .i64 X] 3)) := (Below.refl _ p).alloc (Nat.le_refl _) _
      refine Roll.goes_val (w' := p.alloc (.cells #[.int .i64 X] 3)) (.slice (some ⟨p.heap.size, 0, none⟩) 1 1) rfl (by have ec : ∀ x, a1.eval (.const x) = x := fun _ => rfl; have ef : ∀ x, a1.eval (.func x) = .func (.func x) #[] #[] := fun _ => rfl; have hbs := run_bldIZ X; generalize a1.eval = ρ at *; go_simp <;> (intros; first | (exfalso; omega) | rfl)) ⟨hI.trans (hal.mono hI.size), hal, p.heap.size, rfl, hI.size, heap_newZ⟩
    · intro vs p hI hp
      have h0 : (vs 0) = .slice ai 1 ci := hp 0 (by simp [Lzf4])
      have h8 : ∃ r, (vs 8) = .slice (some ⟨r, 0, none⟩) 1 1 ∧ q1.heap.size ≤ r ∧ p.heap[r]? = some (.cells #[.int .i64 X] 3 (0, 0)) := hp 8 (by simp [Lzf4])
      have e23 : (Roll.putD Dzf4 vs [0, 8] b0).eval (.tmp 23) = .slice ai 1 ci := (Roll.eval_new 0 rfl (by decide) (by decide) (by omega)).trans h0
      have e31 : (Roll.putD Dzf4 vs [0, 8] b0).eval (.tmp 31) = vs 8 := (Roll.eval_new 8 rfl (by decide) (by decide) (by omega))
      clear hp hlv hN
      unfold Roll.Goes
      simp only [Lzf4, List.getD_cons_zero, List.getD_cons_succ]
      generalize Roll.putD Dzf4 vs [0, 8] b0 = a1 at *
      obtain ⟨r, hv8, hr8, hc8⟩ := h8
      rw [hv8] at e31
      refine Roll.goes_call 21 #[.slice ai 1 ci, .slice (some ⟨r, 0, none⟩) 1 1] p rfl (by have ec : ∀ x, a1.eval (.const x) = x := fun _ => rfl; have ef : ∀ x, a1.eval (.func x) = .func (.func x) #[] #[] := fun _ => rfl; generalize a1.eval = ρ at *; go_simp) ?_
      refine (sameIntsZ_any _ _ _ _ _ _ _ _ _ _ _ (HIS.out.kept (Kept.of_below (fun _ => False) hI) (fun _ _ _ h => h)) (Is.rowZ (l := [X]) hc8 (by show 1 ≤ maxLen; decide))).mono ?_
      rintro q p2 ⟨rfl, hb⟩
      exact ⟨_, rfl, hI.trans (hb.mono hI.size), hb, by rw [beq_self_eq_true]; rfl⟩
    · intro vs p hI hp
      have h9 : (vs 9) = .bool true := hp 9 (by simp [Lzf4])
      have e32 : (Roll.putD Dzf4 vs [9] b0).eval (.tmp 32) = .bool true := (Roll.eval_new 9 rfl (by decide) (by decide) (by omega)).trans h9
      clear hp hlv hN
      unfold Roll.Goes
      simp only [Lzf4, List.getD_cons_zero, List.getD_cons_succ]
      generalize Roll.putD Dzf4 vs [9] b0 = a1 at *
      refine Roll.goes_val (w' := p) (.bool true) rfl ?_ ⟨hI, Below.refl _ _, rfl⟩
      (have ec : ∀ x, a1.eval (.const x) = x := fun _ => rfl); (have ef : ∀ x, a1.eval (.func x) = .func (.func x) #[] #[] := fun _ => rfl); generalize a1.eval = ρ at *
      clear h9
      go_simp <;> (intros; first | (exfalso; omega) | rfl | omega)
    · intro vs p hI hp
      have h10 : (vs 10) = .bool true := hp 10 (by simp [Lzf4])
      have e7 : (Roll.putD Dzf4 vs [10] b0).eval (.tmp 7) = .pointer (some ⟨gz, 0, none⟩) := (Roll.eval_old rfl).trans (hlv.at 1 (7, .pointer (some ⟨gz, 0, none⟩)) rfl)
      clear hp hlv hN
      refine ⟨fun hg => ?_, fun hg => absurd h10 hg⟩
      clear hg
      unfold Roll.Goes
      simp only [Lzf4, List.getD_cons_zero, List.getD_cons_succ]
      generalize Roll.putD Dzf4 vs [10] b0 = a1 at *
      have ldz := run_loadZone ((hI.block gz HGZL.out).trans HR.out)
      refine Roll.goes_val (w' := p) (.agg #[.int .i64 O, .slice none 0 0]) rfl ?_ ⟨hI, Below.refl _ _, rfl⟩
      (have ec : ∀ x, a1.eval (.const x) = x := fun _ => rfl); (have ef : ∀ x, a1.eval (.func x) = .func (.func x) #[] #[] := fun _ => rfl); generalize a1.eval = ρ at *
      clear h10
      go_simp <;> (intros; first | (exfalso; omega) | rfl | omega)
    · intro vs p hI hp
      have h10 : (vs 10) = .bool true := hp 10 (by simp [Lzf4])
      have e8 : (Roll.putD Dzf4 vs [10] b0).eval (.tmp 8) = .int .i64 d := (Roll.eval_old rfl).trans (hlv.at 2 (8, .int .i64 d) rfl)
      clear hp hlv hN
      refine ⟨fun hg => ?_, fun hg => absurd h10 hg⟩
      clear hg
      unfold Roll.Goes
      simp only [Lzf4, List.getD_cons_zero, List.getD_cons_succ]
      generalize Roll.putD Dzf4 vs [10] b0 = a1 at *
      refine Roll.goes_val (w' := p) (.int .i64 d) rfl ?_ ⟨hI, Below.refl _ _, rfl⟩
      (have ec : ∀ x, a1.eval (.const x) = x := fun _ => rfl); (have ef : ∀ x, a1.eval (.func x) = .func (.func x) #[] #[] := fun _ => rfl); generalize a1.eval = ρ at *
      clear h10
      go_simp <;> (intros; first | (exfalso; omega) | rfl | omega)
    · intro vs p hI hp
      have h10 : (vs 10) = .bool true := hp 10 (by simp [Lzf4])
      have e9 : (Roll.putD Dzf4 vs [10] b0).eval (.tmp 9) = .int .i64 s := (Roll.eval_old rfl).trans (hlv.at 3 (9, .int .i64 s) rfl)
      clear hp hlv hN
      refine ⟨fun hg => ?_, fun hg => absurd h10 hg⟩
      clear hg
      unfold Roll.Goes
      simp only [Lzf4, List.getD_cons_zero, List.getD_cons_succ]
      generalize Roll.putD Dzf4 vs [10] b0 = a1 at *
      refine Roll.goes_val (w' := p) (.int .i64 s) rfl ?_ ⟨hI, Below.refl _ _, rfl⟩
      (have ec : ∀ x, a1.eval (.const x) = x := fun _ => rfl); (have ef : ∀ x, a1.eval (.func x) = .func (.func x) #[] #[] := fun _ => rfl); generalize a1.eval = ρ at *
      clear h10
      go_simp <;> (intros; first | (exfalso; omega) | rfl | omega)
    · intro vs p hI hp
      have h10 : (vs 10) = .bool true := hp 10 (by simp [Lzf4])
      have e2 : (Roll.putD Dzf4 vs [10] b0).eval (.tmp 2) = .bool late := (Roll.eval_old rfl).trans (hlv.at 0 (2, .bool late) rfl)
      clear hp hlv hN
      refine ⟨fun hg => ?_, fun hg => absurd h10 hg⟩
      clear hg
      unfold Roll.Goes
      simp only [Lzf4, List.getD_cons_zero, List.getD_cons_succ]
      generalize Roll.putD Dzf4 vs [10] b0 = a1 at *
      refine Roll.goes_val (w' := p) (.bool late) rfl ?_ ⟨hI, Below.refl _ _, rfl⟩
      (have ec : ∀ x, a1.eval (.const x) = x := fun _ => rfl); (have ef : ∀ x, a1.eval (.func x) = .func (.func x) #[] #[] := fun _ => rfl); generalize a1.eval = ρ at *
      clear h10
      go_simp <;> (intros; first | (exfalso; omega) | rfl | omega)
    · intro vs p hI hp
      have h11 : (vs 11) = .agg #[.int .i64 O, .slice none 0 0] := hp 11 (by simp [Lzf4])
      have h12 : (vs 12) = .int .i64 d := hp 12 (by simp [Lzf4])
      have h13 : (vs 13) = .int .i64 s := hp 13 (by simp [Lzf4])
      have h14 : (vs 14) = .bool late := hp 14 (by simp [Lzf4])
      have h10 : (vs 10) = .bool true := hp 10 (by simp [Lzf4])
      have e34 : (Roll.putD Dzf4 vs [11, 12, 13, 14, 10] b0).eval (.tmp 34) = .agg #[.int .i64 O, .slice none 0 0] := (Roll.eval_new 11 rfl (by decide) (by decide) (by omega)).trans h11
      have e35 : (Roll.putD Dzf4 vs [11, 12, 13, 14, 10] b0).eval (.tmp 35) = .int .i64 d := (Roll.eval_new 12 rfl (by decide) (by decide) (by omega)).trans h12
      have e36 : (Roll.putD Dzf4 vs [11, 12, 13, 14, 10] b0).eval (.tmp 36) = .int .i64 s := (Roll.eval_new 13 rfl (by decide) (by decide) (by omega)).trans h13
      have e37 : (Roll.putD Dzf4 vs [11, 12, 13, 14, 10] b0).eval (.tmp 37) = .bool late := (Roll.eval_new 14 rfl (by decide) (by decide) (by omega)).trans h14
      clear hp hlv hN
      refine ⟨fun hg => ?_, fun hg => absurd h10 hg⟩
      clear hg
      unfold Roll.Goes
      simp only [Lzf4, List.getD_cons_zero, List.getD_cons_succ]
      generalize Roll.putD Dzf4 vs [11, 12, 13, 14, 10] b0 = a1 at *
      refine Roll.goes_call 24 #[.agg #[.int .i64 O, .slice none 0 0], .int .i64 d, .int .i64 s, .bool late] p rfl (by have ec : ∀ x, a1.eval (.const x) = x := fun _ => rfl; have ef : ∀ x, a1.eval (.func x) = .func (.func x) #[] #[] := fun _ => rfl; generalize a1.eval = ρ at *; go_simp) ?_
      refine (CR.out p (HBP.out.trans (hI.mono HBP.out.size))).mono ?_
      rintro q p2 ⟨rfl, hb⟩
      exact ⟨_, rfl, hI.trans (hb.mono hI.size), hb, rfl⟩
    · intro vs p hI hp
      have h10 : (vs 10) = .bool true := hp 10 (by simp [Lzf4])
      have e8 : (Roll.putD Dzf4 vs [10] b0).eval (.tmp 8) = .int .i64 d := (Roll.eval_old rfl).trans (hlv.at 2 (8, .int .i64 d) rfl)
      clear hp hlv hN
      refine ⟨fun hg => ?_, fun hg => absurd h10 hg⟩
      clear hg
      unfold Roll.Goes
      simp only [Lzf4, List.getD_cons_zero, List.getD_cons_succ]
      generalize Roll.putD Dzf4 vs [10] b0 = a1 at *
      refine Roll.goes_val (w' := p) (.int .i64 d) rfl ?_ ⟨hI, Below.refl _ _, rfl⟩
      (have ec : ∀ x, a1.eval (.const x) = x := fun _ => rfl); (have ef : ∀ x, a1.eval (.func x) = .func (.func x) #[] #[] := fun _ => rfl); generalize a1.eval = ρ at *
      clear h10
      go_simp <;> (intros; first | (exfalso; omega) | rfl | omega)
    · intro vs p hI hp
      have h16 : (vs 16) = .int .i64 d := hp 16 (by simp [Lzf4])
      have h10 : (vs 10) = .bool true := hp 10 (by simp [Lzf4])
      have e39 : (Roll.putD Dzf4 vs [16, 10] b0).eval (.tmp 39) = .int .i64 d := (Roll.eval_new 16 rfl (by decide) (by decide) (by omega)).trans h16
      clear hp hlv hN
      refine ⟨fun hg => ?_, fun hg => absurd h10 hg⟩
      clear hg
      unfold Roll.Goes
      simp only [Lzf4, List.getD_cons_zero, List.getD_cons_succ]
      generalize Roll.putD Dzf4 vs [16, 10] b0 = a1 at *
      have f0 := J1.out
      refine Roll.goes_val (w' := p) (.int .i64 (1440 * d)) rfl ?_ ⟨hI, Below.refl _ _, rfl⟩
      (have ec : ∀ x, a1.eval (.const x) = x := fun _ => rfl); (have ef : ∀ x, a1.eval (.func x) = .func (.func x) #[] #[] := fun _ => rfl); generalize a1.eval = ρ at *
      clear h16 h10
      go_simp <;> (intros; first | (exfalso; omega) | rfl | omega)
    · intro vs p hI hp
      have h10 : (vs 10) = .bool true := hp 10 (by simp [Lzf4])
      have e9 : (Roll.putD Dzf4 vs [10] b0).eval (.tmp 9) = .int .i64 s := (Roll.eval_old rfl).trans (hlv.at 3 (9, .int .i64 s) rfl)
      clear hp hlv hN
      refine ⟨fun hg => ?_, fun hg => absurd h10 hg⟩
      clear hg
      unfold Roll.Goes
      simp only [Lzf4, List.getD_cons_zero, List.getD_cons_succ]
      generalize Roll.putD Dzf4 vs [10] b0 = a1 at *
      refine Roll.goes_val (w' := p) (.int .i64 s) rfl ?_ ⟨hI, Below.refl _ _, rfl⟩
      (have ec : ∀ x, a1.eval (.const x) = x := fun _ => rfl); (have ef : ∀ x, a1.eval (.func x) = .func (.func x) #[] #[] := fun _ => rfl); generalize a1.eval = ρ at *
      clear h10
      go_simp <;> (intros; first | (exfalso; omega) | rfl | omega)
    · intro vs p hI hp
      have h17 : (vs 17) = .int .i64 (1440 * d) := hp 17 (by simp [Lzf4])
      have h18 : (vs 18) = .int .i64 s := hp 18 (by simp [Lzf4])
      have h10 : (vs 10) = .bool true := hp 10 (by simp [Lzf4])
      have e40 : (Roll.putD Dzf4 vs [17, 18, 10] b0).eval (.tmp 40) = .int .i64 (1440 * d) := (Roll.eval_new 17 rfl (by decide) (by decide) (by omega)).trans h17
      have e41 : (Roll.putD Dzf4 vs [17, 18, 10] b0).eval (.tmp 41) = .int .i64 s := (Roll.eval_new 18 rfl (by decide) (by decide) (by omega)).trans h18
      clear hp hlv hN
      refine ⟨fun hg => ?_, fun hg => absurd h10 hg⟩
      clear hg
      unfold Roll.Goes
      simp only [Lzf4, List.getD_cons_zero, List.getD_cons_succ]
      generalize Roll.putD Dzf4 vs [17, 18, 10] b0 = a1 at *
      have f0 := J2.out
      refine Roll.goes_val (w' := p) (.int .i64 k) rfl ?_ ⟨hI, Below.refl _ _, rfl⟩
      (have ec : ∀ x, a1.eval (.const x) = x := fun _ => rfl); (have ef : ∀ x, a1.eval (.func x) = .func (.func x) #[] #[] := fun _ => rfl); generalize a1.eval = ρ at *
      clear h17 h18 h10
      go_simp <;> (intros; first | (exfalso; omega) | rfl | omega)
    · intro vs p hI hp
      have h10 : (vs 10) = .bool true := hp 10 (by simp [Lzf4])
      have e7 : (Roll.putD Dzf4 vs [10] b0).eval (.tmp 7) = .pointer (some ⟨gz, 0, none⟩) := (Roll.eval_old rfl).trans (hlv.at 1 (7, .pointer (some ⟨gz, 0, none⟩)) rfl)
      clear hp hlv hN
      refine ⟨fun hg => ?_, fun hg => absurd h10 hg⟩
      clear hg
      unfold Roll.Goes
      simp only [Lzf4, List.getD_cons_zero, List.getD_cons_succ]
      generalize Roll.putD Dzf4 vs [10] b0 = a1 at *
      refine Roll.goes_val (w' := p) (.pointer (some ⟨gz, 0, none⟩)) rfl ?_ ⟨hI, Below.refl _ _, rfl⟩
      (have ec : ∀ x, a1.eval (.const x) = x := fun _ => rfl); (have ef : ∀ x, a1.eval (.func x) = .func (.func x) #[] #[] := fun _ => rfl); generalize a1.eval = ρ at *
      clear h10
      go_simp <;> (intros; first | (exfalso; omega) | rfl | omega)
    · intro vs p hI hp
      have h20 : (vs 20) = .pointer (some ⟨gz, 0, none⟩) := hp 20 (by simp [Lzf4])
      have h10 : (vs 10) = .bool true := hp 10 (by simp [Lzf4])
      have e43 : (Roll.putD Dzf4 vs [20, 10] b0).eval (.tmp 43) = .pointer (some ⟨gz, 0, none⟩) := (Roll.eval_new 20 rfl (by decide) (by decide) (by omega)).trans h20
      clear hp hlv hN
      refine ⟨fun hg => ?_, fun hg => absurd h10 hg⟩
      clear hg
      unfold Roll.Goes
      simp only [Lzf4, List.getD_cons_zero, List.getD_cons_succ]
      generalize Roll.putD Dzf4 vs [20, 10] b0 = a1 at *
      have cf : p.cell? ⟨gz, 0, none⟩ = some (.int .i64 O) := (hI.cell (p := ⟨gz, 0, none⟩) HGZL.out).trans CZO.out
      refine Roll.goes_val (w' := p) (.int .i64 O) rfl ?_ ⟨hI, Below.refl _ _, rfl⟩
      (have ec : ∀ x, a1.eval (.const x) = x := fun _ => rfl); (have ef : ∀ x, a1.eval (.func x) = .func (.func x) #[] #[] := fun _ => rfl); generalize a1.eval = ρ at *
      clear h20 h10
      go_simp <;> (intros; first | (exfalso; omega) | rfl | omega)
    · intro vs p hI hp
      have h19 : (vs 19) = .int .i64 k := hp 19 (by simp [Lzf4])
      have h21 : (vs 21) = .int .i64 O := hp 21 (by simp [Lzf4])
      have h10 : (vs 10) = .bool true := hp 10 (by simp [Lzf4])
      have e42 : (Roll.putD Dzf4 vs [19, 21, 10] b0).eval (.tmp 42) = .int .i64 k := (Roll.eval_new 19 rfl (by decide) (by decide) (by omega)).trans h19
      have e44 : (Roll.putD Dzf4 vs [19, 21, 10] b0).eval (.tmp 44) = .int .i64 O := (Roll.eval_new 21 rfl (by decide) (by decide) (by omega)).trans h21
      clear hp hlv hN
      refine ⟨fun hg => ?_, fun hg => absurd h10 hg⟩
      clear hg
      unfold Roll.Goes
      simp only [Lzf4, List.getD_cons_zero, List.getD_cons_succ]
      generalize Roll.putD Dzf4 vs [19, 21, 10] b0 = a1 at *
      have f0 := J3.out
      refine Roll.goes_val (w' := p) (.int .i64 X) rfl ?_ ⟨hI, Below.refl _ _, rfl⟩
      (have ec : ∀ x, a1.eval (.const x) = x := fun _ => rfl); (have ef : ∀ x, a1.eval (.func x) = .func (.func x) #[] #[] := fun _ => rfl); generalize a1.eval = ρ at *
      clear h19 h21 h10
      go_simp <;> (intros; first | (exfalso; omega) | rfl | omega)
    · intro vs p hI hp
      have h15 : (vs 15) = .int .i64 X := hp 15 (by simp [Lzf4])
      have h22 : (vs 22) = .int .i64 X := hp 22 (by simp [Lzf4])
      have h10 : (vs 10) = .bool true := hp 10 (by simp [Lzf4])
      have e38 : (Roll.putD Dzf4 vs [15, 22, 10] b0).eval (.tmp 38) = .int .i64 X := (Roll.eval_new 15 rfl (by decide) (by decide) (by omega)).trans h15
      have e45 : (Roll.putD Dzf4 vs [15, 22, 10] b0).eval (.tmp 45) = .int .i64 X := (Roll.eval_new 22 rfl (by decide) (by decide) (by omega)).trans h22
      clear hp hlv hN
      refine ⟨fun hg => ?_, fun hg => absurd h10 hg⟩
      clear hg
      unfold Roll.Goes
      simp only [Lzf4, List.getD_cons_zero, List.getD_cons_succ]
      generalize Roll.putD Dzf4 vs [15, 22, 10] b0 = a1 at *
      refine Roll.goes_val (w' := p) (.bool true) rfl ?_ ⟨hI, Below.refl _ _, rfl⟩
      (have ec : ∀ x, a1.eval (.const x) = x := fun _ => rfl); (have ef : ∀ x, a1.eval (.func x) = .func (.func x) #[] #[] := fun _ => rfl); generalize a1.eval = ρ at *
      clear h15 h22 h10
      go_simp <;> (intros; first | (exfalso; omega) | rfl | omega)
    · intro vs p hI hp
      have h10 : (vs 10) = .bool true := hp 10 (by simp [Lzf4])
      have h23 : (vs 23) = .bool true := hp 23 (by simp [Lzf4])
      have e33 : (Roll.putD Dzf4 vs [10, 23] b0).eval (.tmp 33) = .bool true := (Roll.eval_new 10 rfl (by decide) (by decide) (by omega)).trans h10
      have e46 : (Roll.putD Dzf4 vs [10, 23] b0).eval (.tmp 46) = .bool true := (Roll.eval_new 23 rfl (by decide) (by decide) (by omega)).trans h23
      clear hp hlv hN
      unfold Roll.Goes
      simp only [Lzf4, List.getD_cons_zero, List.getD_cons_succ]
      generalize Roll.putD Dzf4 vs [10, 23] b0 = a1 at *
      refine Roll.goes_val (w' := p) (.bool true) rfl ?_ ⟨hI, Below.refl _ _, rfl⟩
      (have ec : ∀ x, a1.eval (.const x) = x := fun _ => rfl); (have ef : ∀ x, a1.eval (.func x) = .func (.func x) #[] #[] := fun _ => rfl); generalize a1.eval = ρ at *
      clear h10 h23
      go_simp <;> (intros; first | (exfalso; omega) | rfl | omega)
    · intro vs p hI hp
      have h24 : (vs 24) = .bool true := hp 24 (by simp [Lzf4])
      have e47 : (Roll.putD Dzf4 vs [24] b0).eval (.tmp 47) = .bool true := (Roll.eval_new 24 rfl (by decide) (by decide) (by omega)).trans h24
      clear hp hlv hN
      unfold Roll.Goes
      simp only [Lzf4, List.getD_cons_zero, List.getD_cons_succ]
      generalize Roll.putD Dzf4 vs [24] b0 = a1 at *
      refine Roll.goes_val (w' := p) (.bool true) rfl ?_ ⟨hI, Below.refl _ _, rfl⟩
      (have ec : ∀ x, a1.eval (.const x) = x := fun _ => rfl); (have ef : ∀ x, a1.eval (.func x) = .func (.func x) #[] #[] := fun _ => rfl); generalize a1.eval = ρ at *
      clear h24
      go_simp <;> (intros; first | (exfalso; omega) | rfl | omega)
    · intro vs p hI hp
      have h25 : (vs 25) = .bool true := hp 25 (by simp [Lzf4])
      clear hp hlv hN
      refine ⟨fun hg => ?_, fun hg => absurd h25 hg⟩
      clear hg
      unfold Roll.Goes
      simp only [Lzf4, List.getD_cons_zero, List.getD_cons_succ]
      generalize Roll.putD Dzf4 vs [25] b0 = a1 at *
      refine Roll.goes_call 11 #[] p rfl (by have ec : ∀ x, a1.eval (.const x) = x := fun _ => rfl; have ef : ∀ x, a1.eval (.func x) = .func (.func x) #[] #[] := fun _ => rfl; generalize a1.eval = ρ at *; go_simp) ?_
      refine (HLV.out p).mono ?_
      rintro q p2 ⟨rfl, hb⟩
      exact ⟨_, rfl, hI.trans (hb.mono hI.size), hb, rfl⟩
    · intro vs p hI hp
      have h25 : (vs 25) = .bool true := hp 25 (by simp [Lzf4])
      have h26 : (vs 26) = .bool true := hp 26 (by simp [Lzf4])
      have e48 : (Roll.putD Dzf4 vs [25, 26] b0).eval (.tmp 48) = .bool true := (Roll.eval_new 25 rfl (by decide) (by decide) (by omega)).trans h25
      have e49 : (Roll.putD Dzf4 vs [25, 26] b0).eval (.tmp 49) = .bool true := (Roll.eval_new 26 rfl (by decide) (by decide) (by omega)).trans h26
      clear hp hlv hN
      unfold Roll.Goes
      simp only [Lzf4, List.getD_cons_zero, List.getD_cons_succ]
      generalize Roll.putD Dzf4 vs [25, 26] b0 = a1 at *
      refine Roll.goes_val (w' := p) (.bool true) rfl ?_ ⟨hI, Below.refl _ _, rfl⟩
      (have ec : ∀ x, a1.eval (.const x) = x := fun _ => rfl); (have ef : ∀ x, a1.eval (.func x) = .func (.func x) #[] #[] := fun _ => rfl); generalize a1.eval = ρ at *
      clear h25 h26
      go_simp <;> (intros; first | (exfalso; omega) | rfl | omega)
  · intro vs p hI hR
    have h0 : (vs 0) = .slice ai 1 ci := hR 0 (by omega)
    have h1 : (vs 1) = .int .i64 d := hR 1 (by omega)
    have h2 : (vs 2) = .int .i64 (1440 * d) := hR 2 (by omega)
    have h3 : (vs 3) = .int .i64 s := hR 3 (by omega)
    have h4 : (vs 4) = .int .i64 k := hR 4 (by omega)
    have h5 : (vs 5) = .pointer (some ⟨gz, 0, none⟩) := hR 5 (by omega)
    have h6 : (vs 6) = .int .i64 O := hR 6 (by omega)
    have h7 : (vs 7) = .int .i64 X := hR 7 (by omega)
    have h8 : ∃ r, (vs 8) = .slice (some ⟨r, 0, none⟩) 1 1 ∧ q1.heap.size ≤ r ∧ p.heap[r]? = some (.cells #[.int .i64 X] 3 (0, 0)) := hR 8 (by omega)
    have h9 : (vs 9) = .bool true := hR 9 (by omega)
    have h10 : (vs 10) = .bool true := hR 10 (by omega)
    have h11 : (vs 11) = .agg #[.int .i64 O, .slice none 0 0] := hR 11 (by omega)
    have h12 : (vs 12) = .int .i64 d := hR 12 (by omega)
    have h13 : (vs 13) = .int .i64 s := hR 13 (by omega)
    have h14 : (vs 14) = .bool late := hR 14 (by omega)
    have h15 : (vs 15) = .int .i64 X := hR 15 (by omega)
    have h16 : (vs 16) = .int .i64 d := hR 16 (by omega)
    have h17 : (vs 17) = .int .i64 (1440 * d) := hR 17 (by omega)
    have h18 : (vs 18) = .int .i64 s := hR 18 (by omega)
    have h19 : (vs 19) = .int .i64 k := hR 19 (by omega)
    have h20 : (vs 20) = .pointer (some ⟨gz, 0, none⟩) := hR 20 (by omega)
    have h21 : (vs 21) = .int .i64 O := hR 21 (by omega)
    have h22 : (vs 22) = .int .i64 X := hR 22 (by omega)
    have h23 : (vs 23) = .bool true := hR 23 (by omega)
    have h24 : (vs 24) = .bool true := hR 24 (by omega)
    have h25 : (vs 25) = .bool true := hR 25 (by omega)
    have h26 : (vs 26) = .bool true := hR 26 (by omega)
    have h27 : (vs 27) = .bool true := hR 27 (by omega)
    clear hR
    simp only [List.range_succ, List.range_zero, List.nil_append, List.cons_append, Roll.putD, Act.put, List.getD_cons_zero, List.getD_cons_succ, List.setIfInBounds_toArray, List.set_cons_zero, List.set_cons_succ, List.drop_succ_cons, List.drop_zero, Dzf4]
    simp only [h0, h1, h2, h3, h4, h5, h6, h7, h9, h10, h11, h12, h13, h14, h15, h16, h17, h18, h19, h20, h21, h22, h23, h24, h25, h26, h27]
    clear h0 h1 h2 h3 h4 h5 h6 h7 h9 h10 h11 h12 h13 h14 h15 h16 h17 h18 h19 h20 h21 h22 h23 h24 h25 h26 h27
    have HBE := Lib.hid (HBP.out.trans (hI.mono HBP.out.size))
    clear hI
    go_wp2_with fail
    go_ret
    exact ⟨rfl, HW.out.trans (HBE.out.mono HW.out.size)⟩
end Go.Proofs.Ytcdjilnlmihnhaa

/-
  The disk's New, Len, On, has, burn, Fuse.
-/
import Derived.Test.YtbnodhcgdgcebaaS2
import Derived.Deep.Cut
import Derived.Deep.RegionWith
import Derived.Deep.DrawnRows
import Derived.StillTailTactics
import Derived.Carry
namespace Go.Proofs.Ytbnodhcgdgcebaa
open Go.RowKit
set_option linter.unusedSimpArgs false
set_option linter.unusedVariables false
theorem cells64 : Z64.size = 64 := by simp [Z64]
theorem made_cells (n : Nat) : (madeCells Z64 (n * 64)).toList = scells ((List.replicate n [zeroB]).map dur) := by
  apply List.ext_getElem?
  intro i
  have h64 : ∀ b ∈ List.replicate n zeroB, b.length = 64 := fun b hb => by rw [List.eq_of_mem_replicate hb]; simp [zeroB]
  have e1 : (List.replicate n [zeroB]).map dur = List.replicate n zeroB := by simp [dur]
  rw [e1]
  have hz : ∀ j, j < 64 → Z64[j]? = some (.int .u8 0) := fun j hj => by unfold Z64; rw [List.getElem?_toArray, List.getElem?_replicate, if_pos hj]
  by_cases hi : i < n * 64
  · have e2 : i = i / 64 * 64 + i % 64 := by omega
    have hr : (scells (List.replicate n zeroB))[i]? = some (.int .u8 0) := by
      rw [e2, scells_get h64 (i / 64) (i % 64) (by simp; omega) (by omega)]
      rw [List.getElem_replicate]
      have ez : vals zeroB = List.replicate 64 (.int .u8 0) := by unfold vals zeroB; rw [List.map_replicate]; rfl
      rw [ez, List.getElem?_replicate, if_pos (Nat.mod_lt _ (by omega))]
    rw [hr]
    unfold madeCells
    have := hz (i % 64) (Nat.mod_lt _ (by omega))
    have h2 : Z64[i % 64]! = .int .u8 0 := by rw [getElem!_def, this]
    simp [hi, cells64, h2]
  · rw [List.getElem?_eq_none (by simp [madeCells]; omega), List.getElem?_eq_none (by rw [scells_len h64]; simp; omega)]
def ZC (n : Nat) : Array Value := madeCells Z64 (n * 64)
theorem ZC_size (n : Nat) : (ZC n).size = n * 64 := by unfold ZC; exact size_madeCells _ _
theorem run_make89 (n : Nat) (hn : n ≤ 4096) (W : World) :
    (Instr.makeSlice 89 (.int .i64 (n : Int)) (.int .i64 (n : Int))).run Try.prog W = .ok (.slice (some ⟨W.heap.size, 0, none⟩) n n) (W.alloc (.cells (ZC n) 94)) := by
  obtain ⟨i0, hi, hz0, hz1, hz2⟩ := info_parts info94
  have h := run_make (P := Try.prog) W 89 94 i0 (.agg Z64) Try.underlying89 hi hz0 .i64 .i64 (n : Int) (n : Int) (by omega) (Int.le_refl _) (by rw [hz2]; omega) (by omega)
  rw [h, hz1]
  simp [ZC, Value.cells]
theorem Dk.new (w : World) (n : Nat) (h1 : 1 ≤ n) (h2 : n ≤ 4096) :
    Dk (((w.alloc (.cells (ZC n) 94)).alloc (.map #[] 0)).alloc (.cells #[.slice (some ⟨w.heap.size, 0, none⟩) n n, .map (some (w.heap.size + 1)), .bool true, .int .i64 0] 92)) (w.heap.size + 2) w.heap.size (w.heap.size + 1) (fun _ => none) 0 (DM.new n) := by
  have hl : (DM.new n).S.length = n := by simp [DM.new]
  have hm := Mp.made (w.alloc (.cells (ZC n) 94))
  rw [size_alloc1] at hm
  refine ⟨DM.new_ok h1 h2, ⟨n, ZC n, ?_, ?_, by rw [hl]; exact Nat.le_refl _, by unfold maxLen; omega, ZC_size n, ?_⟩, ⟨_, _, hm.kept ((Kept.refl (fun _ => False) _).alloc _) (fun h => h), fun k h => absurd rfl h, fun k hk => .inl ⟨?_, rfl, rfl⟩⟩, (fun k j h => by cases h), (fun i j g' h => by cases h), (fun i g' h => by cases h)⟩
  · rw [hl]; exact heap_new (by simp only [size_alloc1])
  · exact heap_old (heap_old (heap_new rfl))
  · rw [hl]
    have e := made_cells n
    have e2 : (ZC n).toList = scells ((DM.new n).S.map dur) := e
    rw [e2, List.take_of_length_le (by rw [← e2]; simp [ZC_size])]
  · simp [DM.new]
theorem new_any (n : Nat) (w : World) (h1 : 1 ≤ n) (h2 : n ≤ 4096) :
    Calls Try.prog 19 #[.int .i64 (n : Int)] w fun e w' => ∃ g, e = .returned (.tuple #[.pointer (some ⟨g, 0, none⟩), .int .i64 0]) ∧ (∃ B, DkO w' B g 0 (DM.new n) ∧ ∀ j, B j → w.heap.size ≤ j) ∧ w.heap.size ≤ g ∧ Below w.heap.size w w' := by
  have hmk := run_make89 n h2
  have hmm := @run_makeMap Try.prog
  have HD := Lib.hid (Dk.new w n h1 h2)
  have HB : Hid (Below w.heap.size w (((w.alloc (.cells (ZC n) 94)).alloc (.map #[] 0)).alloc (.cells #[.slice (some ⟨w.heap.size, 0, none⟩) n n, .map (some (w.heap.size + 1)), .bool true, .int .i64 0] 92))) :=
    Lib.hid ((((Below.refl _ _).alloc (Nat.le_refl _) _).alloc (by simp only [size_alloc1]; omega) _).alloc (by simp only [size_alloc1]; omega) _)
  go_enter Try.func19, Try.ntmps19
  go_wp2
  go_ret2
  refine ⟨_, rfl, ⟨_, HD.out.own, ?_⟩, by omega, HB.out⟩
  rintro j (rfl | rfl | rfl | ⟨k, hk⟩)
  · omega
  · omega
  · omega
  · cases hk
theorem new_bad (n : Int) (w : World) (h : n < 1 ∨ 4096 < n) :
    Calls Try.prog 19 #[.int .i64 n] w fun e w' => e = .returned (.tuple #[.pointer none, .int .i64 5]) ∧ w = w' := by
  by_cases h1 : n < 1
  · go_enter Try.func19, Try.ntmps19
    go_wp2
    go_ret2
    exact ⟨rfl, rfl⟩
  · have h2 : 4096 < n := by omega
    have h3 : 1 ≤ n := by omega
    clear h h1
    go_enter Try.func19, Try.ntmps19
    go_wp2
    go_ret2
    exact ⟨rfl, rfl⟩
section
variable {w : World} {g gd gm : Nat} {row : Nat → Option Nat} {N : Nat} {d : DM}
theorem len_dk (h : Dk w g gd gm row N d) :
    Calls Try.prog 20 #[.pointer (some ⟨g, 0, none⟩)] w fun e w' => e = .returned (.int .i64 (d.S.length : Int)) ∧ w = w' := by
  obtain ⟨cap, h1, h2, c0, c1, c2, c3, f0⟩ := h.facts
  clear h
  go_enter Try.func20, Try.ntmps20
  go_wp2
  go_ret
  exact ⟨rfl, rfl⟩
theorem on_dk (h : Dk w g gd gm row N d) :
    Calls Try.prog 34 #[.pointer (some ⟨g, 0, none⟩)] w fun e w' => e = .returned (.bool d.on) ∧ w = w' := by
  obtain ⟨cap, h1, h2, c0, c1, c2, c3, f0⟩ := h.facts
  clear h
  go_enter Try.func34, Try.ntmps34
  go_wp2
  go_ret
  exact ⟨rfl, rfl⟩
def hasB (d : DM) (k : Int) : Bool := decide (0 ≤ k ∧ k < d.S.length)
theorem has_dk (h : Dk w g gd gm row N d) (k : Int) :
    Calls Try.prog 52 #[.pointer (some ⟨g, 0, none⟩), .int .i64 k] w fun e w' => e = .returned (.bool (hasB d k)) ∧ w = w' := by
  obtain ⟨cap, h1, h2, c0, c1, c2, c3, f0⟩ := h.facts
  obtain ⟨B, hB⟩ : ∃ B, B = hasB d k := ⟨_, rfl⟩
  rw [← hB]
  have HB := Lib.hid hB
  clear h hB
  by_cases h0 : 0 ≤ k
  · by_cases hk : k < d.S.length
    · have HT : Hid (B = true) := Lib.hid (by rw [HB.out, hasB, decide_eq_true ⟨h0, hk⟩])
      go_enter Try.func52, Try.ntmps52
      go_wp2
      go_ret
      exact ⟨by rw [HT.out]; rfl, rfl⟩
    · have HT : Hid (B = false) := Lib.hid (by rw [HB.out, hasB, decide_eq_false (fun h => hk h.2)])
      have hk2 : (d.S.length : Int) ≤ k := by omega
      have hk3 : decide (k < (d.S.length : Int)) = false := by simpa using hk2
      clear hk
      go_enter Try.func52, Try.ntmps52
      go_wp2
      go_ret
      exact ⟨by rw [HT.out]; rfl, rfl⟩
  · have HT : Hid (B = false) := Lib.hid (by rw [HB.out, hasB, decide_eq_false (fun h => h0 h.1)])
    have hd : decide (0 ≤ k) = false := by simpa using h0
    have hk2 : k < 0 := by omega
    clear h0
    go_enter Try.func52, Try.ntmps52
    go_wp2
    go_ret
    exact ⟨by rw [HT.out]; rfl, rfl⟩
/-- a field is stored -/
theorem Dk.setFuseC (h : Dk w g gd gm row N d) (x : Nat) (hx : x ≤ 9223372036854775807) : Dk (w.setCell ⟨g, 3, none⟩ (.int .i64 (x : Int))) g gd gm row N ⟨d.S, d.on, x⟩ := by
  have K : Kept (fun j => j = g) w (w.setCell ⟨g, 3, none⟩ (.int .i64 (x : Int))) := (Kept.refl (fun j => j = g) w).setCell (fun _ => rfl) _
  obtain ⟨hok, ⟨cap, cur, h1, h2, h3⟩, ⟨M, f, hm, hf, hr⟩, hdom, hinj, hap⟩ := h
  have hgd : gd ≠ g := by rintro rfl; rw [h1] at h2; simp at h2
  have hgm : gm ≠ g := by rintro rfl; obtain ⟨es, cl, hb, _⟩ := hm; rw [h1] at hb; cases hb
  refine ⟨⟨hok.1, hok.2.1, hx, hok.2.2.2⟩, ⟨cap, cur, ?_, K.heap h2 hgd, h3⟩, ⟨M, f, hm.kept K hgm, hf, fun k hk => ?_⟩, hdom, hinj, hap⟩
  · rw [heap_setCell_same w g 3 _ _ _ h1]; rfl
  · rcases hr k hk with h0 | ⟨h0, gk, v, hg, hv, ho⟩
    · exact .inl h0
    · refine .inr ⟨h0, gk, v, hg, hv, ho.kept K (fun j hj e => ?_)⟩
      cases hj
      subst e
      rcases ho.2 with ⟨hn, _⟩ | ⟨g', _, _, hg', _, hh, _⟩
      · cases hn
      · cases hg'; rw [h1] at hh; simp at hh
theorem Dk.setOnC (h : Dk w g gd gm row N d) (b : Bool) : Dk (w.setCell ⟨g, 2, none⟩ (.bool b)) g gd gm row N ⟨d.S, b, d.fuse⟩ := by
  have K : Kept (fun j => j = g) w (w.setCell ⟨g, 2, none⟩ (.bool b)) := (Kept.refl (fun j => j = g) w).setCell (fun _ => rfl) _
  obtain ⟨hok, ⟨cap, cur, h1, h2, h3⟩, ⟨M, f, hm, hf, hr⟩, hdom, hinj, hap⟩ := h
  have hgd : gd ≠ g := by rintro rfl; rw [h1] at h2; simp at h2
  have hgm : gm ≠ g := by rintro rfl; obtain ⟨es, cl, hb, _⟩ := hm; rw [h1] at hb; cases hb
  refine ⟨hok, ⟨cap, cur, ?_, K.heap h2 hgd, h3⟩, ⟨M, f, hm.kept K hgm, hf, fun k hk => ?_⟩, hdom, hinj, hap⟩
  · rw [heap_setCell_same w g 2 _ _ _ h1]; rfl
  · rcases hr k hk with h0 | ⟨h0, gk, v, hg, hv, ho⟩
    · exact .inl h0
    · refine .inr ⟨h0, gk, v, hg, hv, ho.kept K (fun j hj e => ?_)⟩
      cases hj
      subst e
      rcases ho.2 with ⟨hn, _⟩ | ⟨g', _, _, hg', _, hh, _⟩
      · cases hn
      · cases hg'; rw [h1] at hh; simp at hh
theorem kept_two {w : World} {g i j : Nat} (x y : Value) : Kept (fun b => b = g) w ((w.setCell ⟨g, i, none⟩ x).setCell ⟨g, j, none⟩ y) :=
  ((Kept.refl (fun b => b = g) w).setCell (p := ⟨g, i, none⟩) (fun _ => rfl) _).setCell (p := ⟨g, j, none⟩) (fun _ => rfl) _
theorem burn_dk (h : Dk w g gd gm row N d) :
    Calls Try.prog 54 #[.pointer (some ⟨g, 0, none⟩)] w fun e w' => e = .returned (.tuple #[]) ∧ Dk w' g gd gm row N d.burn ∧ Kept (fun j => j = g) w w' := by
  obtain ⟨cap, h1, h2, c0, c1, c2, c3, f0⟩ := h.facts
  have hfu := h.ok.2.2.1
  have H := Lib.hid h
  clear h
  by_cases hf : d.fuse = 0
  · have HB : Hid (d.burn = d) := Lib.hid (by unfold DM.burn; rw [if_pos hf])
    have hf2 : ((d.fuse : Int) == 0) = true := by rw [hf]; rfl
    have HF := Lib.hid hf
    clear hf
    go_enter Try.func54, Try.ntmps54
    go_wp2
    exact bodyPost_ret (results_none rfl _ _ _) rfl ⟨rfl, by rw [HB.out]; exact H.out, Kept.refl _ _⟩
  · have hf2 : ((d.fuse : Int) == 0) = false := by rw [beq_eq_false_iff_ne]; omega
    have hfp : 1 ≤ d.fuse := by omega
    have e1 : IntKind.i64.wrap ((d.fuse : Int) - 1) = (d.fuse : Int) - 1 := i64_id _ (by omega) (by omega)
    have f2 := f0 2
    have f3 := f0 3
    have D1 := H.out.setFuseC (d.fuse - 1) (by omega)
    rw [show ((d.fuse - 1 : Nat) : Int) = (d.fuse : Int) - 1 by omega] at D1
    have D2 := D1.setOnC (decide (1 < (d.fuse : Int)))
    have HB : Hid (d.burn = ⟨d.S, decide (1 < (d.fuse : Int)), d.fuse - 1⟩) := Lib.hid (by
      unfold DM.burn; rw [if_neg hf]; congr 1; rw [decide_eq_decide]; omega)
    have HD2 := Lib.hid D2
    clear hf D1 D2 f0
    go_enter Try.func54, Try.ntmps54
    go_wp2
    go_end0
    exact ⟨rfl, by rw [HB.out]; exact HD2.out, kept_two _ _⟩
theorem fuse_dk (h : Dk w g gd gm row N d) (n : Int) (h1 : -9223372036854775808 ≤ n) (h2 : n ≤ 9223372036854775807) :
    Calls Try.prog 29 #[.pointer (some ⟨g, 0, none⟩), .int .i64 n] w fun e w' => e = .returned (.tuple #[]) ∧ Dk w' g gd gm row N (d.setFuse n) ∧ Kept (fun j => j = g) w w' := by
  obtain ⟨cap, hc1, hc2, c0, c1, c2, c3, f0⟩ := h.facts
  have f2 := f0 2
  have f3 := f0 3
  have H := Lib.hid h
  clear h f0
  cases hon : d.on with
  | false =>
    rw [hon] at c2
    have HS : Hid (d.setFuse n = d) := Lib.hid (by unfold DM.setFuse; rw [hon]; rfl)
    clear hon
    go_enter Try.func29, Try.ntmps29
    go_wp2
    exact bodyPost_ret (results_none rfl _ _ _) rfl ⟨rfl, by rw [HS.out]; exact H.out, Kept.refl _ _⟩
  | true =>
    rw [hon] at c2
    have HS : Hid (d.setFuse n = ⟨d.S, n != 0, n.toNat⟩) := Lib.hid (by unfold DM.setFuse; rw [hon]; rfl)
    by_cases hn : 0 ≤ n
    · obtain ⟨m, rfl⟩ : ∃ m : Nat, n = (m : Int) := ⟨n.toNat, by omega⟩
      have hmx : max (m : Int) 0 = (m : Int) := by omega
      have D2 := (H.out.setFuseC m (by omega)).setOnC ((m : Int) != 0)
      have HS2 : Hid (d.setFuse (m : Int) = ⟨d.S, (m : Int) != 0, m⟩) := Lib.hid (by rw [HS.out, Int.toNat_natCast])
      have HD2 := Lib.hid D2
      clear hon D2 HS
      go_enter Try.func29, Try.ntmps29
      go_wp2
      go_end0
      exact ⟨rfl, by rw [HS2.out]; exact HD2.out, kept_two _ _⟩
    · have hmx : max n 0 = 0 := by omega
      have hne : (n != 0) = true := by rw [bne_iff_ne]; omega
      have D2 := (H.out.setFuseC 0 (by omega)).setOnC true
      have HS2 : Hid (d.setFuse n = ⟨d.S, true, 0⟩) := Lib.hid (by rw [HS.out, hne, show n.toNat = 0 by omega])
      have HD2 := Lib.hid D2
      clear hon D2 HS
      go_enter Try.func29, Try.ntmps29
      go_wp2
      go_end0
      exact ⟨rfl, by rw [HS2.out]; exact HD2.out, kept_two _ _⟩
end
end Go.Proofs.Ytbnodhcgdgcebaa

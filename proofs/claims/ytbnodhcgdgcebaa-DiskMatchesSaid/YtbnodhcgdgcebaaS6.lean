/-
  The disk's Write.
-/
import Derived.Test.YtbnodhcgdgcebaaS5
import Derived.Test.YtbnodhcgdgcebaaR0
import Derived.Test.YtbnodhcgdgcebaaR1
import Derived.Test.YtbnodhcgdgcebaaR3
import Derived.Laws.CopyOwn
namespace Go.Proofs.Ytbnodhcgdgcebaa
open Go.RowKit
set_option linter.unusedSimpArgs false
set_option linter.unusedVariables false
def Dw31 : List (Option Tmp) := [some 23, some 24, some 25, some 26, some 27, some 28, some 29, some 30, some 31, some 32, some 33, some 34, some 35, some 36, none]
def Lw31 : List (List Nat) := [[], [0], [1], [2], [], [], [5], [6], [7], [], [8, 9], [], [11], [10, 12], [3, 4, 13]]
theorem Dk.look {w : World} {g gd gm : Nat} {row : Nat → Option Nat} {N : Nat} {d : DM} (h : Dk w g gd gm row N d) (k : Nat) (hk : k < d.S.length) :
    ∃ v0, Own w 94 64 (row k) v0 d.S[k].tail.length (scells d.S[k].tail) ∧ ∀ (S : Nat → Prop) p, ¬ S gm → Kept S w p → (Instr.lookup 90 (.map (some gm)) (.int .i64 (k : Int)) false).run Try.prog p = .ok v0 p := by
  obtain ⟨M, f, hm, hf, hr⟩ := h.map
  have hn4 := h.ok.2.1
  have wfk : (Lit.int .i64 (k : Int)).wf = true := WalkArith.wf_i64 (by omega)
  have hlk : ∀ (S : Nat → Prop) p, ¬ S gm → Kept S w p → _ := fun S p hS hK => (hm.kept hK hS).look (P := Try.prog) (t := 90) (kt := 3) (et := 89) (z := .slice none 0 0) Try.underlying90 Try.underlying3 (by kernel_rfl) (k : Int) wfk false
  rcases hr k hk with ⟨h0, hfk, hrow⟩ | ⟨h0, gk, v, hrow, hfk, ho⟩
  · refine ⟨.slice none 0 0, by rw [h0, hrow]; exact Own.nil _ _ _, fun S p hS hK => ?_⟩
    have := hlk S p hS hK
    rw [hfk] at this
    exact this
  · refine ⟨v, by rw [hrow]; exact ho, fun S p hS hK => ?_⟩
    have := hlk S p hS hK
    rw [hfk] at this
    exact this
section
variable {w : World} {g gd gm : Nat} {row : Nat → Option Nat} {N : Nat} {d : DM}
theorem write_arg (p a : Option Addr) (k : Int) (n c : Nat) (w : World) (hn : n ≠ 64) (hn2 : n ≤ 9223372036854775807) :
    Calls Try.prog 31 #[.pointer p, .int .i64 k, .slice a n c] w fun e w' => e = .returned (.int .i64 1) ∧ w = w' := by
  have hne : ((n : Int) != 64) = true := by rw [bne_iff_ne]; omega
  go_enter Try.func31, Try.ntmps31
  go_wp2
  go_ret
  exact ⟨rfl, rfl⟩
theorem write_no (h : Dk w g gd gm row N d) (a : Option Addr) (c : Nat) (k : Int) (hk : hasB d k = false) :
    Calls Try.prog 31 #[.pointer (some ⟨g, 0, none⟩), .int .i64 k, .slice a 64 c] w fun e w' => e = .returned (.int .i64 5) ∧ w = w' := by
  have hC := has_dk h k
  rw [hk] at hC
  have HC := Lib.hid hC
  clear h hC hk
  go_enter Try.func31, Try.ntmps31
  go_wp2_with (go_at_call 52; refine HC.out.mono ?_; rintro e w1 ⟨rfl, rfl⟩)
  go_ret
  exact ⟨rfl, rfl⟩
theorem write_off (h : Dk w g gd gm row N d) (a : Option Addr) (c : Nat) (k : Int) (hk : hasB d k = true) (ho : d.on = false) :
    Calls Try.prog 31 #[.pointer (some ⟨g, 0, none⟩), .int .i64 k, .slice a 64 c] w fun e w' => e = .returned (.int .i64 10) ∧ w = w' := by
  have hC := has_dk h k
  rw [hk] at hC
  have HC := Lib.hid hC
  obtain ⟨cap, h1, h2, c0, c1, c2, c3, f0⟩ := h.facts
  rw [ho] at c2
  clear h hC hk ho
  go_enter Try.func31, Try.ntmps31
  go_wp2_with (go_at_call 52; refine HC.out.mono ?_; rintro e w1 ⟨rfl, rfl⟩)
  go_ret
  exact ⟨rfl, rfl⟩
set_option maxRecDepth 100000 in
set_option maxHeartbeats 2000000 in
theorem write_ok (h : Dk w g gd gm row N d) {Z : Nat → Prop} {a : Option Addr} {c : Nat} {l : List UInt8} (hB : Bs Z w a 64 c l) (k : Nat) (hk : k < d.S.length) (ho : d.on = true) (hN : N ≤ 100000) :
    Calls Try.prog 31 #[.pointer (some ⟨g, 0, none⟩), .int .i64 (k : Int), .slice a 64 c] w fun e w' => e = .returned (.int .i64 0) ∧
      ∃ row', Dk w' g gd gm row' (N + 1) (d.write k l) ∧ Kept (Blk g gd gm row) w w' ∧ ∀ j, Blk g gd gm row' j → Blk g gd gm row j ∨ w.heap.size ≤ j := by
  have hC := has_dk h (k : Int)
  rw [show hasB d (k : Int) = true by unfold hasB; rw [decide_eq_true]; omega] at hC
  have HC := Lib.hid hC
  obtain ⟨cap, h1, h2, c0, c1, c2, c3, f0⟩ := h.facts
  rw [ho] at c2
  obtain ⟨i0, hi0, hz0, hz1, hz2⟩ := info_parts info94
  obtain ⟨n1, n2, n3, n4⟩ := h.g_ne
  have hlt := h.lt
  obtain ⟨v0, hO, hLK⟩ := h.look k hk
  obtain ⟨hl, _, hc64, hcm, _, hsl⟩ := hB
  obtain ⟨b, off, hZ, rfl, hra⟩ := hsl (by omega)
  have hbl := range_lt hra (by rw [vals_len]; omega)
  obtain ⟨hne, hsN, hs64⟩ := h.ok.2.2.2 _ (List.getElem_mem hk)
  have Hm : Hid (d.S[k].tail.length ≤ 100000) := Lib.hid (by rw [List.length_tail]; omega)
  obtain ⟨xs, hxs⟩ : ∃ xs, xs = d.S[k].tail := ⟨_, rfl⟩
  rw [← hxs] at hO Hm
  obtain ⟨m, hm⟩ : ∃ m, m = xs.length := ⟨_, rfl⟩
  rw [← hm] at hO Hm
  have Hxs := Lib.hid hxs
  have Hmm := Lib.hid hm
  have Hl := Lib.hid hl
  have H := Lib.hid h
  obtain ⟨w1, hw1⟩ : ∃ w1, w1 = (w.alloc (.cells Z64 94)).setRow w.heap.size (vals l).toArray := ⟨_, rfl⟩
  have hb1 : Below w.heap.size w w1 := by rw [hw1]; exact below_setRow ((Below.refl _ _).alloc (Nat.le_refl _) _) (Nat.le_refl _) _
  have hn1 : w1.heap[w.heap.size]? = some (.cells (vals l).toArray 94 (0, 0)) := by rw [hw1]; exact setRow_heap _ _ _ _ _ _ (heap_new rfl)
  have hng : ¬ row k = some g := fun e => (n4 k g e).1 rfl
  have hngm : ¬ row k = some gm := fun e => (n4 k gm e).2 rfl
  have hrk : ∀ j, row k = some j → j < w.heap.size := fun j hj => hlt j (.inr (.inr (.inr ⟨k, hj⟩)))
  have Hb1 := Lib.hid hb1
  have Hn1 := Lib.hid hn1
  have Hw1 := Lib.hid hw1
  have HK0 : Hid (Kept (fun _ => False) w w1) := Lib.hid (Kept.of_below _ hb1)
  have HK1 : Hid (Kept (fun j => row k = some j) w w1) := Lib.hid (Kept.of_below _ hb1)
  have Hs1 : Hid (w.heap.size ≤ w1.heap.size) := Lib.hid hb1.size
  have C1 : Hid (w1.cell? ⟨g, 1, none⟩ = some (.map (some gm))) := Lib.hid ((hb1.cell (p := ⟨g, 1, none⟩) (hlt g (.inl rfl))).trans c1)
  have Hg1 : Hid (g < w1.heap.size) := Lib.hid (Nat.lt_of_lt_of_le (hlt g (.inl rfl)) hb1.size)
  have Hng := Lib.hid hng
  have Hns : Hid (¬ row k = some w.heap.size) := Lib.hid (fun e => by have := hrk _ e; omega)
  have Hrk : Hid (∀ j, row k = some j → j < w1.heap.size) := Lib.hid (fun j hj => Nat.lt_of_lt_of_le (hrk j hj) hb1.size)
  have HLK := Lib.hid (fun p hp => hLK (fun j => row k = some j) p hngm hp)
  have HO := Lib.hid hO
  have HS : Hid ((Z64.toList.take 0 ++ (vals l ++ Z64.toList.drop (0 + (vals l).length))).toArray = (vals l).toArray) := Lib.hid (by rw [vals_len, hl]; simp [Z64])
  have Hhk : Hid (∀ j v, (vals l)[j]? = some v → (w.alloc (.cells Z64 94)).cell? ((⟨b, off, none⟩ : Addr).add j) = some v) := Lib.hid (fun j v hv => by
    rw [Addr.add_mid]
    exact (((Below.refl w.heap.size w).alloc (Nat.le_refl _) _).cell (p := ⟨b, off + j, none⟩) hbl).trans (hra j v hv))
  clear h hC ho hlt hO hLK hl hcm hsl hra hbl hne hsN hs64 hxs hm hw1 hb1 hn1 hng hngm hrk n1 n2 n3 n4 hZ
  go_enter Try.func31, Try.ntmps31
  go_upto_region 9 with (first
    | (go_at_call 52; refine HC.out.mono ?_; rintro e w1 ⟨rfl, rfl⟩)
    | (refine wpList_alloc_z rfl 94 rfl Z64 94 run_alloc94 ?_)
    | (refine wpList_copy_own rfl (.tmp 20) (.tmp 21) 32 32 rfl 5 Try.underlying32 (by kernel_rfl) w.heap.size 0 64 64 ⟨b, off, none⟩ 64 c rfl rfl Z64 94 (heap_new rfl) (vals l) (by rw [vals_len, Hl.out]; rfl) Hhk.out (by rw [vals_len, Hl.out, cells64]; exact Nat.le_refl _) (vals_one l) ?_; rw [HS.out]))
  rw [← Hw1.out]
  refine Roll.region_w 14 39 Dw31 Lw31 [(0, .pointer (some ⟨g, 0, none⟩)), (1, .int .i64 (k : Int)), (7, .pointer (some ⟨w.heap.size, 0, none⟩))] 13 [true, true, true, true, true, true, true, true, true, true, true, true, false, false] (fun p => Kept (fun _ => False) w1 p) (fun vv p => Kept (fun j => row k = some j) w1 p ∧ ∃ k2, Own p 94 64 (some k2) vv (m + 1) (scells xs ++ vals l) ∧ (row k = some k2 ∨ w.heap.size ≤ k2)) (fun p => Kept (fun j => row k = some j) w1 p) (fun p p2 => Kept (fun j => row k = some j) p p2) [fun vv p => (vv 0) = .pointer (some ⟨g, 0, none⟩), fun vv p => (vv 1) = .pointer (some ⟨g, 0, none⟩), fun vv p => (vv 2) = .pointer (some ⟨g, 1, none⟩), fun vv p => (vv 3) = .map (some gm), fun vv p => (vv 4) = .int .i64 (k : Int), fun vv p => (vv 5) = .pointer (some ⟨g, 0, none⟩), fun vv p => (vv 6) = .pointer (some ⟨g, 0, none⟩), fun vv p => (vv 7) = .pointer (some ⟨g, 1, none⟩), fun vv p => (vv 8) = .map (some gm), fun vv p => (vv 9) = .int .i64 (k : Int), fun vv p => (vv 10) = v0, fun vv p => (vv 11) = .agg (vals l).toArray, fun vv p => ∃ gb, (vv 12) = .slice (some ⟨gb, 0, none⟩) 1 1 ∧ p.heap[gb]? = some (.cells (vals l).toArray 94 (0, 0)) ∧ w1.heap.size ≤ gb, fun vv p => True] (by kernel_rfl) (by kernel_rfl) rfl ⟨rfl, rfl, rfl, trivial⟩ ((Kept.refl _ _).drew) (by decide) (by kernel_rfl) (fun _ h => h.mono (fun _ _ h => h.elim)) (fun _ _ h => h.1) (fun _ => Kept.refl _ _) ?_ ?_ ?_
  · exact ⟨fun _ _ _ _ h => h, fun _ _ _ _ h => h, fun _ _ _ _ h => h, fun _ _ _ _ h => h, fun _ _ _ _ h => h, fun _ _ _ _ h => h, fun _ _ _ _ h => h, fun _ _ _ _ h => h, fun _ _ _ _ h => h, fun _ _ _ _ h => h, fun _ _ _ _ h => h, fun _ _ _ _ h => h, fun _ _ _ hs h => by obtain ⟨gb, e, hg, hb⟩ := h; exact ⟨gb, e, hs.heap hg (fun e2 => by have := Hrk.out gb e2; omega), hb⟩, fun _ _ _ _ h => h, trivial⟩
  · intro b0 hN hlv
    refine ⟨?_, ?_, ?_, ?_, ?_, ?_, ?_, ?_, ?_, ?_, ?_, ?_, ?_, ?_, trivial⟩
    · intro vs p hI0 hp
      have hI := Roll.inw_pure (by decide) rfl hI0
      clear hI0
      have e0 : (Roll.putD Dw31 vs [] b0).eval (.tmp 0) = .pointer (some ⟨g, 0, none⟩) := (Roll.eval_old rfl).trans (hlv.at 0 (0, .pointer (some ⟨g, 0, none⟩)) rfl)
      clear hp hlv hN
      unfold Roll.Goes
      simp only [Lw31, List.getD_cons_zero, List.getD_cons_succ]
      generalize Roll.putD Dw31 vs [] b0 = a1 at *
      refine Roll.goes_val (w' := p) (.pointer (some ⟨g, 0, none⟩)) rfl ?_ ⟨(Roll.outw_pure (by decide) rfl), rfl⟩
      (have ec : ∀ x, a1.eval (.const x) = x := fun _ => rfl); (have ef : ∀ x, a1.eval (.func x) = .func (.func x) #[] #[] := fun _ => rfl); generalize a1.eval = ρ at *
      skip
      go_simp <;> (intros; first | (exfalso; omega) | rfl)
    · intro vs p hI0 hp
      have hI := Roll.inw_pure (by decide) rfl hI0
      clear hI0
      have h0 : (vs 0) = .pointer (some ⟨g, 0, none⟩) := hp 0 (by simp [Lw31])
      have e23 : (Roll.putD Dw31 vs [0] b0).eval (.tmp 23) = .pointer (some ⟨g, 0, none⟩) := (Roll.eval_new 0 rfl (by decide) (by decide) (by omega)).trans h0
      clear hp hlv hN
      unfold Roll.Goes
      simp only [Lw31, List.getD_cons_zero, List.getD_cons_succ]
      generalize Roll.putD Dw31 vs [0] b0 = a1 at *
      refine Roll.goes_val (w' := p) (.pointer (some ⟨g, 0, none⟩)) rfl ?_ ⟨(Roll.outw_pure (by decide) rfl), rfl⟩
      (have ec : ∀ x, a1.eval (.const x) = x := fun _ => rfl); (have ef : ∀ x, a1.eval (.func x) = .func (.func x) #[] #[] := fun _ => rfl); generalize a1.eval = ρ at *
      clear h0
      go_simp <;> (intros; first | (exfalso; omega) | rfl)
    · intro vs p hI0 hp
      have hI := Roll.inw_pure (by decide) rfl hI0
      clear hI0
      have h1 : (vs 1) = .pointer (some ⟨g, 0, none⟩) := hp 1 (by simp [Lw31])
      have e24 : (Roll.putD Dw31 vs [1] b0).eval (.tmp 24) = .pointer (some ⟨g, 0, none⟩) := (Roll.eval_new 1 rfl (by decide) (by decide) (by omega)).trans h1
      clear hp hlv hN
      unfold Roll.Goes
      simp only [Lw31, List.getD_cons_zero, List.getD_cons_succ]
      generalize Roll.putD Dw31 vs [1] b0 = a1 at *
      refine Roll.goes_val (w' := p) (.pointer (some ⟨g, 1, none⟩)) rfl ?_ ⟨(Roll.outw_pure (by decide) rfl), rfl⟩
      (have ec : ∀ x, a1.eval (.const x) = x := fun _ => rfl); (have ef : ∀ x, a1.eval (.func x) = .func (.func x) #[] #[] := fun _ => rfl); generalize a1.eval = ρ at *
      clear h1
      go_simp <;> (intros; first | (exfalso; omega) | rfl)
    · intro vs p hI0 hp
      have hI := Roll.inw_pure (by decide) rfl hI0
      clear hI0
      have h2 : (vs 2) = .pointer (some ⟨g, 1, none⟩) := hp 2 (by simp [Lw31])
      have e25 : (Roll.putD Dw31 vs [2] b0).eval (.tmp 25) = .pointer (some ⟨g, 1, none⟩) := (Roll.eval_new 2 rfl (by decide) (by decide) (by omega)).trans h2
      clear hp hlv hN
      unfold Roll.Goes
      simp only [Lw31, List.getD_cons_zero, List.getD_cons_succ]
      generalize Roll.putD Dw31 vs [2] b0 = a1 at *
      have hI2 := hI
      have c1p : p.cell? ⟨g, 1, none⟩ = some (.map (some gm)) := (hI.cell Hg1.out Hng.out).trans C1.out
      clear hI2
      refine Roll.goes_val (w' := p) (.map (some gm)) rfl ?_ ⟨(Roll.outw_pure (by decide) rfl), rfl⟩
      (have ec : ∀ x, a1.eval (.const x) = x := fun _ => rfl); (have ef : ∀ x, a1.eval (.func x) = .func (.func x) #[] #[] := fun _ => rfl); generalize a1.eval = ρ at *
      clear h2
      go_simp <;> (intros; first | (exfalso; omega) | rfl)
    · intro vs p hI0 hp
      have hI := Roll.inw_pure (by decide) rfl hI0
      clear hI0
      have e1 : (Roll.putD Dw31 vs [] b0).eval (.tmp 1) = .int .i64 (k : Int) := (Roll.eval_old rfl).trans (hlv.at 1 (1, .int .i64 (k : Int)) rfl)
      clear hp hlv hN
      unfold Roll.Goes
      simp only [Lw31, List.getD_cons_zero, List.getD_cons_succ]
      generalize Roll.putD Dw31 vs [] b0 = a1 at *
      refine Roll.goes_val (w' := p) (.int .i64 (k : Int)) rfl ?_ ⟨(Roll.outw_pure (by decide) rfl), rfl⟩
      (have ec : ∀ x, a1.eval (.const x) = x := fun _ => rfl); (have ef : ∀ x, a1.eval (.func x) = .func (.func x) #[] #[] := fun _ => rfl); generalize a1.eval = ρ at *
      skip
      go_simp <;> (intros; first | (exfalso; omega) | rfl)
    · intro vs p hI0 hp
      have hI := Roll.inw_pure (by decide) rfl hI0
      clear hI0
      have e0 : (Roll.putD Dw31 vs [] b0).eval (.tmp 0) = .pointer (some ⟨g, 0, none⟩) := (Roll.eval_old rfl).trans (hlv.at 0 (0, .pointer (some ⟨g, 0, none⟩)) rfl)
      clear hp hlv hN
      unfold Roll.Goes
      simp only [Lw31, List.getD_cons_zero, List.getD_cons_succ]
      generalize Roll.putD Dw31 vs [] b0 = a1 at *
      refine Roll.goes_val (w' := p) (.pointer (some ⟨g, 0, none⟩)) rfl ?_ ⟨(Roll.outw_pure (by decide) rfl), rfl⟩
      (have ec : ∀ x, a1.eval (.const x) = x := fun _ => rfl); (have ef : ∀ x, a1.eval (.func x) = .func (.func x) #[] #[] := fun _ => rfl); generalize a1.eval = ρ at *
      skip
      go_simp <;> (intros; first | (exfalso; omega) | rfl)
    · intro vs p hI0 hp
      have hI := Roll.inw_pure (by decide) rfl hI0
      clear hI0
      have h5 : (vs 5) = .pointer (some ⟨g, 0, none⟩) := hp 5 (by simp [Lw31])
      have e28 : (Roll.putD Dw31 vs [5] b0).eval (.tmp 28) = .pointer (some ⟨g, 0, none⟩) := (Roll.eval_new 5 rfl (by decide) (by decide) (by omega)).trans h5
      clear hp hlv hN
      unfold Roll.Goes
      simp only [Lw31, List.getD_cons_zero, List.getD_cons_succ]
      generalize Roll.putD Dw31 vs [5] b0 = a1 at *
      refine Roll.goes_val (w' := p) (.pointer (some ⟨g, 0, none⟩)) rfl ?_ ⟨(Roll.outw_pure (by decide) rfl), rfl⟩
      (have ec : ∀ x, a1.eval (.const x) = x := fun _ => rfl); (have ef : ∀ x, a1.eval (.func x) = .func (.func x) #[] #[] := fun _ => rfl); generalize a1.eval = ρ at *
      clear h5
      go_simp <;> (intros; first | (exfalso; omega) | rfl)
    · intro vs p hI0 hp
      have hI := Roll.inw_pure (by decide) rfl hI0
      clear hI0
      have h6 : (vs 6) = .pointer (some ⟨g, 0, none⟩) := hp 6 (by simp [Lw31])
      have e29 : (Roll.putD Dw31 vs [6] b0).eval (.tmp 29) = .pointer (some ⟨g, 0, none⟩) := (Roll.eval_new 6 rfl (by decide) (by decide) (by omega)).trans h6
      clear hp hlv hN
      unfold Roll.Goes
      simp only [Lw31, List.getD_cons_zero, List.getD_cons_succ]
      generalize Roll.putD Dw31 vs [6] b0 = a1 at *
      refine Roll.goes_val (w' := p) (.pointer (some ⟨g, 1, none⟩)) rfl ?_ ⟨(Roll.outw_pure (by decide) rfl), rfl⟩
      (have ec : ∀ x, a1.eval (.const x) = x := fun _ => rfl); (have ef : ∀ x, a1.eval (.func x) = .func (.func x) #[] #[] := fun _ => rfl); generalize a1.eval = ρ at *
      clear h6
      go_simp <;> (intros; first | (exfalso; omega) | rfl)
    · intro vs p hI0 hp
      have hI := Roll.inw_pure (by decide) rfl hI0
      clear hI0
      have h7 : (vs 7) = .pointer (some ⟨g, 1, none⟩) := hp 7 (by simp [Lw31])
      have e30 : (Roll.putD Dw31 vs [7] b0).eval (.tmp 30) = .pointer (some ⟨g, 1, none⟩) := (Roll.eval_new 7 rfl (by decide) (by decide) (by omega)).trans h7
      clear hp hlv hN
      unfold Roll.Goes
      simp only [Lw31, List.getD_cons_zero, List.getD_cons_succ]
      generalize Roll.putD Dw31 vs [7] b0 = a1 at *
      have hI2 := hI
      have c1p : p.cell? ⟨g, 1, none⟩ = some (.map (some gm)) := (hI.cell Hg1.out Hng.out).trans C1.out
      clear hI2
      refine Roll.goes_val (w' := p) (.map (some gm)) rfl ?_ ⟨(Roll.outw_pure (by decide) rfl), rfl⟩
      (have ec : ∀ x, a1.eval (.const x) = x := fun _ => rfl); (have ef : ∀ x, a1.eval (.func x) = .func (.func x) #[] #[] := fun _ => rfl); generalize a1.eval = ρ at *
      clear h7
      go_simp <;> (intros; first | (exfalso; omega) | rfl)
    · intro vs p hI0 hp
      have hI := Roll.inw_pure (by decide) rfl hI0
      clear hI0
      have e1 : (Roll.putD Dw31 vs [] b0).eval (.tmp 1) = .int .i64 (k : Int) := (Roll.eval_old rfl).trans (hlv.at 1 (1, .int .i64 (k : Int)) rfl)
      clear hp hlv hN
      unfold Roll.Goes
      simp only [Lw31, List.getD_cons_zero, List.getD_cons_succ]
      generalize Roll.putD Dw31 vs [] b0 = a1 at *
      refine Roll.goes_val (w' := p) (.int .i64 (k : Int)) rfl ?_ ⟨(Roll.outw_pure (by decide) rfl), rfl⟩
      (have ec : ∀ x, a1.eval (.const x) = x := fun _ => rfl); (have ef : ∀ x, a1.eval (.func x) = .func (.func x) #[] #[] := fun _ => rfl); generalize a1.eval = ρ at *
      skip
      go_simp <;> (intros; first | (exfalso; omega) | rfl)
    · intro vs p hI0 hp
      have hI := Roll.inw_pure (by decide) rfl hI0
      clear hI0
      have h8 : (vs 8) = .map (some gm) := hp 8 (by simp [Lw31])
      have h9 : (vs 9) = .int .i64 (k : Int) := hp 9 (by simp [Lw31])
      have e31 : (Roll.putD Dw31 vs [8, 9] b0).eval (.tmp 31) = .map (some gm) := (Roll.eval_new 8 rfl (by decide) (by decide) (by omega)).trans h8
      have e32 : (Roll.putD Dw31 vs [8, 9] b0).eval (.tmp 32) = .int .i64 (k : Int) := (Roll.eval_new 9 rfl (by decide) (by decide) (by omega)).trans h9
      clear hp hlv hN
      unfold Roll.Goes
      simp only [Lw31, List.getD_cons_zero, List.getD_cons_succ]
      generalize Roll.putD Dw31 vs [8, 9] b0 = a1 at *
      have hlk := HLK.out p (HK1.out.trans hI (fun _ _ h => h))
      refine Roll.goes_val (w' := p) (v0) rfl ?_ ⟨(Roll.outw_pure (by decide) rfl), rfl⟩
      (have ec : ∀ x, a1.eval (.const x) = x := fun _ => rfl); (have ef : ∀ x, a1.eval (.func x) = .func (.func x) #[] #[] := fun _ => rfl); generalize a1.eval = ρ at *
      clear h8 h9
      go_simp <;> (intros; first | (exfalso; omega) | rfl)
    · intro vs p hI0 hp
      have hI := Roll.inw_pure (by decide) rfl hI0
      clear hI0
      have e7 : (Roll.putD Dw31 vs [] b0).eval (.tmp 7) = .pointer (some ⟨w.heap.size, 0, none⟩) := (Roll.eval_old rfl).trans (hlv.at 2 (7, .pointer (some ⟨w.heap.size, 0, none⟩)) rfl)
      clear hp hlv hN
      unfold Roll.Goes
      simp only [Lw31, List.getD_cons_zero, List.getD_cons_succ]
      generalize Roll.putD Dw31 vs [] b0 = a1 at *
      exact Roll.goes_load_row rfl 94 (.tmp 7) rfl w.heap.size e7 94 (vals l).toArray (0, 0) _ (hI.heap Hn1.out Hns.out) Try.underlying94 rfl (size64a Hl.out) ⟨(Roll.outw_pure (by decide) rfl), rfl⟩
    · intro vs p hI0 hp
      have hI := Roll.inw_pre (by decide) rfl hI0
      clear hI0
      have h11 : (vs 11) = .agg (vals l).toArray := hp 11 (by simp [Lw31])
      have e34 : (Roll.putD Dw31 vs [11] b0).eval (.tmp 34) = .agg (vals l).toArray := (Roll.eval_new 11 rfl (by decide) (by decide) (by omega)).trans h11
      clear hp hlv hN
      unfold Roll.Goes
      simp only [Lw31, List.getD_cons_zero, List.getD_cons_succ]
      generalize Roll.putD Dw31 vs [11] b0 = a1 at *
      have hr := run_build94 (vals l).toArray (by rw [List.size_toArray, vals_len, Hl.out]) p
      refine Roll.goes_val (w' := p.alloc (.cells (vals l).toArray 94)) (.slice (some ⟨p.heap.size, 0, none⟩) 1 1) rfl ?_ ⟨Roll.outw_pre (by decide) rfl (hI.alloc _) ((Kept.refl _ _).alloc _), ⟨p.heap.size, rfl, heap_alloc_new p _, hI.size⟩⟩
      unfold execOp
      simp only [List.map_toArray, List.map_cons, List.map_nil, e34, hr, Sem.run_bind, Result.andThen_ok, Sem.run_pure]
    · intro vs p hI0 hp
      have hI := Roll.inw_k0 rfl hI0
      clear hI0
      have h10 : (vs 10) = v0 := hp 10 (by simp [Lw31])
      have h12 : ∃ gb, (vs 12) = .slice (some ⟨gb, 0, none⟩) 1 1 ∧ p.heap[gb]? = some (.cells (vals l).toArray 94 (0, 0)) ∧ w1.heap.size ≤ gb := hp 12 (by simp [Lw31])
      have e33 : (Roll.putD Dw31 vs [10, 12] b0).eval (.tmp 33) = v0 := (Roll.eval_new 10 rfl (by decide) (by decide) (by omega)).trans h10
      have e35 : (Roll.putD Dw31 vs [10, 12] b0).eval (.tmp 35) = vs 12 := (Roll.eval_new 12 rfl (by decide) (by decide) (by omega))
      clear hp hlv hN
      unfold Roll.Goes
      simp only [Lw31, List.getD_cons_zero, List.getD_cons_succ]
      generalize Roll.putD Dw31 vs [10, 12] b0 = a1 at *
      obtain ⟨gb, hgb, hgc, hgl⟩ := h12
      rw [hgb] at e35
      have hsl : Src Try.prog 64 89 (.slice (some ⟨gb, 0, none⟩) 1 1) 1 (vals l) p := Src.ofSlice p Try.underlying89 ⟨gb, 0, none⟩ 1 1 (vals l) (by rw [vals_len, Hl.out]) (fun j u hu => by rw [Addr.add_mid, Nat.zero_add, cell_of_row p gb j _ _ _ hgc]; simpa using hu) (vals_one l)
      obtain ⟨k', v', p', hr, ho', hf', hK', hne'⟩ := run_append_any (P := Try.prog) p 89 89 89 94 i0 (.agg Z64) 64 64 Try.underlying89 hi0 hz0 hz1 hz2 cells64 (row k) v0 m (scells xs) (HO.out.kept (HK0.out.trans hI (fun _ _ h => h)) (fun _ _ h => h)) (.slice (some ⟨gb, 0, none⟩) 1 1) 1 (vals l) hsl (by have := Hm.out; unfold maxLen; omega) (by have := Hm.out; omega)
      obtain ⟨k2, rfl⟩ := Option.ne_none_iff_exists'.1 (hne' (by omega))
      refine Roll.goes_val (w' := p') v' rfl ?_ ⟨Roll.outw_k0 rfl ⟨(hI.mono (fun _ _ h => h.elim)).trans hK' (fun _ _ h => h), k2, ho', (hf' k2 rfl).imp id (fun e => Nat.le_trans Hs1.out (Nat.le_trans hI.size e))⟩ hK', trivial⟩
      unfold execOp
      simp only [resolve, invoke, builtin, Sem.run_bind, Sem.run_pure, Result.andThen_ok, List.map_toArray, List.map_cons, List.map_nil, e33, e35, hr]
  · intro vs p hI hR
    have h0 : (vs 0) = .pointer (some ⟨g, 0, none⟩) := hR 0 (by omega)
    have h1 : (vs 1) = .pointer (some ⟨g, 0, none⟩) := hR 1 (by omega)
    have h2 : (vs 2) = .pointer (some ⟨g, 1, none⟩) := hR 2 (by omega)
    have h3 : (vs 3) = .map (some gm) := hR 3 (by omega)
    have h4 : (vs 4) = .int .i64 (k : Int) := hR 4 (by omega)
    have h5 : (vs 5) = .pointer (some ⟨g, 0, none⟩) := hR 5 (by omega)
    have h6 : (vs 6) = .pointer (some ⟨g, 0, none⟩) := hR 6 (by omega)
    have h7 : (vs 7) = .pointer (some ⟨g, 1, none⟩) := hR 7 (by omega)
    have h8 : (vs 8) = .map (some gm) := hR 8 (by omega)
    have h9 : (vs 9) = .int .i64 (k : Int) := hR 9 (by omega)
    have h10 : (vs 10) = v0 := hR 10 (by omega)
    have h11 : (vs 11) = .agg (vals l).toArray := hR 11 (by omega)
    have h12 : ∃ gb, (vs 12) = .slice (some ⟨gb, 0, none⟩) 1 1 ∧ p.heap[gb]? = some (.cells (vals l).toArray 94 (0, 0)) ∧ w1.heap.size ≤ gb := hR 12 (by omega)
    have h13 : True := hR 13 (by omega)
    clear hR
    simp only [List.range_succ, List.range_zero, List.nil_append, List.cons_append, Roll.putD, Act.put, List.getD_cons_zero, List.getD_cons_succ, List.setIfInBounds_toArray, List.set_cons_zero, List.set_cons_succ, List.drop_succ_cons, List.drop_zero, Dw31]
    simp only [h0, h1, h2, h3, h4, h5, h6, h7, h8, h9, h10, h11]
    clear h0 h1 h2 h3 h4 h5 h6 h7 h8 h9 h10 h11
    obtain ⟨hJ, k2, hO, hF⟩ := hI
    have hKp : Kept (fun j => row k = some j) w p := HK1.out.trans hJ (fun _ _ h => h)
    have hO2 : Own p 94 64 (some k2) (vs 13) (d.S[k].tail.length + 1) (scells (d.S[k].tail ++ [l])) := by
      rw [scells_app, show scells [l] = vals l by simp [scells], ← Hxs.out, ← Hmm.out]; exact hO
    obtain ⟨p2, hrun, hd2, hk2, hs2⟩ := H.out.wrote hk Hl.out hKp hO2 hF
    have HBu := Lib.hid (burn_dk hd2)
    generalize vs 13 = v13 at *
    have Hk2 := Lib.hid hk2
    have HF := Lib.hid hF
    clear hJ hO hF hKp hO2 hd2 hk2 hs2 h12 h13
    go_wp2_with (go_at_call 54; refine HBu.out.mono ?_; rintro e w9 ⟨rfl, hd9, hk9⟩; have Hd9 := Lib.hid hd9; have Hk9 := Lib.hid hk9; clear hd9 hk9)
    go_ret
    refine ⟨rfl, _, Hd9.out, (Hk2.out.mono ?_).trans Hk9.out (fun j _ e => .inl e), ?_⟩
    · rintro j _ (e | e)
      · exact .inr (.inr (.inr ⟨k, e⟩))
      · exact .inr (.inr (.inl e))
    · rintro j (e | e | e | ⟨i, e⟩)
      · exact .inl (.inl e)
      · exact .inl (.inr (.inl e))
      · exact .inl (.inr (.inr (.inl e)))
      · by_cases hik : i = k
        · subst hik
          rw [rowSet_same] at e
          cases e
          rcases HF.out with e | e
          · exact .inl (.inr (.inr (.inr ⟨_, e⟩)))
          · exact .inr e
        · rw [rowSet_other _ _ hik] at e
          exact .inl (.inr (.inr (.inr ⟨_, e⟩)))
end
end Go.Proofs.Ytbnodhcgdgcebaa

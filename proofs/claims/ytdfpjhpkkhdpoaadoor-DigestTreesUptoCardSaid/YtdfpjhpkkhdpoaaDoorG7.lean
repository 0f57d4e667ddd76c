/-
  The law DigestTrees: its walk.
-/
import Derived.Test.YtdfpjhpkkhdpoaaDoorG3
import Derived.Test.YtdfpjhpkkhdpoaaDoorF6
import Derived.Test.YtdfpjhpkkhdpoaaDoorE4
namespace Go.Proofs.YtdfpjhpkkhdpoaaDoor
open Go.RowKit
set_option linter.unusedSimpArgs false
set_option linter.unusedVariables false
theorem Blk33_new0 (w : World) : Blk33 (w.alloc (.cells #[.int .u32 0, .int .u32 0, .int .u32 0, .int .u32 0, .int .u32 0, .int .u32 0, .int .u32 0, .int .u32 0, .slice none 0 0, .int .i64 0] 33)) w.heap.size := by
  rw [zeros33]; exact ⟨_, _, _, _, _, by simp, heap_new rfl⟩
theorem Now.put33at {w p : World} {g : Nat} {L H : List (Nat × List UInt8)} (N : Now w p L H) (hL : ∀ x ∈ L, x.1 ≠ g) (hH : ∀ x ∈ H, x.1 ≠ g) (hg : w.heap.size ≤ g) (h2 : 2 ≤ w.heap.size) (hb : Blk33 p g) {a : Option Addr} {c : Nat} {l : List UInt8} (h : Bs p a (absR l).length c (absR l)) :
    Now w (p.setRow g (dcells (absH H8 l) a (absR l).length c l.length)) ((g, l) :: L) H := by
  have hbel : Below w.heap.size p (p.setRow g (dcells (absH H8 l) a (absR l).length c l.length)) := Below_setRow (Below.refl _ _) hg _
  obtain ⟨hs0, a0, n0, c0, L0, hl0, hg0⟩ := id hb
  refine ⟨N.tabs.below hbel h2, N.bel.trans hbel, fun x hx => ?_, fun x hx => ?_⟩
  · rcases List.mem_cons.1 hx with rfl | hx
    · exact ⟨a, c, setRow_heap _ _ _ _ _ _ hg0, Bs_setRow33 h hb _⟩
    · obtain ⟨a1, c1, hg1, hB1⟩ := N.sb x hx
      exact ⟨a1, c1, (setRow_other _ _ _ _ (hL x hx)).trans hg1, Bs_setRow33 hB1 hb _⟩
  · obtain ⟨h1, h2⟩ := N.hb x hx
    exact ⟨(setRow_other _ _ _ _ (hH x hx)).trans h1, h2⟩
attribute [local go_sem ↓] exec_load33 exec_load24 exec_store33
attribute [local go_sem] run_eq24 Hv_len eqg24 run_store33
def Dtrees4 : List (Option Tmp) := [some 35, some 36, some 37, some 38, some 39, some 40, some 41, some 42, some 43, some 44, some 45, some 46, some 47, some 48, some 49, some 10]
def Ltrees4 : List (List Nat) := [[], [], [0, 1], [], [], [3, 4], [2, 5], [6], [7], [8, 7], [7], [7], [10, 11, 7], [9, 12, 7], [7, 13], [14]]
def Dtrees2 : List (Option Tmp) := [some 16, some 17, some 18, some 19, some 20, some 21, some 22, some 8, none]
def Ltrees2 : List (List Nat) := [[], [], [0, 1], [], [2, 3], [], [4, 5], [], [7, 6]]
set_option maxRecDepth 100000 in
set_option maxHeartbeats 2000000 in
theorem trees_any (a : Option Addr) (n c : Nat) (l x y : List UInt8) (w : World) (hT : Tabs w) (hB : Bs w a n c l) (hn : n ≤ 1048576) (hx : x.length = 32) (hy : y.length = 32) :
    Calls Tryd.prog 9 #[.slice a n c, .agg (bcells x), .agg (bcells y)] w fun e w' => e = .returned (.bool true) ∧ Below w.heap.size w w' := by
  have Hx := Lib.hid hx
  have Hy := Lib.hid hy
  have Hz := Lib.hid hT.2.2
  have HT := Lib.hid hT
  have HB := Lib.hid hB
  have Hl := Lib.hid hB.1
  obtain ⟨ld, hld⟩ : ∃ ld : List UInt8, ld = [0] ++ l := ⟨_, rfl⟩
  obtain ⟨le, hle⟩ : ∃ le : List UInt8, le = [1] ++ x ++ y := ⟨_, rfl⟩
  obtain ⟨KL, hKL⟩ : ∃ KL, leafV l = KL := ⟨_, rfl⟩
  obtain ⟨KN, hKN⟩ : ∃ KN, nodeV x y = KN := ⟨_, rfl⟩
  have HKL := Lib.hid hKL
  have HKN := Lib.hid hKN
  have klL : KL.length = 32 := by rw [← hKL]; exact Hv_len _
  have klN : KN.length = 32 := by rw [← hKN]; exact Hv_len _
  have HvL : Hid (Hv ld = KL) := Lib.hid (by rw [← hKL, hld]; rfl)
  have HvN : Hid (Hv le = KN) := Lib.hid (by rw [← hKN, hle]; rfl)
  have Lld : Hid (ld.length ≤ 1048577) := Lib.hid (by rw [hld]; simp [Hl.out]; omega)
  have Lle : Hid (le.length = 65) := Lib.hid (by rw [hle]; simp [hx, hy])
  have Hld := Lib.hid hld
  have Hle := Lib.hid hle
  clear hT hB hx hy hld hle hKL hKN
  go_enter Tryd.func9, Tryd.ntmps9
  go_upto_region 1 with (fail)
  have g0 : ((w.alloc (.cells (bcells x) 24)).alloc (.cells (bcells y) 24)).heap[w.heap.size]? = some (.cells (bcells x) 24 (0, 0)) := heap_old (heap_new rfl)
  have g1 : ((w.alloc (.cells (bcells x) 24)).alloc (.cells (bcells y) 24)).heap[w.heap.size + 1]? = some (.cells (bcells y) 24 (0, 0)) := heap_new (by simp only [size_alloc1])
  have b0 : Below w.heap.size w ((w.alloc (.cells (bcells x) 24)).alloc (.cells (bcells y) 24)) := ((Below.refl _ _).alloc (Nat.le_refl _) _).alloc (by rw [size_alloc1]; omega) _
  have s0 : ((w.alloc (.cells (bcells x) 24)).alloc (.cells (bcells y) 24)).heap.size = w.heap.size + 2 := by simp only [size_alloc1]
  generalize (w.alloc (.cells (bcells x) 24)).alloc (.cells (bcells y) 24) = q at *
  have N0 : Hid (Now w q [] [(w.heap.size, x), (w.heap.size + 1, y)]) := Lib.hid ⟨HT.out.below b0 Hz.out, b0, by simp, by
    intro z hz
    simp only [List.mem_cons, List.not_mem_nil, or_false] at hz
    rcases hz with rfl | rfl
    · exact ⟨g0, Hx.out⟩
    · exact ⟨g1, Hy.out⟩⟩
  have Hs := Lib.hid s0
  have B0 := Lib.hid b0
  clear g0 g1 b0 s0
  go_upto_region 2 with (first
    | (go_at_call 18; refine (new_any _ N0.out.tabs).mono ?_; rintro e w1 ⟨v1, rfl, S1, hb⟩; have N1 := Lib.hid (N0.out.step (hb.trans ((Below.refl _ _).alloc hb.size (.cells #[.int .u8 0] 5)))); have B1 : Hid (Bs (w1.alloc (.cells #[.int .u8 0] 5)) (some ⟨w1.heap.size, 0, none⟩) 1 1 [0]) := Lib.hid (Bs_one (heap_new rfl) rfl); have HS1 := Lib.hid (S1.below ((Below.refl _ _).alloc (Nat.le_refl _) (.cells #[.int .u8 0] 5))); clear hb S1)
    | (go_at_call 17; refine (write_any v2 [0] a n c l _ N2.out.tabs HS2.out (HB.out.below N2.out.bel) (by simp; have := Hl.out; omega)).mono ?_; rintro e w3 ⟨v3, rfl, ⟨ua, uc, rfl, hu⟩, hb⟩; rw [← Hld.out] at hu ⊢; have N3 := Lib.hid (N2.out.step hb); have U3 := Lib.hid hu; clear hb hu)
    | (go_at_call 17; refine (write_any v1 [] (some ⟨w1.heap.size, 0, none⟩) 1 1 [0] _ N1.out.tabs HS1.out B1.out (by simp)).mono ?_; rintro e w2 ⟨v2, rfl, S2, hb⟩; rw [List.nil_append] at S2; have N2 := Lib.hid (N1.out.step hb); have HS2 := Lib.hid S2; clear hb S2)
    | (refine wpList_store_row rfl 33 (.tmp 7) (.tmp 15) rfl w3.heap.size _ rfl rfl 33 _ (heap_new rfl) (size33n _ _ _ _ _) (by rw [dcells_size _ _ _ _ _ (absH_len _)]; rfl) (dcells_one _ _ _ _ _) ?_; obtain ⟨w4, hw4, hN, hz4⟩ := N3.out.put33 U3.out; rw [hw4]; have N4 := Lib.hid hN; have Hz4 := Lib.hid hz4; have Hq4 : Hid (w.heap.size + 2 ≤ w4.heap.size) := Lib.hid (by have := heap_lt (hN.hb (w.heap.size + 1, y) (by simp)).1; simp only at this; omega); clear hw4 hN hz4))
  clear N0 N1 N2 N3 HS1 HS2 B1 U3 
  generalize w3.heap.size = g7 at *
  refine Roll.region_f 8 57 Dtrees2 Ltrees2 [(4, .pointer (some ⟨w.heap.size, 0, none⟩)), (5, .pointer (some ⟨w.heap.size + 1, 0, none⟩))] (fun p => Now w p [(g7, ld)] [(w.heap.size, x), (w.heap.size + 1, y)] ∧ Below w4.heap.size w4 p) (fun p p' => Below p.heap.size p p') [fun vv p => (St p vv []), fun vv p => (∃ g, vv = .slice (some ⟨g, 0, none⟩) 1 1 ∧ Bs p (some ⟨g, 0, none⟩) 1 1 [1]), fun vv p => (St p vv [1]), fun vv p => vv = .slice (some ⟨w.heap.size, 0, none⟩) 32 32, fun vv p => (St p vv ([1] ++ x)), fun vv p => vv = .slice (some ⟨w.heap.size + 1, 0, none⟩) 32 32, fun vv p => (St p vv le), fun vv p => (∃ g, vv = .pointer (some ⟨g, 0, none⟩) ∧ w4.heap.size ≤ g ∧ Blk33 p g)] (by kernel_rfl) (by kernel_rfl) rfl ⟨rfl, rfl, trivial⟩ (⟨N4.out.drew, (Below.refl _ _).drew⟩) ?_ ?_ ?_
  · exact ⟨fun v p p' hb h => h.below hb, fun v p p' hb h => (match h with | ⟨g, e, hB⟩ => ⟨g, e, hB.below hb⟩), fun v p p' hb h => h.below hb, fun _ _ _ _ h => h, fun v p p' hb h => h.below hb, fun _ _ _ _ h => h, fun v p p' hb h => h.below hb, fun v p p' hb h => (match h with | ⟨g, e, hg, hB⟩ => ⟨g, e, hg, Blk33_keep hb g hB⟩), trivial⟩
  · intro b0 hN hlv
    refine ⟨?_, ?_, ?_, ?_, ?_, ?_, ?_, ?_, trivial⟩
    · intro vals p hI hp
      clear hp hlv hN
      unfold Roll.Goes
      simp only [Ltrees2, List.getD_cons_zero, List.getD_cons_succ]
      generalize Roll.putD Dtrees2 vals [] b0 = a1 at *
      refine Roll.goes_call 18 #[] p rfl (by have ec : ∀ x, a1.eval (.const x) = x := fun _ => rfl; have ef : ∀ x, a1.eval (.func x) = .func (.func x) #[] #[] := fun _ => rfl; generalize a1.eval = ρ at *; go_simp) ?_
      refine (new_any p hI.1.tabs).mono ?_
      rintro e p2 ⟨v1, rfl, hS, hb⟩
      exact ⟨_, rfl, ⟨hI.1.step hb, hI.2.trans (hb.mono hI.2.size)⟩, hb, hS⟩
    · intro vals p hI hp
      clear hp hlv hN
      unfold Roll.Goes
      simp only [Ltrees2, List.getD_cons_zero, List.getD_cons_succ]
      generalize Roll.putD Dtrees2 vals [] b0 = a1 at *
      have hb := (Below.refl p.heap.size p).alloc (Nat.le_refl _) (.cells #[.int .u8 1] 5)
      refine Roll.goes_val (w' := p.alloc (.cells #[.int .u8 1] 5)) (.slice (some ⟨p.heap.size, 0, none⟩) 1 1) rfl ?_ ⟨⟨hI.1.step hb, hI.2.trans (hb.mono hI.2.size)⟩, hb, p.heap.size, rfl, Bs_one (heap_new rfl) rfl⟩
      clear hb hI
      have ec : ∀ x, a1.eval (.const x) = x := fun _ => rfl
      generalize a1.eval = ρ at *
      go_simp
    · intro vals p hI hp
      have h0 : (St p (vals 0) []) := hp 0 (by simp [Ltrees2])
      have h1 : (∃ g, (vals 1) = .slice (some ⟨g, 0, none⟩) 1 1 ∧ Bs p (some ⟨g, 0, none⟩) 1 1 [1]) := hp 1 (by simp [Ltrees2])
      have e16 : (Roll.putD Dtrees2 vals [0, 1] b0).eval (.tmp 16) = vals 0 := (Roll.eval_new 0 rfl (by decide) (by decide) (by omega))
      have e17 : (Roll.putD Dtrees2 vals [0, 1] b0).eval (.tmp 17) = vals 1 := (Roll.eval_new 1 rfl (by decide) (by decide) (by omega))
      clear hp hlv hN
      unfold Roll.Goes
      simp only [Ltrees2, List.getD_cons_zero, List.getD_cons_succ]
      generalize Roll.putD Dtrees2 vals [0, 1] b0 = a1 at *
      obtain ⟨g1, h1a, h1b⟩ := h1
      rw [h1a] at e17
      refine Roll.goes_call 17 #[vals 0, .slice (some ⟨g1, 0, none⟩) 1 1] p rfl (by have ec : ∀ x, a1.eval (.const x) = x := fun _ => rfl; have ef : ∀ x, a1.eval (.func x) = .func (.func x) #[] #[] := fun _ => rfl; generalize a1.eval = ρ at *; go_simp) ?_
      refine (write_any (vals 0) [] _ 1 1 [1] p hI.1.tabs h0 h1b (by simp)).mono ?_
      rintro e p2 ⟨v2, rfl, hS, hb⟩
      exact ⟨_, rfl, ⟨hI.1.step hb, hI.2.trans (hb.mono hI.2.size)⟩, hb, hS⟩
    · intro vals p hI hp
      have e4 : (Roll.putD Dtrees2 vals [] b0).eval (.tmp 4) = .pointer (some ⟨w.heap.size, 0, none⟩) := (Roll.eval_old rfl).trans (hlv.at 0 (4, .pointer (some ⟨w.heap.size, 0, none⟩)) rfl)
      clear hp hlv hN
      unfold Roll.Goes
      simp only [Ltrees2, List.getD_cons_zero, List.getD_cons_succ]
      generalize Roll.putD Dtrees2 vals [] b0 = a1 at *
      refine Roll.goes_val (w' := p) (.slice (some ⟨w.heap.size, 0, none⟩) 32 32) rfl ?_ ⟨hI, Below.refl _ _, rfl⟩
      (have ec : ∀ x, a1.eval (.const x) = x := fun _ => rfl); (have ef : ∀ x, a1.eval (.func x) = .func (.func x) #[] #[] := fun _ => rfl); generalize a1.eval = ρ at *
      skip
      go_simp <;> (intros; first | (exfalso; omega) | rfl)
    · intro vals p hI hp
      have h2 : (St p (vals 2) [1]) := hp 2 (by simp [Ltrees2])
      have h3 : (vals 3) = .slice (some ⟨w.heap.size, 0, none⟩) 32 32 := hp 3 (by simp [Ltrees2])
      have e18 : (Roll.putD Dtrees2 vals [2, 3] b0).eval (.tmp 18) = vals 2 := (Roll.eval_new 2 rfl (by decide) (by decide) (by omega))
      have e19 : (Roll.putD Dtrees2 vals [2, 3] b0).eval (.tmp 19) = .slice (some ⟨w.heap.size, 0, none⟩) 32 32 := (Roll.eval_new 3 rfl (by decide) (by decide) (by omega)).trans h3
      clear hp hlv hN
      unfold Roll.Goes
      simp only [Ltrees2, List.getD_cons_zero, List.getD_cons_succ]
      generalize Roll.putD Dtrees2 vals [2, 3] b0 = a1 at *
      refine Roll.goes_call 17 #[vals 2, .slice (some ⟨w.heap.size, 0, none⟩) 32 32] p rfl (by have ec : ∀ x, a1.eval (.const x) = x := fun _ => rfl; have ef : ∀ x, a1.eval (.func x) = .func (.func x) #[] #[] := fun _ => rfl; generalize a1.eval = ρ at *; go_simp) ?_
      refine (write_any (vals 2) [1] _ 32 32 x p hI.1.tabs h2 (Bs_32 (hI.1.hb (w.heap.size, x) (by simp)).1 Hx.out) (by simp; have := Hx.out; omega)).mono ?_
      rintro e p2 ⟨v2, rfl, hS, hb⟩
      exact ⟨_, rfl, ⟨hI.1.step hb, hI.2.trans (hb.mono hI.2.size)⟩, hb, hS⟩
    · intro vals p hI hp
      have e5 : (Roll.putD Dtrees2 vals [] b0).eval (.tmp 5) = .pointer (some ⟨w.heap.size + 1, 0, none⟩) := (Roll.eval_old rfl).trans (hlv.at 1 (5, .pointer (some ⟨w.heap.size + 1, 0, none⟩)) rfl)
      clear hp hlv hN
      unfold Roll.Goes
      simp only [Ltrees2, List.getD_cons_zero, List.getD_cons_succ]
      generalize Roll.putD Dtrees2 vals [] b0 = a1 at *
      refine Roll.goes_val (w' := p) (.slice (some ⟨w.heap.size + 1, 0, none⟩) 32 32) rfl ?_ ⟨hI, Below.refl _ _, rfl⟩
      (have ec : ∀ x, a1.eval (.const x) = x := fun _ => rfl); (have ef : ∀ x, a1.eval (.func x) = .func (.func x) #[] #[] := fun _ => rfl); generalize a1.eval = ρ at *
      skip
      go_simp <;> (intros; first | (exfalso; omega) | rfl)
    · intro vals p hI hp
      have h4 : (St p (vals 4) ([1] ++ x)) := hp 4 (by simp [Ltrees2])
      have h5 : (vals 5) = .slice (some ⟨w.heap.size + 1, 0, none⟩) 32 32 := hp 5 (by simp [Ltrees2])
      have e20 : (Roll.putD Dtrees2 vals [4, 5] b0).eval (.tmp 20) = vals 4 := (Roll.eval_new 4 rfl (by decide) (by decide) (by omega))
      have e21 : (Roll.putD Dtrees2 vals [4, 5] b0).eval (.tmp 21) = .slice (some ⟨w.heap.size + 1, 0, none⟩) 32 32 := (Roll.eval_new 5 rfl (by decide) (by decide) (by omega)).trans h5
      clear hp hlv hN
      unfold Roll.Goes
      simp only [Ltrees2, List.getD_cons_zero, List.getD_cons_succ]
      generalize Roll.putD Dtrees2 vals [4, 5] b0 = a1 at *
      refine Roll.goes_call 17 #[vals 4, .slice (some ⟨w.heap.size + 1, 0, none⟩) 32 32] p rfl (by have ec : ∀ x, a1.eval (.const x) = x := fun _ => rfl; have ef : ∀ x, a1.eval (.func x) = .func (.func x) #[] #[] := fun _ => rfl; generalize a1.eval = ρ at *; go_simp) ?_
      refine (write_any (vals 4) ([1] ++ x) _ 32 32 y p hI.1.tabs h4 (Bs_32 (hI.1.hb (w.heap.size + 1, y) (by simp)).1 Hy.out) (by simp; have := Hx.out; have := Hy.out; omega)).mono ?_
      rintro e p2 ⟨v2, rfl, hS, hb⟩
      rw [← Hle.out] at hS
      exact ⟨_, rfl, ⟨hI.1.step hb, hI.2.trans (hb.mono hI.2.size)⟩, hb, hS⟩
    · intro vals p hI hp
      clear hp hlv hN
      unfold Roll.Goes
      simp only [Ltrees2, List.getD_cons_zero, List.getD_cons_succ]
      generalize Roll.putD Dtrees2 vals [] b0 = a1 at *
      have hb := (Below.refl p.heap.size p).alloc (Nat.le_refl _) (.cells #[.int .u32 0, .int .u32 0, .int .u32 0, .int .u32 0, .int .u32 0, .int .u32 0, .int .u32 0, .int .u32 0, .slice none 0 0, .int .i64 0] 33)
      refine Roll.goes_val (w' := p.alloc (.cells #[.int .u32 0, .int .u32 0, .int .u32 0, .int .u32 0, .int .u32 0, .int .u32 0, .int .u32 0, .int .u32 0, .slice none 0 0, .int .i64 0] 33)) (.pointer (some ⟨p.heap.size, 0, none⟩)) rfl ?_ ⟨⟨hI.1.step hb, hI.2.trans (hb.mono hI.2.size)⟩, hb, p.heap.size, rfl, hI.2.size, Blk33_new0 p⟩
      clear hb hI
      generalize a1.eval = ρ at *
      go_simp
  · intro vals p hI hR
    have h0 : (St p (vals 0) []) := hR 0 (by omega)
    have h1 : (∃ g, (vals 1) = .slice (some ⟨g, 0, none⟩) 1 1 ∧ Bs p (some ⟨g, 0, none⟩) 1 1 [1]) := hR 1 (by omega)
    have h2 : (St p (vals 2) [1]) := hR 2 (by omega)
    have h3 : (vals 3) = .slice (some ⟨w.heap.size, 0, none⟩) 32 32 := hR 3 (by omega)
    have h4 : (St p (vals 4) ([1] ++ x)) := hR 4 (by omega)
    have h5 : (vals 5) = .slice (some ⟨w.heap.size + 1, 0, none⟩) 32 32 := hR 5 (by omega)
    have h6 : (St p (vals 6) le) := hR 6 (by omega)
    have h7 : (∃ g, (vals 7) = .pointer (some ⟨g, 0, none⟩) ∧ w4.heap.size ≤ g ∧ Blk33 p g) := hR 7 (by omega)
    clear hR
    simp only [List.range_succ, List.range_zero, List.nil_append, List.cons_append, Roll.putD, Act.put, List.getD_cons_zero, List.getD_cons_succ, List.setIfInBounds_toArray, List.set_cons_zero, List.set_cons_succ, List.drop_succ_cons, List.drop_zero, Dtrees2]
    simp only [h3, h5]
    clear h3 h5
    obtain ⟨g8, hv7, hg8, hb8⟩ := h7
    obtain ⟨ua, uc, hv6, hu⟩ := h6
    rw [hv7, hv6]
    clear h0 h1 h2 h4 hv7 hv6
    have hrun := run_store33 p g8 (absH H8 le) (absH_len le) ua (absR le).length uc le.length hb8
    obtain ⟨w5, hw5⟩ : ∃ w5, p.setRow g8 (dcells (absH H8 le) ua (absR le).length uc le.length) = w5 := ⟨_, rfl⟩
    have N5 : Hid (Now w w5 [(g8, le), (g7, ld)] [(w.heap.size, x), (w.heap.size + 1, y)]) := Lib.hid (by
      rw [← hw5]
      have z4 := Hz4.out
      have zs := Hs.out
      have zb := N4.out.bel.size
      have z5 := B0.out.size
      have zq : w.heap.size + 2 ≤ w4.heap.size := by
        have := Hq4.out; omega
      refine hI.1.put33at (fun z hz => ?_) (fun z hz => ?_) (by omega) Hz.out hb8 hu
      · simp only [List.mem_cons, List.not_mem_nil, or_false] at hz
        subst hz; simp only; omega
      · simp only [List.mem_cons, List.not_mem_nil, or_false] at hz
        rcases hz with rfl | rfl <;> simp only <;> omega)
    rw [hw5] at hrun
    clear hI hu hb8 hg8 hw5
    go_upto_region 3 with (fail)
    clear hrun N4 Hz4 Hq4 HT B0 Hs
    go_upto_region 4 with (first
      | (go_at_call 25; refine (leaf_any a n c l _ N8.out.tabs (HB.out.below N8.out.bel) (by omega)).mono ?_; rw [HKL.out]; rintro e w9 ⟨rfl, hb⟩; have N9 := Lib.hid (N8.out.step hb); clear hb)
      | (go_at_call 25; refine (leaf_any a n c l _ N5.out.tabs (HB.out.below N5.out.bel) (by omega)).mono ?_; rw [HKL.out]; rintro e w6 ⟨rfl, hb⟩; have N6 := Lib.hid (N5.out.step hb); clear hb)
      | (go_at_call 26; refine (rleaf_any a n c l _ (HB.out.below N6.out.bel) (by omega)).mono ?_; rw [HKL.out]; rintro e w7 ⟨rfl, hb⟩; have N7 := Lib.hid (N6.out.step hb); obtain ⟨v7, L7, S7⟩ := (N7.out.sb (g7, ld) (by simp)).stB; have ld7 := L7 _ (Below.refl _ _); have HS7 := Lib.hid S7; (try simp only at ld7); clear hb L7 S7)
      | (go_at_call 22; refine (close_any v7 ld _ N7.out.tabs HS7.out (by have := Lld.out; omega)).mono ?_; rw [HvL.out]; rintro e w8 ⟨rfl, hb⟩; have N8 := Lib.hid (N7.out.step hb); clear hb))
    clear N5 N6 N7 N8 HS7 ld7
    obtain ⟨v8, L8, S8⟩ := (N9.out.sb (g8, le) (by simp)).stB
    simp only at L8
    have HL8 := Lib.hid L8
    have HS8 := Lib.hid S8
    clear L8 S8
    refine Roll.region_f 15 57 Dtrees4 Ltrees4 [(4, .pointer (some ⟨w.heap.size, 0, none⟩)), (5, .pointer (some ⟨w.heap.size + 1, 0, none⟩)), (8, .pointer (some ⟨g8, 0, none⟩))] (fun p => Now w p [(g8, le), (g7, ld)] [(w.heap.size, x), (w.heap.size + 1, y)] ∧ Below w9.heap.size w9 p) (fun p p' => Below p.heap.size p p') [fun vv p => vv = .agg (bcells x), fun vv p => vv = .agg (bcells y), fun vv p => vv = .agg (bcells KN), fun vv p => vv = .agg (bcells x), fun vv p => vv = .agg (bcells y), fun vv p => vv = .agg (bcells KN), fun vv p => vv = .bool true, fun vv p => vv = .bool true, fun vv p => vv = v8, fun vv p => vv = .agg (bcells KN), fun vv p => vv = .agg (bcells x), fun vv p => vv = .agg (bcells y), fun vv p => vv = .agg (bcells KN), fun vv p => vv = .bool true, fun vv p => vv = .bool true] (by kernel_rfl) (by kernel_rfl) rfl ⟨rfl, rfl, rfl, trivial⟩ (⟨N9.out.drew, (Below.refl _ _).drew⟩) ?_ ?_ ?_
    · exact ⟨fun _ _ _ _ h => h, fun _ _ _ _ h => h, fun _ _ _ _ h => h, fun _ _ _ _ h => h, fun _ _ _ _ h => h, fun _ _ _ _ h => h, fun _ _ _ _ h => h, fun _ _ _ _ h => h, fun _ _ _ _ h => h, fun _ _ _ _ h => h, fun _ _ _ _ h => h, fun _ _ _ _ h => h, fun _ _ _ _ h => h, fun _ _ _ _ h => h, fun _ _ _ _ h => h, trivial⟩
    · intro b0 hN hlv
      refine ⟨?_, ?_, ?_, ?_, ?_, ?_, ?_, ?_, ?_, ?_, ?_, ?_, ?_, ?_, ?_, trivial⟩
      · intro vals p hI hp
        have e4 : (Roll.putD Dtrees4 vals [] b0).eval (.tmp 4) = .pointer (some ⟨w.heap.size, 0, none⟩) := (Roll.eval_old rfl).trans (hlv.at 0 (4, .pointer (some ⟨w.heap.size, 0, none⟩)) rfl)
        clear hp hlv hN
        unfold Roll.Goes
        simp only [Ltrees4, List.getD_cons_zero, List.getD_cons_succ]
        generalize Roll.putD Dtrees4 vals [] b0 = a1 at *
        refine Roll.goes_val (w' := p) (.agg (bcells x)) rfl ?_ ⟨hI, Below.refl _ _, rfl⟩
        have hl := (hI.1.hb (w.heap.size, x) (by simp)).load
        simp only at hl
        rw [← e4] at hl
        exact hl
      · intro vals p hI hp
        have e5 : (Roll.putD Dtrees4 vals [] b0).eval (.tmp 5) = .pointer (some ⟨w.heap.size + 1, 0, none⟩) := (Roll.eval_old rfl).trans (hlv.at 1 (5, .pointer (some ⟨w.heap.size + 1, 0, none⟩)) rfl)
        clear hp hlv hN
        unfold Roll.Goes
        simp only [Ltrees4, List.getD_cons_zero, List.getD_cons_succ]
        generalize Roll.putD Dtrees4 vals [] b0 = a1 at *
        refine Roll.goes_val (w' := p) (.agg (bcells y)) rfl ?_ ⟨hI, Below.refl _ _, rfl⟩
        have hl := (hI.1.hb (w.heap.size + 1, y) (by simp)).load
        simp only at hl
        rw [← e5] at hl
        exact hl
      · intro vals p hI hp
        have h0 : (vals 0) = .agg (bcells x) := hp 0 (by simp [Ltrees4])
        have h1 : (vals 1) = .agg (bcells y) := hp 1 (by simp [Ltrees4])
        have e35 : (Roll.putD Dtrees4 vals [0, 1] b0).eval (.tmp 35) = .agg (bcells x) := (Roll.eval_new 0 rfl (by decide) (by decide) (by omega)).trans h0
        have e36 : (Roll.putD Dtrees4 vals [0, 1] b0).eval (.tmp 36) = .agg (bcells y) := (Roll.eval_new 1 rfl (by decide) (by decide) (by omega)).trans h1
        clear hp hlv hN
        unfold Roll.Goes
        simp only [Ltrees4, List.getD_cons_zero, List.getD_cons_succ]
        generalize Roll.putD Dtrees4 vals [0, 1] b0 = a1 at *
        refine Roll.goes_call 27 #[.agg (bcells x), .agg (bcells y)] p rfl (by have ec : ∀ x, a1.eval (.const x) = x := fun _ => rfl; have ef : ∀ x, a1.eval (.func x) = .func (.func x) #[] #[] := fun _ => rfl; generalize a1.eval = ρ at *; go_simp) ?_
        refine (node_any x y p hI.1.tabs Hx.out Hy.out).mono ?_
        rw [HKN.out]
        rintro e p2 ⟨rfl, hb⟩
        exact ⟨_, rfl, ⟨hI.1.step hb, hI.2.trans (hb.mono hI.2.size)⟩, hb, rfl⟩
      · intro vals p hI hp
        have e4 : (Roll.putD Dtrees4 vals [] b0).eval (.tmp 4) = .pointer (some ⟨w.heap.size, 0, none⟩) := (Roll.eval_old rfl).trans (hlv.at 0 (4, .pointer (some ⟨w.heap.size, 0, none⟩)) rfl)
        clear hp hlv hN
        unfold Roll.Goes
        simp only [Ltrees4, List.getD_cons_zero, List.getD_cons_succ]
        generalize Roll.putD Dtrees4 vals [] b0 = a1 at *
        refine Roll.goes_val (w' := p) (.agg (bcells x)) rfl ?_ ⟨hI, Below.refl _ _, rfl⟩
        have hl := (hI.1.hb (w.heap.size, x) (by simp)).load
        simp only at hl
        rw [← e4] at hl
        exact hl
      · intro vals p hI hp
        have e5 : (Roll.putD Dtrees4 vals [] b0).eval (.tmp 5) = .pointer (some ⟨w.heap.size + 1, 0, none⟩) := (Roll.eval_old rfl).trans (hlv.at 1 (5, .pointer (some ⟨w.heap.size + 1, 0, none⟩)) rfl)
        clear hp hlv hN
        unfold Roll.Goes
        simp only [Ltrees4, List.getD_cons_zero, List.getD_cons_succ]
        generalize Roll.putD Dtrees4 vals [] b0 = a1 at *
        refine Roll.goes_val (w' := p) (.agg (bcells y)) rfl ?_ ⟨hI, Below.refl _ _, rfl⟩
        have hl := (hI.1.hb (w.heap.size + 1, y) (by simp)).load
        simp only at hl
        rw [← e5] at hl
        exact hl
      · intro vals p hI hp
        have h3 : (vals 3) = .agg (bcells x) := hp 3 (by simp [Ltrees4])
        have h4 : (vals 4) = .agg (bcells y) := hp 4 (by simp [Ltrees4])
        have e38 : (Roll.putD Dtrees4 vals [3, 4] b0).eval (.tmp 38) = .agg (bcells x) := (Roll.eval_new 3 rfl (by decide) (by decide) (by omega)).trans h3
        have e39 : (Roll.putD Dtrees4 vals [3, 4] b0).eval (.tmp 39) = .agg (bcells y) := (Roll.eval_new 4 rfl (by decide) (by decide) (by omega)).trans h4
        clear hp hlv hN
        unfold Roll.Goes
        simp only [Ltrees4, List.getD_cons_zero, List.getD_cons_succ]
        generalize Roll.putD Dtrees4 vals [3, 4] b0 = a1 at *
        refine Roll.goes_call 28 #[.agg (bcells x), .agg (bcells y)] p rfl (by have ec : ∀ x, a1.eval (.const x) = x := fun _ => rfl; have ef : ∀ x, a1.eval (.func x) = .func (.func x) #[] #[] := fun _ => rfl; generalize a1.eval = ρ at *; go_simp) ?_
        refine (rnode_any x y p Hx.out Hy.out).mono ?_
        rw [HKN.out]
        rintro e p2 ⟨rfl, hb⟩
        exact ⟨_, rfl, ⟨hI.1.step hb, hI.2.trans (hb.mono hI.2.size)⟩, hb, rfl⟩
      · intro vals p hI hp
        have h2 : (vals 2) = .agg (bcells KN) := hp 2 (by simp [Ltrees4])
        have h5 : (vals 5) = .agg (bcells KN) := hp 5 (by simp [Ltrees4])
        have e37 : (Roll.putD Dtrees4 vals [2, 5] b0).eval (.tmp 37) = .agg (bcells KN) := (Roll.eval_new 2 rfl (by decide) (by decide) (by omega)).trans h2
        have e40 : (Roll.putD Dtrees4 vals [2, 5] b0).eval (.tmp 40) = .agg (bcells KN) := (Roll.eval_new 5 rfl (by decide) (by decide) (by omega)).trans h5
        clear hp hlv hN
        unfold Roll.Goes
        simp only [Ltrees4, List.getD_cons_zero, List.getD_cons_succ]
        generalize Roll.putD Dtrees4 vals [2, 5] b0 = a1 at *
        refine Roll.goes_val (w' := p) (.bool true) rfl ?_ ⟨hI, Below.refl _ _, rfl⟩
        (have ec : ∀ x, a1.eval (.const x) = x := fun _ => rfl); (have ef : ∀ x, a1.eval (.func x) = .func (.func x) #[] #[] := fun _ => rfl); generalize a1.eval = ρ at *
        clear h2 h5
        go_simp <;> (intros; first | (exfalso; omega) | rfl)
      · intro vals p hI hp
        have h6 : (vals 6) = .bool true := hp 6 (by simp [Ltrees4])
        have e41 : (Roll.putD Dtrees4 vals [6] b0).eval (.tmp 41) = .bool true := (Roll.eval_new 6 rfl (by decide) (by decide) (by omega)).trans h6
        clear hp hlv hN
        unfold Roll.Goes
        simp only [Ltrees4, List.getD_cons_zero, List.getD_cons_succ]
        generalize Roll.putD Dtrees4 vals [6] b0 = a1 at *
        refine Roll.goes_val (w' := p) (.bool true) rfl ?_ ⟨hI, Below.refl _ _, rfl⟩
        (have ec : ∀ x, a1.eval (.const x) = x := fun _ => rfl); (have ef : ∀ x, a1.eval (.func x) = .func (.func x) #[] #[] := fun _ => rfl); generalize a1.eval = ρ at *
        clear h6
        go_simp <;> (intros; first | (exfalso; omega) | rfl)
      · intro vals p hI hp
        have h7 : (vals 7) = .bool true := hp 7 (by simp [Ltrees4])
        have e8 : (Roll.putD Dtrees4 vals [7] b0).eval (.tmp 8) = .pointer (some ⟨g8, 0, none⟩) := (Roll.eval_old rfl).trans (hlv.at 2 (8, .pointer (some ⟨g8, 0, none⟩)) rfl)
        clear hp hlv hN
        refine ⟨fun hg => ?_, fun hg => absurd h7 hg⟩
        clear hg
        unfold Roll.Goes
        simp only [Ltrees4, List.getD_cons_zero, List.getD_cons_succ]
        generalize Roll.putD Dtrees4 vals [7] b0 = a1 at *
        refine Roll.goes_val (w' := p) v8 rfl ?_ ⟨hI, Below.refl _ _, rfl⟩
        have hl := HL8.out p hI.2
        rw [← e8] at hl
        exact hl
      · intro vals p hI hp
        have h8 : (vals 8) = v8 := hp 8 (by simp [Ltrees4])
        have h7 : (vals 7) = .bool true := hp 7 (by simp [Ltrees4])
        have e43 : (Roll.putD Dtrees4 vals [8, 7] b0).eval (.tmp 43) = v8 := (Roll.eval_new 8 rfl (by decide) (by decide) (by omega)).trans h8
        clear hp hlv hN
        refine ⟨fun hg => ?_, fun hg => absurd h7 hg⟩
        clear hg
        unfold Roll.Goes
        simp only [Ltrees4, List.getD_cons_zero, List.getD_cons_succ]
        generalize Roll.putD Dtrees4 vals [8, 7] b0 = a1 at *
        refine Roll.goes_call 22 #[v8] p rfl (by have ec : ∀ x, a1.eval (.const x) = x := fun _ => rfl; have ef : ∀ x, a1.eval (.func x) = .func (.func x) #[] #[] := fun _ => rfl; generalize a1.eval = ρ at *; go_simp) ?_
        refine (close_any v8 le p hI.1.tabs (HS8.out.below hI.2) (by have := Lle.out; omega)).mono ?_
        rw [HvN.out]
        rintro e p2 ⟨rfl, hb⟩
        exact ⟨_, rfl, ⟨hI.1.step hb, hI.2.trans (hb.mono hI.2.size)⟩, hb, rfl⟩
      · intro vals p hI hp
        have h7 : (vals 7) = .bool true := hp 7 (by simp [Ltrees4])
        have e4 : (Roll.putD Dtrees4 vals [7] b0).eval (.tmp 4) = .pointer (some ⟨w.heap.size, 0, none⟩) := (Roll.eval_old rfl).trans (hlv.at 0 (4, .pointer (some ⟨w.heap.size, 0, none⟩)) rfl)
        clear hp hlv hN
        refine ⟨fun hg => ?_, fun hg => absurd h7 hg⟩
        clear hg
        unfold Roll.Goes
        simp only [Ltrees4, List.getD_cons_zero, List.getD_cons_succ]
        generalize Roll.putD Dtrees4 vals [7] b0 = a1 at *
        refine Roll.goes_val (w' := p) (.agg (bcells x)) rfl ?_ ⟨hI, Below.refl _ _, rfl⟩
        have hl := (hI.1.hb (w.heap.size, x) (by simp)).load
        simp only at hl
        rw [← e4] at hl
        exact hl
      · intro vals p hI hp
        have h7 : (vals 7) = .bool true := hp 7 (by simp [Ltrees4])
        have e5 : (Roll.putD Dtrees4 vals [7] b0).eval (.tmp 5) = .pointer (some ⟨w.heap.size + 1, 0, none⟩) := (Roll.eval_old rfl).trans (hlv.at 1 (5, .pointer (some ⟨w.heap.size + 1, 0, none⟩)) rfl)
        clear hp hlv hN
        refine ⟨fun hg => ?_, fun hg => absurd h7 hg⟩
        clear hg
        unfold Roll.Goes
        simp only [Ltrees4, List.getD_cons_zero, List.getD_cons_succ]
        generalize Roll.putD Dtrees4 vals [7] b0 = a1 at *
        refine Roll.goes_val (w' := p) (.agg (bcells y)) rfl ?_ ⟨hI, Below.refl _ _, rfl⟩
        have hl := (hI.1.hb (w.heap.size + 1, y) (by simp)).load
        simp only at hl
        rw [← e5] at hl
        exact hl
      · intro vals p hI hp
        have h10 : (vals 10) = .agg (bcells x) := hp 10 (by simp [Ltrees4])
        have h11 : (vals 11) = .agg (bcells y) := hp 11 (by simp [Ltrees4])
        have h7 : (vals 7) = .bool true := hp 7 (by simp [Ltrees4])
        have e45 : (Roll.putD Dtrees4 vals [10, 11, 7] b0).eval (.tmp 45) = .agg (bcells x) := (Roll.eval_new 10 rfl (by decide) (by decide) (by omega)).trans h10
        have e46 : (Roll.putD Dtrees4 vals [10, 11, 7] b0).eval (.tmp 46) = .agg (bcells y) := (Roll.eval_new 11 rfl (by decide) (by decide) (by omega)).trans h11
        clear hp hlv hN
        refine ⟨fun hg => ?_, fun hg => absurd h7 hg⟩
        clear hg
        unfold Roll.Goes
        simp only [Ltrees4, List.getD_cons_zero, List.getD_cons_succ]
        generalize Roll.putD Dtrees4 vals [10, 11, 7] b0 = a1 at *
        refine Roll.goes_call 27 #[.agg (bcells x), .agg (bcells y)] p rfl (by have ec : ∀ x, a1.eval (.const x) = x := fun _ => rfl; have ef : ∀ x, a1.eval (.func x) = .func (.func x) #[] #[] := fun _ => rfl; generalize a1.eval = ρ at *; go_simp) ?_
        refine (node_any x y p hI.1.tabs Hx.out Hy.out).mono ?_
        rw [HKN.out]
        rintro e p2 ⟨rfl, hb⟩
        exact ⟨_, rfl, ⟨hI.1.step hb, hI.2.trans (hb.mono hI.2.size)⟩, hb, rfl⟩
      · intro vals p hI hp
        have h9 : (vals 9) = .agg (bcells KN) := hp 9 (by simp [Ltrees4])
        have h12 : (vals 12) = .agg (bcells KN) := hp 12 (by simp [Ltrees4])
        have h7 : (vals 7) = .bool true := hp 7 (by simp [Ltrees4])
        have e44 : (Roll.putD Dtrees4 vals [9, 12, 7] b0).eval (.tmp 44) = .agg (bcells KN) := (Roll.eval_new 9 rfl (by decide) (by decide) (by omega)).trans h9
        have e47 : (Roll.putD Dtrees4 vals [9, 12, 7] b0).eval (.tmp 47) = .agg (bcells KN) := (Roll.eval_new 12 rfl (by decide) (by decide) (by omega)).trans h12
        clear hp hlv hN
        refine ⟨fun hg => ?_, fun hg => absurd h7 hg⟩
        clear hg
        unfold Roll.Goes
        simp only [Ltrees4, List.getD_cons_zero, List.getD_cons_succ]
        generalize Roll.putD Dtrees4 vals [9, 12, 7] b0 = a1 at *
        refine Roll.goes_val (w' := p) (.bool true) rfl ?_ ⟨hI, Below.refl _ _, rfl⟩
        (have ec : ∀ x, a1.eval (.const x) = x := fun _ => rfl); (have ef : ∀ x, a1.eval (.func x) = .func (.func x) #[] #[] := fun _ => rfl); generalize a1.eval = ρ at *
        clear h9 h12 h7
        go_simp <;> (intros; first | (exfalso; omega) | rfl)
      · intro vals p hI hp
        have h7 : (vals 7) = .bool true := hp 7 (by simp [Ltrees4])
        have h13 : (vals 13) = .bool true := hp 13 (by simp [Ltrees4])
        have e42 : (Roll.putD Dtrees4 vals [7, 13] b0).eval (.tmp 42) = .bool true := (Roll.eval_new 7 rfl (by decide) (by decide) (by omega)).trans h7
        have e48 : (Roll.putD Dtrees4 vals [7, 13] b0).eval (.tmp 48) = .bool true := (Roll.eval_new 13 rfl (by decide) (by decide) (by omega)).trans h13
        clear hp hlv hN
        unfold Roll.Goes
        simp only [Ltrees4, List.getD_cons_zero, List.getD_cons_succ]
        generalize Roll.putD Dtrees4 vals [7, 13] b0 = a1 at *
        refine Roll.goes_val (w' := p) (.bool true) rfl ?_ ⟨hI, Below.refl _ _, rfl⟩
        (have ec : ∀ x, a1.eval (.const x) = x := fun _ => rfl); (have ef : ∀ x, a1.eval (.func x) = .func (.func x) #[] #[] := fun _ => rfl); generalize a1.eval = ρ at *
        clear h7 h13
        go_simp <;> (intros; first | (exfalso; omega) | rfl)
    · intro vals p hI hR
      have h0 : (vals 0) = .agg (bcells x) := hR 0 (by omega)
      have h1 : (vals 1) = .agg (bcells y) := hR 1 (by omega)
      have h2 : (vals 2) = .agg (bcells KN) := hR 2 (by omega)
      have h3 : (vals 3) = .agg (bcells x) := hR 3 (by omega)
      have h4 : (vals 4) = .agg (bcells y) := hR 4 (by omega)
      have h5 : (vals 5) = .agg (bcells KN) := hR 5 (by omega)
      have h6 : (vals 6) = .bool true := hR 6 (by omega)
      have h7 : (vals 7) = .bool true := hR 7 (by omega)
      have h8 : (vals 8) = v8 := hR 8 (by omega)
      have h9 : (vals 9) = .agg (bcells KN) := hR 9 (by omega)
      have h10 : (vals 10) = .agg (bcells x) := hR 10 (by omega)
      have h11 : (vals 11) = .agg (bcells y) := hR 11 (by omega)
      have h12 : (vals 12) = .agg (bcells KN) := hR 12 (by omega)
      have h13 : (vals 13) = .bool true := hR 13 (by omega)
      have h14 : (vals 14) = .bool true := hR 14 (by omega)
      clear hR
      simp only [List.range_succ, List.range_zero, List.nil_append, List.cons_append, Roll.putD, Act.put, List.getD_cons_zero, List.getD_cons_succ, List.setIfInBounds_toArray, List.set_cons_zero, List.set_cons_succ, List.drop_succ_cons, List.drop_zero, Dtrees4]
      simp only [h0, h1, h2, h3, h4, h5, h6, h7, h8, h9, h10, h11, h12, h13, h14]
      clear h0 h1 h2 h3 h4 h5 h6 h7 h8 h9 h10 h11 h12 h13 h14
      have N10 := Lib.hid hI.1
      clear hI
      go_wp2_with (go_at_call 14; refine (lives_any _ N10.out.tabs).mono ?_; rintro e w11 ⟨rfl, hb⟩; have N11 := Lib.hid (N10.out.step hb); clear hb)
      go_ret
      exact ⟨rfl, N11.out.bel⟩
end Go.Proofs.YtdfpjhpkkhdpoaaDoor

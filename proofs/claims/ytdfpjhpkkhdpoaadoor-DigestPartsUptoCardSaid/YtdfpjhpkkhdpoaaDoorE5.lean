/-
  The law DigestParts: its walk.
-/
import Derived.Test.YtdfpjhpkkhdpoaaDoorE4
import Derived.Test.YtdfpjhpkkhdpoaaDoorR0
namespace Go.Proofs.YtdfpjhpkkhdpoaaDoor
open Go.RowKit
set_option linter.unusedSimpArgs false
set_option linter.unusedVariables false
attribute [local go_sem ↓] exec_load33 exec_store33 exec_sliceF exec_sliceT exec_sliceM
attribute [local go_sem ↓] exec_at_zero exec_at_succ Go.wp_at_zero Go.wp_at_succ
attribute [local go_sem] run_store33 Blk33_drew absH_len run_eq24 Hv_len eqg24
theorem Now.blk33 {w p : World} {g : Nat} {l' : List UInt8} (N : Now w p [] []) (hg : w.heap.size ≤ g) (h2 : 2 ≤ w.heap.size) (hb : Blk33 p g) {a : Option Addr} {c : Nat} (h : Bs p a (absR l').length c (absR l')) :
    Now w (p.setRow g (dcells (absH H8 l') a (absR l').length c l'.length)) [(g, l')] [] := by
  have hw : Below w.heap.size p (p.setRow g (dcells (absH H8 l') a (absR l').length c l'.length)) := Below_setRow (Below.refl _ _) hg _
  refine ⟨N.tabs.below hw h2, N.bel.trans hw, fun x hx => ?_, by simp⟩
  obtain rfl : x = (g, l') := by simpa using hx
  obtain ⟨hs, a0, n0, c0, L0, h0, hg0⟩ := id hb
  exact ⟨a, c, setRow_heap _ _ _ _ _ _ hg0, Bs_setRow33 h hb _⟩
set_option maxRecDepth 100000 in
set_option maxHeartbeats 4000000 in
theorem parts_any (a : Option Addr) (n c : Nat) (lb : List UInt8) (i k l : Int) (w : World) (hT : Tabs w) (hB : Bs w a n c lb) (hn : n ≤ 1048576)
    (i1 : -9223372036854775808 ≤ i) (i2 : i ≤ 9223372036854775807) (k1 : -9223372036854775808 ≤ k) (k2 : k ≤ 9223372036854775807) (l1 : -9223372036854775808 ≤ l) (l2 : l ≤ 9223372036854775807) :
    Calls Tryd.prog 6 #[.slice a n c, .int .i64 i, .int .i64 k, .int .i64 l] w fun e w' => e = .returned (.bool true) ∧ Below w.heap.size w w' := by
  have HB := Lib.hid hB
  have N0 := Lib.hid (Now.start hT)
  have Hz := Lib.hid hT.2.2
  have HR : Hid (∀ x ∈ [i, k, l], -9223372036854775808 ≤ x ∧ x ≤ 9223372036854775807) := Lib.hid (by simp; omega)
  clear hT hB i1 i2 k1 k2 l1 l2
  go_enter Tryd.func6, Tryd.ntmps6
  go_upto_region 3 with (first
    | (go_at_call 23; refine (sorted_any _ 3 3 _ ((n : Int) + 1) _ (Is_three w _ _ _) (by omega) (by simp; omega)).mono ?_; rintro e w2 ⟨sa, sc, out, rfl, hI, hs, hb, hbl⟩; have N2 := Lib.hid (N0.out.step (((Below.refl _ _).alloc (Nat.le_refl _) _).trans (hbl.mono (by simp)))); obtain ⟨pb, po, P, Q, R, rfl, pc, hPQ, hQR, hR⟩ := PC_of hI hs hb; have PC2 := Lib.hid pc; clear hI hs hb hbl pc)
    | (go_at_call 16; refine (around_any _ _ _ (HR.out _ (by simp)).1 (HR.out _ (by simp)).2 (by omega) (by omega)).mono ?_; rintro e w1 ⟨⟨r, hr, rfl⟩, rfl⟩))
  have hR2 : R ≤ n := by omega
  have hBs2 : Bs w2 a n c lb := HB.out.below N2.out.bel
  obtain ⟨sT, bT⟩ := run_sliceT hBs2 P (by omega)
  obtain ⟨ma, mc, sM, bM⟩ := run_sliceM hBs2 P Q hPQ (by omega)
  obtain ⟨na, nc, sN, bN⟩ := run_sliceM hBs2 Q R hQR (by omega)
  obtain ⟨fa, fc, sF, bF⟩ := run_sliceF hBs2 R (by omega)
  have t1 := take_two lb P Q hPQ
  have t2 := take_two lb Q R hQR
  have t3 := List.take_append_drop R lb
  have y1 : (lb.take P).length ≤ n := by rw [List.length_take, hBs2.1]; omega
  have y2 : (lb.take Q).length ≤ n := by rw [List.length_take, hBs2.1]; omega
  have y3 : (lb.take R).length ≤ n := by rw [List.length_take, hBs2.1]; omega
  have z1 := bT.1
  have z2 := bM.1
  have z3 := bN.1
  have z4 := bF.1
  obtain ⟨d1, hd1⟩ : ∃ d, d = Q - P := ⟨_, rfl⟩
  obtain ⟨d2, hd2⟩ : ∃ d, d = R - Q := ⟨_, rfl⟩
  obtain ⟨d3, hd3⟩ : ∃ d, d = n - R := ⟨_, rfl⟩
  have x1 : d1 ≤ n := by omega
  have x2 : d2 ≤ n := by omega
  have x3 : d3 ≤ n := by omega
  rw [← hd1] at sM bM z2
  rw [← hd2] at sN bN z3
  rw [← hd3] at sF bF z4
  generalize lb.take P = A1 at *
  generalize (lb.take Q).drop P = M1 at *
  generalize lb.take Q = A2 at *
  generalize (lb.take R).drop Q = M2 at *
  generalize lb.take R = A3 at *
  generalize lb.drop R = F1 at *
  have X := Lib.hid (And.intro t1 (And.intro t2 t3))
  have Y := Lib.hid (And.intro y1 (And.intro y2 y3))
  have Z := Lib.hid (And.intro z1 (And.intro z2 (And.intro z3 z4)))
  have W := Lib.hid (And.intro bT (And.intro bM (And.intro bN bF)))
  have D := Lib.hid (And.intro x1 (And.intro x2 x3))
  clear t1 t2 t3 y1 y2 y3 z1 z2 z3 z4 hd1 hd2 hd3 x1 x2 x3 bT bM bN bF hBs2
  refine Roll.region_l 17 [some 27, some 28, some 29, some 30, some 31, some 32, some 33, some 34, some 35, some 36, some 37, some 38, some 39, some 40, some 41, some 42, some 11, none] [[], [], [], [2], [3], [1, 4], [0, 5], [], [], [8], [9], [], [11], [12], [7, 10, 13], [6, 14], [], [16, 15]] (fun p => Now w p [] [] ∧ Below w2.heap.size w2 p) (fun p p' => Below p.heap.size p p') [fun v p => St p v [], fun v p => v = .slice a n c, fun v p => v = .slice (some ⟨pb, po, none⟩) 3 sc, fun v p => v = .pointer (some ⟨pb, po, none⟩), fun v p => v = .int .i64 (P : Int), fun v p => v = .slice a P c, fun v p => St p v A1, fun v p => v = .slice a n c, fun v p => v = .slice (some ⟨pb, po, none⟩) 3 sc, fun v p => v = .pointer (some ⟨pb, po, none⟩), fun v p => v = .int .i64 (P : Int), fun v p => v = .slice (some ⟨pb, po, none⟩) 3 sc, fun v p => v = .pointer (some ⟨pb, po + 1, none⟩), fun v p => v = .int .i64 (Q : Int), fun v p => v = .slice ma d1 mc, fun v p => St p v A2, fun v p => ∃ g, v = .pointer (some ⟨g, 0, none⟩) ∧ w2.heap.size ≤ g ∧ p.heap[g]? = some (.cells (dcells (List.replicate 8 0) none 0 0 0) 33 (0, 0))] (by kernel_rfl) (by kernel_rfl) (⟨N2.out.drew, (Below.refl _ _).drew⟩) ?_ ?_ ?_
  · exact ⟨fun _ _ _ hb h => St.below h hb, fun _ _ _ _ h => h, fun _ _ _ _ h => h, fun _ _ _ _ h => h, fun _ _ _ _ h => h, fun _ _ _ _ h => h, fun _ _ _ hb h => St.below h hb, fun _ _ _ _ h => h, fun _ _ _ _ h => h, fun _ _ _ _ h => h, fun _ _ _ _ h => h, fun _ _ _ _ h => h, fun _ _ _ _ h => h, fun _ _ _ _ h => h, fun _ _ _ _ h => h, fun _ _ _ hb h => St.below h hb, fun _ _ _ hb h => by obtain ⟨g, e, h1, h2⟩ := h; exact ⟨g, e, h1, (hb.block g (heap_lt h2)).trans h2⟩, trivial⟩
  · refine ⟨?_, ?_, ?_, ?_, ?_, ?_, ?_, ?_, ?_, ?_, ?_, ?_, ?_, ?_, ?_, ?_, ?_, trivial⟩
    · intro vals p hI hp
      clear hp
      simp only [Roll.Goes, List.range_succ, List.range_zero, List.nil_append, List.cons_append, Roll.putD, Act.put, List.getD_cons_zero, List.getD_cons_succ, List.setIfInBounds_toArray, List.set_cons_zero, List.set_cons_succ, List.drop_succ_cons, List.drop_zero]
      go_wp2_with (go_at_call 18; refine (new_any _ hI.1.tabs).mono ?_; rintro e p2 ⟨v3, rfl, hS, hb⟩)
      exact ⟨_, rfl, ⟨hI.1.step hb, hI.2.trans (hb.mono hI.2.size)⟩, hb, hS⟩
    · intro vals p hI hp
      clear hp
      simp only [Roll.Goes, List.range_succ, List.range_zero, List.nil_append, List.cons_append, Roll.putD, Act.put, List.getD_cons_zero, List.getD_cons_succ, List.setIfInBounds_toArray, List.set_cons_zero, List.set_cons_succ, List.drop_succ_cons, List.drop_zero]
      go_wp2_with fail
      exact ⟨_, rfl, hI, Below.refl _ _, rfl⟩
    · intro vals p hI hp
      clear hp
      simp only [Roll.Goes, List.range_succ, List.range_zero, List.nil_append, List.cons_append, Roll.putD, Act.put, List.getD_cons_zero, List.getD_cons_succ, List.setIfInBounds_toArray, List.set_cons_zero, List.set_cons_succ, List.drop_succ_cons, List.drop_zero]
      go_wp2_with fail
      exact ⟨_, rfl, hI, Below.refl _ _, rfl⟩
    · intro vals p hI hp
      have h2 : (vals 2) = .slice (some ⟨pb, po, none⟩) 3 sc := hp 2 (by simp)
      clear hp
      simp only [Roll.Goes, List.range_succ, List.range_zero, List.nil_append, List.cons_append, Roll.putD, Act.put, List.getD_cons_zero, List.getD_cons_succ, List.setIfInBounds_toArray, List.set_cons_zero, List.set_cons_succ, List.drop_succ_cons, List.drop_zero, h2]
      go_wp2_with fail
      exact ⟨_, rfl, hI, Below.refl _ _, rfl⟩
    · intro vals p hI hp
      have h3 : (vals 3) = .pointer (some ⟨pb, po, none⟩) := hp 3 (by simp)
      clear hp
      obtain ⟨q0, q1, q2⟩ := PC2.out.below hI.2
      simp only [Roll.Goes, List.range_succ, List.range_zero, List.nil_append, List.cons_append, Roll.putD, Act.put, List.getD_cons_zero, List.getD_cons_succ, List.setIfInBounds_toArray, List.set_cons_zero, List.set_cons_succ, List.drop_succ_cons, List.drop_zero, h3]
      go_wp2_with fail
      exact ⟨_, rfl, hI, Below.refl _ _, rfl⟩
    · intro vals p hI hp
      have h1 : (vals 1) = .slice a n c := hp 1 (by simp)
      have h4 : (vals 4) = .int .i64 (P : Int) := hp 4 (by simp)
      clear hp
      simp only [Roll.Goes, List.range_succ, List.range_zero, List.nil_append, List.cons_append, Roll.putD, Act.put, List.getD_cons_zero, List.getD_cons_succ, List.setIfInBounds_toArray, List.set_cons_zero, List.set_cons_succ, List.drop_succ_cons, List.drop_zero, h1, h4]
      go_wp2_with fail
      exact ⟨_, rfl, hI, Below.refl _ _, rfl⟩
    · intro vals p hI hp
      have h0 : St p (vals 0) [] := hp 0 (by simp)
      have h5 : (vals 5) = .slice a P c := hp 5 (by simp)
      clear hp
      simp only [Roll.Goes, List.range_succ, List.range_zero, List.nil_append, List.cons_append, Roll.putD, Act.put, List.getD_cons_zero, List.getD_cons_succ, List.setIfInBounds_toArray, List.set_cons_zero, List.set_cons_succ, List.drop_succ_cons, List.drop_zero, h5]
      go_wp2_with (go_at_call 17; refine (write_any _ [] a P c A1 p hI.1.tabs h0 (W.out.1.below hI.2) (by have := Y.out.1; have := Z.out.1; simp; omega)).mono ?_; rintro e p2 ⟨v4, rfl, hS, hb⟩; rw [List.nil_append] at hS)
      exact ⟨_, rfl, ⟨hI.1.step hb, hI.2.trans (hb.mono hI.2.size)⟩, hb, hS⟩
    · intro vals p hI hp
      clear hp
      simp only [Roll.Goes, List.range_succ, List.range_zero, List.nil_append, List.cons_append, Roll.putD, Act.put, List.getD_cons_zero, List.getD_cons_succ, List.setIfInBounds_toArray, List.set_cons_zero, List.set_cons_succ, List.drop_succ_cons, List.drop_zero]
      go_wp2_with fail
      exact ⟨_, rfl, hI, Below.refl _ _, rfl⟩
    · intro vals p hI hp
      clear hp
      simp only [Roll.Goes, List.range_succ, List.range_zero, List.nil_append, List.cons_append, Roll.putD, Act.put, List.getD_cons_zero, List.getD_cons_succ, List.setIfInBounds_toArray, List.set_cons_zero, List.set_cons_succ, List.drop_succ_cons, List.drop_zero]
      go_wp2_with fail
      exact ⟨_, rfl, hI, Below.refl _ _, rfl⟩
    · intro vals p hI hp
      have h8 : (vals 8) = .slice (some ⟨pb, po, none⟩) 3 sc := hp 8 (by simp)
      clear hp
      simp only [Roll.Goes, List.range_succ, List.range_zero, List.nil_append, List.cons_append, Roll.putD, Act.put, List.getD_cons_zero, List.getD_cons_succ, List.setIfInBounds_toArray, List.set_cons_zero, List.set_cons_succ, List.drop_succ_cons, List.drop_zero, h8]
      go_wp2_with fail
      exact ⟨_, rfl, hI, Below.refl _ _, rfl⟩
    · intro vals p hI hp
      have h9 : (vals 9) = .pointer (some ⟨pb, po, none⟩) := hp 9 (by simp)
      clear hp
      obtain ⟨q0, q1, q2⟩ := PC2.out.below hI.2
      simp only [Roll.Goes, List.range_succ, List.range_zero, List.nil_append, List.cons_append, Roll.putD, Act.put, List.getD_cons_zero, List.getD_cons_succ, List.setIfInBounds_toArray, List.set_cons_zero, List.set_cons_succ, List.drop_succ_cons, List.drop_zero, h9]
      go_wp2_with fail
      exact ⟨_, rfl, hI, Below.refl _ _, rfl⟩
    · intro vals p hI hp
      clear hp
      simp only [Roll.Goes, List.range_succ, List.range_zero, List.nil_append, List.cons_append, Roll.putD, Act.put, List.getD_cons_zero, List.getD_cons_succ, List.setIfInBounds_toArray, List.set_cons_zero, List.set_cons_succ, List.drop_succ_cons, List.drop_zero]
      go_wp2_with fail
      exact ⟨_, rfl, hI, Below.refl _ _, rfl⟩
    · intro vals p hI hp
      have h11 : (vals 11) = .slice (some ⟨pb, po, none⟩) 3 sc := hp 11 (by simp)
      clear hp
      simp only [Roll.Goes, List.range_succ, List.range_zero, List.nil_append, List.cons_append, Roll.putD, Act.put, List.getD_cons_zero, List.getD_cons_succ, List.setIfInBounds_toArray, List.set_cons_zero, List.set_cons_succ, List.drop_succ_cons, List.drop_zero, h11]
      go_wp2_with fail
      exact ⟨_, rfl, hI, Below.refl _ _, rfl⟩
    · intro vals p hI hp
      have h12 : (vals 12) = .pointer (some ⟨pb, po + 1, none⟩) := hp 12 (by simp)
      clear hp
      obtain ⟨q0, q1, q2⟩ := PC2.out.below hI.2
      simp only [Roll.Goes, List.range_succ, List.range_zero, List.nil_append, List.cons_append, Roll.putD, Act.put, List.getD_cons_zero, List.getD_cons_succ, List.setIfInBounds_toArray, List.set_cons_zero, List.set_cons_succ, List.drop_succ_cons, List.drop_zero, h12]
      go_wp2_with fail
      exact ⟨_, rfl, hI, Below.refl _ _, rfl⟩
    · intro vals p hI hp
      have h7 : (vals 7) = .slice a n c := hp 7 (by simp)
      have h10 : (vals 10) = .int .i64 (P : Int) := hp 10 (by simp)
      have h13 : (vals 13) = .int .i64 (Q : Int) := hp 13 (by simp)
      clear hp
      simp only [Roll.Goes, List.range_succ, List.range_zero, List.nil_append, List.cons_append, Roll.putD, Act.put, List.getD_cons_zero, List.getD_cons_succ, List.setIfInBounds_toArray, List.set_cons_zero, List.set_cons_succ, List.drop_succ_cons, List.drop_zero, h7, h10, h13]
      go_wp2_with fail
      exact ⟨_, rfl, hI, Below.refl _ _, rfl⟩
    · intro vals p hI hp
      have h6 : St p (vals 6) A1 := hp 6 (by simp)
      have h14 : (vals 14) = .slice ma d1 mc := hp 14 (by simp)
      clear hp
      simp only [Roll.Goes, List.range_succ, List.range_zero, List.nil_append, List.cons_append, Roll.putD, Act.put, List.getD_cons_zero, List.getD_cons_succ, List.setIfInBounds_toArray, List.set_cons_zero, List.set_cons_succ, List.drop_succ_cons, List.drop_zero, h14]
      go_wp2_with (go_at_call 17; refine (write_any _ A1 ma d1 mc M1 p hI.1.tabs h6 (W.out.2.1.below hI.2) (by have := Y.out.1; have := Z.out.2.1; have := D.out.1; omega)).mono ?_; rintro e p2 ⟨v4, rfl, hS, hb⟩; rw [X.out.1] at hS)
      exact ⟨_, rfl, ⟨hI.1.step hb, hI.2.trans (hb.mono hI.2.size)⟩, hb, hS⟩
    · intro vals p hI hp
      clear hp
      simp only [Roll.Goes, List.range_succ, List.range_zero, List.nil_append, List.cons_append, Roll.putD, Act.put, List.getD_cons_zero, List.getD_cons_succ, List.setIfInBounds_toArray, List.set_cons_zero, List.set_cons_succ, List.drop_succ_cons, List.drop_zero]
      go_wp2_with fail
      have hb := (Below.refl p.heap.size p).alloc (Nat.le_refl _) (.cells #[.int .u32 0, .int .u32 0, .int .u32 0, .int .u32 0, .int .u32 0, .int .u32 0, .int .u32 0, .int .u32 0, .slice none 0 0, .int .i64 0] 33)
      exact ⟨_, rfl, ⟨hI.1.step hb, hI.2.trans (hb.mono hI.2.size)⟩, hb, p.heap.size, rfl, hI.2.size, by rw [zeros33]; exact heap_new rfl⟩
  · intro vals p hI hR
    have h0 : St p (vals 0) [] := hR 0 (by omega)
    have h1 : (vals 1) = .slice a n c := hR 1 (by omega)
    have h2 : (vals 2) = .slice (some ⟨pb, po, none⟩) 3 sc := hR 2 (by omega)
    have h3 : (vals 3) = .pointer (some ⟨pb, po, none⟩) := hR 3 (by omega)
    have h4 : (vals 4) = .int .i64 (P : Int) := hR 4 (by omega)
    have h5 : (vals 5) = .slice a P c := hR 5 (by omega)
    have h6 : St p (vals 6) A1 := hR 6 (by omega)
    have h7 : (vals 7) = .slice a n c := hR 7 (by omega)
    have h8 : (vals 8) = .slice (some ⟨pb, po, none⟩) 3 sc := hR 8 (by omega)
    have h9 : (vals 9) = .pointer (some ⟨pb, po, none⟩) := hR 9 (by omega)
    have h10 : (vals 10) = .int .i64 (P : Int) := hR 10 (by omega)
    have h11 : (vals 11) = .slice (some ⟨pb, po, none⟩) 3 sc := hR 11 (by omega)
    have h12 : (vals 12) = .pointer (some ⟨pb, po + 1, none⟩) := hR 12 (by omega)
    have h13 : (vals 13) = .int .i64 (Q : Int) := hR 13 (by omega)
    have h14 : (vals 14) = .slice ma d1 mc := hR 14 (by omega)
    have h15 : St p (vals 15) A2 := hR 15 (by omega)
    have h16 : ∃ g, (vals 16) = .pointer (some ⟨g, 0, none⟩) ∧ w2.heap.size ≤ g ∧ p.heap[g]? = some (.cells (dcells (List.replicate 8 0) none 0 0 0) 33 (0, 0)) := hR 16 (by omega)
    simp only [List.range_succ, List.range_zero, List.nil_append, List.cons_append, Roll.putD, Act.put, List.getD_cons_zero, List.getD_cons_succ, List.setIfInBounds_toArray, List.set_cons_zero, List.set_cons_succ, List.drop_succ_cons, List.drop_zero]
    clear hR
    simp only [h1, h2, h3, h4, h5, h7, h8, h9, h10, h11, h12, h13, h14]
    clear h1 h2 h3 h4 h5 h7 h8 h9 h10 h11 h12 h13 h14
    obtain ⟨g, e16, hg, hblk⟩ := h16
    obtain ⟨ua, uc, e15, hu⟩ := h15
    simp only [e16, e15]
    go_upto_region 4 with (refine wpList_store_row rfl 33 (.tmp 11) (.tmp 42) rfl g _ rfl rfl 33 _ hblk (size33n _ _ _ _ _) (by rw [dcells_size _ _ _ _ _ (absH_len _), dcells_size _ _ _ _ _ (by first | exact absH_len _ | simp)]) (dcells_one _ _ _ _ _) ?_)
    have Hg := Lib.hid (Nat.le_trans N2.out.bel.size hg)
    have NX := Lib.hid (hI.1.blk33 Hg.out Hz.out ⟨_, _, _, _, _, by simp, hblk⟩ hu)
    have BX := Lib.hid (Below_setRow hI.2 hg (dcells (absH H8 A2) ua (absR A2).length uc A2.length))
    have HG := Lib.hid hg
    generalize p.setRow g (dcells (absH H8 A2) ua (absR A2).length uc A2.length) = W3 at *
    clear h0 h6 e16 e15 hu hblk hI hg
    refine Roll.region_l 16 [some 43, some 44, some 45, some 46, some 47, some 48, some 49, some 50, some 51, some 52, some 53, some 54, some 55, some 56, some 57, some 58, none] [[], [], [], [2], [3], [], [5], [6], [1, 4, 7], [0, 8], [], [], [11], [12], [10, 13], [9, 14], [15]] (fun p => Now w p [(g, A2)] [] ∧ Below w2.heap.size w2 p) (fun p p' => Below p.heap.size p p') [fun v p => St p v A2, fun v p => v = .slice a n c, fun v p => v = .slice (some ⟨pb, po, none⟩) 3 sc, fun v p => v = .pointer (some ⟨pb, po + 1, none⟩), fun v p => v = .int .i64 (Q : Int), fun v p => v = .slice (some ⟨pb, po, none⟩) 3 sc, fun v p => v = .pointer (some ⟨pb, po + 2, none⟩), fun v p => v = .int .i64 (R : Int), fun v p => v = .slice na d2 nc, fun v p => St p v A3, fun v p => v = .slice a n c, fun v p => v = .slice (some ⟨pb, po, none⟩) 3 sc, fun v p => v = .pointer (some ⟨pb, po + 2, none⟩), fun v p => v = .int .i64 (R : Int), fun v p => v = .slice fa d3 fc, fun v p => St p v lb] (by kernel_rfl) (by kernel_rfl) (⟨NX.out.drew, BX.out.drew⟩) ?_ ?_ ?_
    · exact ⟨fun _ _ _ hb h => St.below h hb, fun _ _ _ _ h => h, fun _ _ _ _ h => h, fun _ _ _ _ h => h, fun _ _ _ _ h => h, fun _ _ _ _ h => h, fun _ _ _ _ h => h, fun _ _ _ _ h => h, fun _ _ _ _ h => h, fun _ _ _ hb h => St.below h hb, fun _ _ _ _ h => h, fun _ _ _ _ h => h, fun _ _ _ _ h => h, fun _ _ _ _ h => h, fun _ _ _ _ h => h, fun _ _ _ hb h => St.below h hb, trivial⟩
    · refine ⟨?_, ?_, ?_, ?_, ?_, ?_, ?_, ?_, ?_, ?_, ?_, ?_, ?_, ?_, ?_, ?_, trivial⟩
      · intro vals4 p hI hp
        clear hp
        obtain ⟨v, ld, hS⟩ := (hI.1.sb (g, A2) (by simp)).st
        simp only at ld
        simp only [Roll.Goes, List.range_succ, List.range_zero, List.nil_append, List.cons_append, Roll.putD, Act.put, List.getD_cons_zero, List.getD_cons_succ, List.setIfInBounds_toArray, List.set_cons_zero, List.set_cons_succ, List.drop_succ_cons, List.drop_zero]
        go_wp2_with fail
        exact ⟨_, rfl, hI, Below.refl _ _, hS⟩
      · intro vals4 p hI hp
        clear hp
        simp only [Roll.Goes, List.range_succ, List.range_zero, List.nil_append, List.cons_append, Roll.putD, Act.put, List.getD_cons_zero, List.getD_cons_succ, List.setIfInBounds_toArray, List.set_cons_zero, List.set_cons_succ, List.drop_succ_cons, List.drop_zero]
        go_wp2_with fail
        exact ⟨_, rfl, hI, Below.refl _ _, rfl⟩
      · intro vals4 p hI hp
        clear hp
        simp only [Roll.Goes, List.range_succ, List.range_zero, List.nil_append, List.cons_append, Roll.putD, Act.put, List.getD_cons_zero, List.getD_cons_succ, List.setIfInBounds_toArray, List.set_cons_zero, List.set_cons_succ, List.drop_succ_cons, List.drop_zero]
        go_wp2_with fail
        exact ⟨_, rfl, hI, Below.refl _ _, rfl⟩
      · intro vals4 p hI hp
        have h2 : (vals4 2) = .slice (some ⟨pb, po, none⟩) 3 sc := hp 2 (by simp)
        clear hp
        simp only [Roll.Goes, List.range_succ, List.range_zero, List.nil_append, List.cons_append, Roll.putD, Act.put, List.getD_cons_zero, List.getD_cons_succ, List.setIfInBounds_toArray, List.set_cons_zero, List.set_cons_succ, List.drop_succ_cons, List.drop_zero, h2]
        go_wp2_with fail
        exact ⟨_, rfl, hI, Below.refl _ _, rfl⟩
      · intro vals4 p hI hp
        have h3 : (vals4 3) = .pointer (some ⟨pb, po + 1, none⟩) := hp 3 (by simp)
        clear hp
        obtain ⟨q0, q1, q2⟩ := PC2.out.below hI.2
        simp only [Roll.Goes, List.range_succ, List.range_zero, List.nil_append, List.cons_append, Roll.putD, Act.put, List.getD_cons_zero, List.getD_cons_succ, List.setIfInBounds_toArray, List.set_cons_zero, List.set_cons_succ, List.drop_succ_cons, List.drop_zero, h3]
        go_wp2_with fail
        exact ⟨_, rfl, hI, Below.refl _ _, rfl⟩
      · intro vals4 p hI hp
        clear hp
        simp only [Roll.Goes, List.range_succ, List.range_zero, List.nil_append, List.cons_append, Roll.putD, Act.put, List.getD_cons_zero, List.getD_cons_succ, List.setIfInBounds_toArray, List.set_cons_zero, List.set_cons_succ, List.drop_succ_cons, List.drop_zero]
        go_wp2_with fail
        exact ⟨_, rfl, hI, Below.refl _ _, rfl⟩
      · intro vals4 p hI hp
        have h5 : (vals4 5) = .slice (some ⟨pb, po, none⟩) 3 sc := hp 5 (by simp)
        clear hp
        simp only [Roll.Goes, List.range_succ, List.range_zero, List.nil_append, List.cons_append, Roll.putD, Act.put, List.getD_cons_zero, List.getD_cons_succ, List.setIfInBounds_toArray, List.set_cons_zero, List.set_cons_succ, List.drop_succ_cons, List.drop_zero, h5]
        go_wp2_with fail
        exact ⟨_, rfl, hI, Below.refl _ _, rfl⟩
      · intro vals4 p hI hp
        have h6 : (vals4 6) = .pointer (some ⟨pb, po + 2, none⟩) := hp 6 (by simp)
        clear hp
        obtain ⟨q0, q1, q2⟩ := PC2.out.below hI.2
        simp only [Roll.Goes, List.range_succ, List.range_zero, List.nil_append, List.cons_append, Roll.putD, Act.put, List.getD_cons_zero, List.getD_cons_succ, List.setIfInBounds_toArray, List.set_cons_zero, List.set_cons_succ, List.drop_succ_cons, List.drop_zero, h6]
        go_wp2_with fail
        exact ⟨_, rfl, hI, Below.refl _ _, rfl⟩
      · intro vals4 p hI hp
        have h1 : (vals4 1) = .slice a n c := hp 1 (by simp)
        have h4 : (vals4 4) = .int .i64 (Q : Int) := hp 4 (by simp)
        have h7 : (vals4 7) = .int .i64 (R : Int) := hp 7 (by simp)
        clear hp
        simp only [Roll.Goes, List.range_succ, List.range_zero, List.nil_append, List.cons_append, Roll.putD, Act.put, List.getD_cons_zero, List.getD_cons_succ, List.setIfInBounds_toArray, List.set_cons_zero, List.set_cons_succ, List.drop_succ_cons, List.drop_zero, h1, h4, h7]
        go_wp2_with fail
        exact ⟨_, rfl, hI, Below.refl _ _, rfl⟩
      · intro vals4 p hI hp
        have h0 : St p (vals4 0) A2 := hp 0 (by simp)
        have h8 : (vals4 8) = .slice na d2 nc := hp 8 (by simp)
        clear hp
        simp only [Roll.Goes, List.range_succ, List.range_zero, List.nil_append, List.cons_append, Roll.putD, Act.put, List.getD_cons_zero, List.getD_cons_succ, List.setIfInBounds_toArray, List.set_cons_zero, List.set_cons_succ, List.drop_succ_cons, List.drop_zero, h8]
        go_wp2_with (go_at_call 17; refine (write_any _ A2 na d2 nc M2 p hI.1.tabs h0 (W.out.2.2.1.below hI.2) (by have := Y.out.2.1; have := Z.out.2.2.1; have := D.out.2.1; omega)).mono ?_; rintro e p2 ⟨v4, rfl, hS, hb⟩; rw [X.out.2.1] at hS)
        exact ⟨_, rfl, ⟨hI.1.step hb, hI.2.trans (hb.mono hI.2.size)⟩, hb, hS⟩
      · intro vals4 p hI hp
        clear hp
        simp only [Roll.Goes, List.range_succ, List.range_zero, List.nil_append, List.cons_append, Roll.putD, Act.put, List.getD_cons_zero, List.getD_cons_succ, List.setIfInBounds_toArray, List.set_cons_zero, List.set_cons_succ, List.drop_succ_cons, List.drop_zero]
        go_wp2_with fail
        exact ⟨_, rfl, hI, Below.refl _ _, rfl⟩
      · intro vals4 p hI hp
        clear hp
        simp only [Roll.Goes, List.range_succ, List.range_zero, List.nil_append, List.cons_append, Roll.putD, Act.put, List.getD_cons_zero, List.getD_cons_succ, List.setIfInBounds_toArray, List.set_cons_zero, List.set_cons_succ, List.drop_succ_cons, List.drop_zero]
        go_wp2_with fail
        exact ⟨_, rfl, hI, Below.refl _ _, rfl⟩
      · intro vals4 p hI hp
        have h11 : (vals4 11) = .slice (some ⟨pb, po, none⟩) 3 sc := hp 11 (by simp)
        clear hp
        simp only [Roll.Goes, List.range_succ, List.range_zero, List.nil_append, List.cons_append, Roll.putD, Act.put, List.getD_cons_zero, List.getD_cons_succ, List.setIfInBounds_toArray, List.set_cons_zero, List.set_cons_succ, List.drop_succ_cons, List.drop_zero, h11]
        go_wp2_with fail
        exact ⟨_, rfl, hI, Below.refl _ _, rfl⟩
      · intro vals4 p hI hp
        have h12 : (vals4 12) = .pointer (some ⟨pb, po + 2, none⟩) := hp 12 (by simp)
        clear hp
        obtain ⟨q0, q1, q2⟩ := PC2.out.below hI.2
        simp only [Roll.Goes, List.range_succ, List.range_zero, List.nil_append, List.cons_append, Roll.putD, Act.put, List.getD_cons_zero, List.getD_cons_succ, List.setIfInBounds_toArray, List.set_cons_zero, List.set_cons_succ, List.drop_succ_cons, List.drop_zero, h12]
        go_wp2_with fail
        exact ⟨_, rfl, hI, Below.refl _ _, rfl⟩
      · intro vals4 p hI hp
        have h10 : (vals4 10) = .slice a n c := hp 10 (by simp)
        have h13 : (vals4 13) = .int .i64 (R : Int) := hp 13 (by simp)
        clear hp
        simp only [Roll.Goes, List.range_succ, List.range_zero, List.nil_append, List.cons_append, Roll.putD, Act.put, List.getD_cons_zero, List.getD_cons_succ, List.setIfInBounds_toArray, List.set_cons_zero, List.set_cons_succ, List.drop_succ_cons, List.drop_zero, h10, h13]
        go_wp2_with fail
        exact ⟨_, rfl, hI, Below.refl _ _, rfl⟩
      · intro vals4 p hI hp
        have h9 : St p (vals4 9) A3 := hp 9 (by simp)
        have h14 : (vals4 14) = .slice fa d3 fc := hp 14 (by simp)
        clear hp
        simp only [Roll.Goes, List.range_succ, List.range_zero, List.nil_append, List.cons_append, Roll.putD, Act.put, List.getD_cons_zero, List.getD_cons_succ, List.setIfInBounds_toArray, List.set_cons_zero, List.set_cons_succ, List.drop_succ_cons, List.drop_zero, h14]
        go_wp2_with (go_at_call 17; refine (write_any _ A3 fa d3 fc F1 p hI.1.tabs h9 (W.out.2.2.2.below hI.2) (by have := Y.out.2.2; have := Z.out.2.2.2; have := D.out.2.2; omega)).mono ?_; rintro e p2 ⟨v4, rfl, hS, hb⟩; rw [X.out.2.2] at hS)
        exact ⟨_, rfl, ⟨hI.1.step hb, hI.2.trans (hb.mono hI.2.size)⟩, hb, hS⟩
    · intro vals4 p hI hR
      have h0 : St p (vals4 0) A2 := hR 0 (by omega)
      have h1 : (vals4 1) = .slice a n c := hR 1 (by omega)
      have h2 : (vals4 2) = .slice (some ⟨pb, po, none⟩) 3 sc := hR 2 (by omega)
      have h3 : (vals4 3) = .pointer (some ⟨pb, po + 1, none⟩) := hR 3 (by omega)
      have h4 : (vals4 4) = .int .i64 (Q : Int) := hR 4 (by omega)
      have h5 : (vals4 5) = .slice (some ⟨pb, po, none⟩) 3 sc := hR 5 (by omega)
      have h6 : (vals4 6) = .pointer (some ⟨pb, po + 2, none⟩) := hR 6 (by omega)
      have h7 : (vals4 7) = .int .i64 (R : Int) := hR 7 (by omega)
      have h8 : (vals4 8) = .slice na d2 nc := hR 8 (by omega)
      have h9 : St p (vals4 9) A3 := hR 9 (by omega)
      have h10 : (vals4 10) = .slice a n c := hR 10 (by omega)
      have h11 : (vals4 11) = .slice (some ⟨pb, po, none⟩) 3 sc := hR 11 (by omega)
      have h12 : (vals4 12) = .pointer (some ⟨pb, po + 2, none⟩) := hR 12 (by omega)
      have h13 : (vals4 13) = .int .i64 (R : Int) := hR 13 (by omega)
      have h14 : (vals4 14) = .slice fa d3 fc := hR 14 (by omega)
      have h15 : St p (vals4 15) lb := hR 15 (by omega)
      simp only [List.range_succ, List.range_zero, List.nil_append, List.cons_append, Roll.putD, Act.put, List.getD_cons_zero, List.getD_cons_succ, List.setIfInBounds_toArray, List.set_cons_zero, List.set_cons_succ, List.drop_succ_cons, List.drop_zero]
      clear hR
      simp only [h1, h2, h3, h4, h5, h6, h7, h8, h10, h11, h12, h13, h14]
      clear h1 h2 h3 h4 h5 h6 h7 h8 h10 h11 h12 h13 h14
      obtain ⟨ua4, uc4, e15, hu⟩ := h15
      obtain ⟨xa, xc, hblk, _⟩ := hI.1.sb (g, A2) (by simp)
      simp only [e15]
      go_upto_region 5 with (refine wpList_store_row rfl 33 (.tmp 11) (.tmp 58) rfl g _ rfl rfl 33 _ hblk (size33n _ _ _ _ _) (by rw [dcells_size _ _ _ _ _ (absH_len _), dcells_size _ _ _ _ _ (by first | exact absH_len _ | simp)]) (dcells_one _ _ _ _ _) ?_)
      have NY := Lib.hid (hI.1.set33 Hg.out Hz.out hu)
      generalize p.setRow g (dcells (absH H8 lb) ua4 (absR lb).length uc4 lb.length) = W4 at *
      clear h0 h9 e15 hu hblk hI
      have hB4 := HB.out.below NY.out.bel
      go_upto_region 6 with (first
        | (go_at_call 18; refine (new_any _ NY.out.tabs).mono ?_; rintro e w5 ⟨v5, rfl, hS, hb⟩; have N5 := Lib.hid (NY.out.step hb); have S5 := Lib.hid hS; clear hb hS)
        | (go_at_call 17; refine (write_any _ [] a n c lb _ N5.out.tabs S5.out (HB.out.below N5.out.bel) (by have := HB.out.1; simp; omega)).mono ?_; rintro e w6 ⟨v6, rfl, ⟨ub, uc6, rfl, hu⟩, hb⟩; rw [List.nil_append] at hu ⊢; have N6 := Lib.hid (N5.out.step hb); have U6 := Lib.hid hu; clear hb hu)
        | (refine wpList_store_row rfl 33 (.tmp 12) (.tmp 61) rfl w6.heap.size _ rfl rfl 33 _ (heap_new rfl) (size33n _ _ _ _ _) (by rw [dcells_size _ _ _ _ _ (absH_len _)]; rfl) (dcells_one _ _ _ _ _) ?_; obtain ⟨w7, hw7, hN, hz7⟩ := N6.out.put33 U6.out; rw [hw7]; have N7 := Lib.hid hN; clear hw7 hN hz7))
      generalize w6.heap.size = g12 at *
      have hlen := Lib.hid HB.out.1
      obtain ⟨v7, ld7, S7⟩ := (N7.out.sb (g, lb) (by simp)).st
      obtain ⟨v8, ld8, S8⟩ := (N7.out.sb (g12, lb) (by simp)).st
      simp only at ld7 ld8
      go_wp2_with (first
        | (go_at_call 19; refine (same_any _ _ lb _ S7 S8).mono ?_; rintro e w8 ⟨rfl, hb⟩; have N8 := Lib.hid (N7.out.step hb); clear hb; obtain ⟨v9, ld9, S9⟩ := (N8.out.sb (g, lb) (by simp)).st; simp only at ld9)
        | (go_at_call 22; refine (close_any _ lb _ N8.out.tabs S9 (by have := hlen.out; omega)).mono ?_; rintro e w9 ⟨rfl, hb⟩; have N9 := Lib.hid (N8.out.step hb); clear hb)
        | (go_at_call 12; refine (sum_any a n c lb _ N9.out.tabs (HB.out.below N9.out.bel) (by omega)).mono ?_; rintro e w10 ⟨rfl, hb⟩; have N10 := Lib.hid (N9.out.step hb); clear hb)
        | (go_at_call 14; refine (lives_any _ N10.out.tabs).mono ?_; rintro e w11 ⟨rfl, hb⟩; have N11 := Lib.hid (N10.out.step hb); clear hb))
      all_goals
        go_ret
        exact ⟨rfl, N11.out.bel⟩
      
end Go.Proofs.YtdfpjhpkkhdpoaaDoor

/-
  The law's tracked.
-/
import Derived.Test.YtbnodhcgdgcebaaUG
import Derived.Test.YtbnodhcgdgcebaaR4
namespace Go.Proofs.Ytbnodhcgdgcebaa
open Go.RowKit
set_option linter.unusedSimpArgs false
set_option linter.unusedVariables false
def Dtk6 : List (Option Tmp) := [some 22, some 23, some 24, some 25, some 26, some 27, some 28, some 29, some 30, some 31, some 32, none]
def Ltk6 : List (List Nat) := [[], [], [1], [2], [3], [], [5], [6], [4, 7], [0], [9], [10, 8]]
theorem inR_one {w : World} {Bf : Nat → Prop} {r : Nat} {a : Option Addr} {c : Nat} {b : List UInt8} (hg : w.heap[r]? = some (.cells #[.slice a 64 c] 32 (0, 0))) (hb : Bs Bf w a 64 c b) : InR w Bf r (.slice (some ⟨r, 0, none⟩) 1 1) [b] :=
  ⟨[.slice a 64 c], ⟨rfl, .inr ⟨r, 0, 1, #[.slice a 64 c], rfl, rfl, hg, Nat.le_refl _, by decide, rfl, rfl⟩⟩, fun j hj => by
    obtain rfl : j = 0 := by simp at hj; exact hj
    exact ⟨a, c, rfl, hb⟩⟩
set_option maxRecDepth 100000 in
set_option maxHeartbeats 4000000 in
theorem tracked_lv {w0 w : World} {L : List Obj} (h : Lv w0 w L) (n : Int) (h1 : -9223372036854775808 ≤ n) (h2 : n ≤ 9223372036854775807) :
    Calls Try.prog 24 #[.int .i64 n] w fun e w' => ∃ g gt, e = .returned (.tuple #[.pointer (some ⟨g, 0, none⟩), .pointer (some ⟨gt, 0, none⟩)]) ∧ Lv w0 w' (trackO 55 [] gt (DM.new (secs n)).S :: diskO g (DM.new (secs n)) :: L) := by
  have har := around_bd n 16 (by omega)
  have hsb := secs_bd n
  have hs : (1 : Int) + around n 16 = (secs n : Int) := by unfold secs; omega
  obtain ⟨A, hA⟩ : ∃ A, A = around n 16 := ⟨_, rfl⟩
  obtain ⟨N, hN⟩ : ∃ N, N = secs n := ⟨_, rfl⟩
  rw [← hA] at har hs
  rw [← hN] at hs hsb ⊢
  have HA := Lib.hid hA
  have HN := Lib.hid hN
  have HN16 := Lib.hid hsb.2
  have HL0 := Lib.hid h
  have hw : IntKind.i64.wrap (1 + A) = (N : Int) := by rw [i64_id _ (by omega) (by omega)]; exact hs
  clear hA hN hs h har
  go_enter Try.func24, Try.ntmps24
  go_upto_region 4 with (first
    | (have hL := HL0.out; go_at_call 12; refine (made_lv hL n h1 h2).mono ?_; rintro e w1 ⟨g, rfl, hl⟩; rw [← HN.out] at hl; have HL1 := Lib.hid hl; clear hl HL0 hL))
  -- CUT 1
  obtain ⟨w2, hw2⟩ : ∃ w2, w2 = w1.alloc (.cells #[.slice none 0 0] 55) := ⟨_, rfl⟩
  obtain ⟨gt, hgt⟩ : ∃ gt, gt = w1.heap.size := ⟨_, rfl⟩
  have hT0 : Trk w2 55 [] gt none (.slice none 0 0) (fun _ => 0) (fun _ => False) (List.replicate 0 [zeroB]) := ⟨by rw [hw2]; exact heap_new hgt, ⟨[], Rw.nil _ _, fun k hk => by simp at hk⟩, fun i j hi => by simp at hi, by simp, fun i hi => by simp at hi, ⟨fun h => h, fun _ _ h => h, fun _ _ h => h⟩, fun _ h => h.elim⟩
  have HT0 := Lib.hid hT0
  have HB0 : Hid (Below w1.heap.size w1 w2) := Lib.hid (by rw [hw2]; exact (Below.refl _ _).alloc (Nat.le_refl _) _)
  have HGW := Lib.hid hgt
  rw [← hw2, ← hgt]
  clear hw2 hT0 hgt
  go_loopw [6] (fun t wr => ∃ (i : Nat) (gso : Option Nat) (vo : Value) (row : Nat → Nat) (Bf : Nat → Prop), i ≤ N ∧ t = .int .i64 (i : Int) ∧ Trk wr 55 [] gt gso vo row Bf (List.replicate i [zeroB]) ∧ (∀ x, TBlk gt gso row Bf i x → w1.heap.size ≤ x) ∧ Below w1.heap.size w1 wr) (fun t _ => N - (intOf t).toNat)
  case atStart => exact ⟨0, _, _, _, _, Nat.zero_le _, rfl, HT0.out, by rintro x (rfl | hx | ⟨j, hj, _⟩ | hx); exact Nat.le_of_eq HGW.out.symm; cases hx; omega; exact hx.elim, HB0.out⟩
  case round =>
    obtain ⟨i, gso, vo, row, Bf, hi, rfl, hT, hblk, hbw⟩ := hrel
    have HT := Lib.hid hT
    have HBLK := Lib.hid hblk
    have HBQ := Lib.hid hbw
    clear hT hblk hbw HT0 HB0
    by_cases hlt : i < N
    · have hlt2 : (i : Int) < (N : Int) := by omega
      have hw3 : IntKind.i64.wrap ((i : Int) + 1) = (i : Int) + 1 := i64_id _ (by omega) (by omega)
      go_upto_region 6 with (first
        | (go_at_call 14; refine (around_any n 16 _ h1 h2 (by omega) (by omega)).mono ?_; rintro e w3 ⟨rfl, rfl⟩; rw [← HA.out]))
      -- CUT 2
      rename World => q
      have HT : Hid (Trk q 55 [] gt gso vo row Bf (List.replicate i [zeroB])) := HT
      have HBQ : Hid (Below w1.heap.size w1 q) := HBQ
      obtain ⟨xs, hxs, hin⟩ := HT.out.outer
      have hself := HT.out.self
      have HIN := Lib.hid hin
      have HXS : Hid (Rw q 56 gso vo i xs) := Lib.hid (by rw [List.length_replicate] at hxs; exact hxs)
      have HSELF := Lib.hid hself
      have HAP := Lib.hid HT.out.ap1
      have HGT : Hid (gt < q.heap.size) := Lib.hid (heap_lt hself)
      have HGS : Hid (∀ j, gso = some j → j < q.heap.size) := Lib.hid hxs.lt
      have CV : Hid (q.cell? ⟨gt, 0, none⟩ = some vo) := Lib.hid (by rw [cell_of_row q gt 0 _ _ _ hself]; rfl)
      clear hxs hin hself
      refine Roll.region_v 9 35 Dtk6 Ltk6 [(5, .pointer (some ⟨gt, 0, none⟩))] 8 [true, true, true, true, true, false, false, false, false] (fun p => Below q.heap.size q p) (fun vv p => ∃ k' r a c, Rw p 56 k' vv (i + 1) (xs ++ [.slice (some ⟨r, 0, none⟩) 1 1]) ∧ (∀ j, k' = some j → gso = some j ∨ q.heap.size ≤ j) ∧ q.heap.size ≤ r ∧ k' ≠ some r ∧ p.heap[r]? = some (.cells #[.slice a 64 c] 32 (0, 0)) ∧ Bs (fun x => q.heap.size ≤ x ∧ x < r) p a 64 c zeroB ∧ (∀ x, q.heap.size ≤ x → x < r → k' ≠ some x) ∧ r < p.heap.size ∧ Kept (fun j => gso = some j) q p) (fun p => Kept (fun j => gso = some j) q p) (fun p p2 => Kept (fun j => gso = some j) p p2) [fun vv p => (vv 0) = .pointer (some ⟨gt, 0, none⟩), fun vv p => (vv 1) = .pointer (some ⟨gt, 0, none⟩), fun vv p => (vv 2) = .pointer (some ⟨gt, 0, none⟩), fun vv p => (vv 3) = .pointer (some ⟨gt, 0, none⟩), fun vv p => (vv 4) = vo, fun vv p => ∃ a c, (vv 5) = .slice a 64 c ∧ Bs (fun x => q.heap.size ≤ x) p a 64 c zeroB, fun vv p => ∃ r a c, (vv 6) = .slice (some ⟨r, 0, none⟩) 1 1 ∧ q.heap.size ≤ r ∧ p.heap[r]? = some (.cells #[.slice a 64 c] 32 (0, 0)) ∧ Bs (fun x => q.heap.size ≤ x ∧ x < r) p a 64 c zeroB, fun vv p => ∃ s r a c, (vv 7) = .slice (some ⟨s, 0, none⟩) 1 1 ∧ q.heap.size ≤ s ∧ p.heap[s]? = some (.cells #[.slice (some ⟨r, 0, none⟩) 1 1] 56 (0, 0)) ∧ q.heap.size ≤ r ∧ p.heap[r]? = some (.cells #[.slice a 64 c] 32 (0, 0)) ∧ Bs (fun x => q.heap.size ≤ x ∧ x < r) p a 64 c zeroB, fun vv p => True] (by kernel_rfl) (by kernel_rfl) rfl ⟨rfl, trivial⟩ ((Below.refl _ _).drew) (by decide) (by kernel_rfl) (fun _ h => Kept.of_below _ h) (fun _ _ h => by obtain ⟨_, _, _, _, _, _, _, _, _, _, _, _, h⟩ := h; exact h) (fun _ => Kept.refl _ _) ?_ ?_ ?_
      · exact ⟨fun _ _ _ _ h => h, fun _ _ _ _ h => h, fun _ _ _ _ h => h, fun _ _ _ _ h => h, fun _ _ _ _ h => h, fun _ _ _ hs h => by obtain ⟨a, c, e1, e2⟩ := h; exact ⟨a, c, e1, e2.kept hs (fun x _ hx e => by have := HGS.out _ e; omega)⟩, fun _ _ _ hs h => by obtain ⟨r, a, c, e1, e2, e3, e4⟩ := h; exact ⟨r, a, c, e1, e2, hs.heap e3 (fun e => by have := HGS.out _ e; omega), e4.kept hs (fun x _ hx e => by have := HGS.out _ e; omega)⟩, fun _ _ _ hs h => by obtain ⟨s, r, a, c, e1, e0, e2, e3, e4, e5⟩ := h; exact ⟨s, r, a, c, e1, e0, hs.heap e2 (fun e => by have := HGS.out _ e; omega), e3, hs.heap e4 (fun e => by have := HGS.out _ e; omega), e5.kept hs (fun x _ hx e => by have := HGS.out _ e; omega)⟩, fun _ _ _ _ h => h, trivial⟩
      · intro b0 hN hlv
        refine ⟨?_, ?_, ?_, ?_, ?_, ?_, ?_, ?_, ?_, trivial⟩
        · intro vs p hI0 hp
          have hI := Roll.inw_pure (by decide) rfl hI0
          clear hI0
          have e5 : (Roll.putD Dtk6 vs [] b0).eval (.tmp 5) = .pointer (some ⟨gt, 0, none⟩) := (Roll.eval_old rfl).trans (hlv.at 0 (5, .pointer (some ⟨gt, 0, none⟩)) rfl)
          clear hp hlv hN
          unfold Roll.Goes
          simp only [Ltk6, List.getD_cons_zero, List.getD_cons_succ]
          generalize Roll.putD Dtk6 vs [] b0 = a1 at *
          refine Roll.goes_val (w' := p) (.pointer (some ⟨gt, 0, none⟩)) rfl ?_ ⟨(Roll.outw_pure (by decide) rfl), rfl⟩
          (have ec : ∀ x, a1.eval (.const x) = x := fun _ => rfl); (have ef : ∀ x, a1.eval (.func x) = .func (.func x) #[] #[] := fun _ => rfl); generalize a1.eval = ρ at *
          skip
          go_simp <;> (intros; first | (exfalso; omega) | rfl)
        · intro vs p hI0 hp
          have hI := Roll.inw_pure (by decide) rfl hI0
          clear hI0
          have e5 : (Roll.putD Dtk6 vs [] b0).eval (.tmp 5) = .pointer (some ⟨gt, 0, none⟩) := (Roll.eval_old rfl).trans (hlv.at 0 (5, .pointer (some ⟨gt, 0, none⟩)) rfl)
          clear hp hlv hN
          unfold Roll.Goes
          simp only [Ltk6, List.getD_cons_zero, List.getD_cons_succ]
          generalize Roll.putD Dtk6 vs [] b0 = a1 at *
          refine Roll.goes_val (w' := p) (.pointer (some ⟨gt, 0, none⟩)) rfl ?_ ⟨(Roll.outw_pure (by decide) rfl), rfl⟩
          (have ec : ∀ x, a1.eval (.const x) = x := fun _ => rfl); (have ef : ∀ x, a1.eval (.func x) = .func (.func x) #[] #[] := fun _ => rfl); generalize a1.eval = ρ at *
          skip
          go_simp <;> (intros; first | (exfalso; omega) | rfl)
        · intro vs p hI0 hp
          have hI := Roll.inw_pure (by decide) rfl hI0
          clear hI0
          have h1 : (vs 1) = .pointer (some ⟨gt, 0, none⟩) := hp 1 (by simp [Ltk6])
          have e23 : (Roll.putD Dtk6 vs [1] b0).eval (.tmp 23) = .pointer (some ⟨gt, 0, none⟩) := (Roll.eval_new 1 rfl (by decide) (by decide) (by omega)).trans h1
          clear hp hlv hN
          unfold Roll.Goes
          simp only [Ltk6, List.getD_cons_zero, List.getD_cons_succ]
          generalize Roll.putD Dtk6 vs [1] b0 = a1 at *
          refine Roll.goes_val (w' := p) (.pointer (some ⟨gt, 0, none⟩)) rfl ?_ ⟨(Roll.outw_pure (by decide) rfl), rfl⟩
          (have ec : ∀ x, a1.eval (.const x) = x := fun _ => rfl); (have ef : ∀ x, a1.eval (.func x) = .func (.func x) #[] #[] := fun _ => rfl); generalize a1.eval = ρ at *
          clear h1
          go_simp <;> (intros; first | (exfalso; omega) | rfl)
        · intro vs p hI0 hp
          have hI := Roll.inw_pure (by decide) rfl hI0
          clear hI0
          have h2 : (vs 2) = .pointer (some ⟨gt, 0, none⟩) := hp 2 (by simp [Ltk6])
          have e24 : (Roll.putD Dtk6 vs [2] b0).eval (.tmp 24) = .pointer (some ⟨gt, 0, none⟩) := (Roll.eval_new 2 rfl (by decide) (by decide) (by omega)).trans h2
          clear hp hlv hN
          unfold Roll.Goes
          simp only [Ltk6, List.getD_cons_zero, List.getD_cons_succ]
          generalize Roll.putD Dtk6 vs [2] b0 = a1 at *
          refine Roll.goes_val (w' := p) (.pointer (some ⟨gt, 0, none⟩)) rfl ?_ ⟨(Roll.outw_pure (by decide) rfl), rfl⟩
          (have ec : ∀ x, a1.eval (.const x) = x := fun _ => rfl); (have ef : ∀ x, a1.eval (.func x) = .func (.func x) #[] #[] := fun _ => rfl); generalize a1.eval = ρ at *
          clear h2
          go_simp <;> (intros; first | (exfalso; omega) | rfl)
        · intro vs p hI0 hp
          have hI := Roll.inw_pure (by decide) rfl hI0
          clear hI0
          have h3 : (vs 3) = .pointer (some ⟨gt, 0, none⟩) := hp 3 (by simp [Ltk6])
          have e25 : (Roll.putD Dtk6 vs [3] b0).eval (.tmp 25) = .pointer (some ⟨gt, 0, none⟩) := (Roll.eval_new 3 rfl (by decide) (by decide) (by omega)).trans h3
          clear hp hlv hN
          unfold Roll.Goes
          simp only [Ltk6, List.getD_cons_zero, List.getD_cons_succ]
          generalize Roll.putD Dtk6 vs [3] b0 = a1 at *
          have cf : p.cell? ⟨gt, 0, none⟩ = some vo := (hI.cell (p := ⟨gt, 0, none⟩) HGT.out HAP.out).trans CV.out
          refine Roll.goes_val (w' := p) (vo) rfl ?_ ⟨(Roll.outw_pure (by decide) rfl), rfl⟩
          (have ec : ∀ x, a1.eval (.const x) = x := fun _ => rfl); (have ef : ∀ x, a1.eval (.func x) = .func (.func x) #[] #[] := fun _ => rfl); generalize a1.eval = ρ at *
          clear h3
          go_simp <;> (intros; first | (exfalso; omega) | rfl)
        · intro vs p hI0 hp
          have hI := Roll.inw_pre (by decide) rfl hI0
          clear hI0
          clear hp hlv hN
          unfold Roll.Goes
          simp only [Ltk6, List.getD_cons_zero, List.getD_cons_succ]
          generalize Roll.putD Dtk6 vs [] b0 = a1 at *
          refine Roll.goes_call 23 #[.int .u8 0] p rfl (by have ec : ∀ x, a1.eval (.const x) = x := fun _ => rfl; have ef : ∀ x, a1.eval (.func x) = .func (.func x) #[] #[] := fun _ => rfl; generalize a1.eval = ρ at *; go_simp) ?_
          refine (full_any 0 0 rfl p).mono ?_
          rintro y p2 ⟨v3, rfl, hm3⟩
          obtain ⟨a3, c3, rfl, hb3⟩ := hm3.bs
          obtain ⟨_, _, _, hbl⟩ := hm3
          rw [List.length_replicate] at hb3 ⊢
          exact ⟨_, rfl, Roll.outw_pre (by decide) rfl (hI.trans (hbl.mono hI.size)) (Kept.of_below _ hbl), a3, c3, rfl, hb3.dom (fun x hx => Nat.le_trans hI.size hx)⟩
        · intro vs p hI0 hp
          have hI := Roll.inw_pre (by decide) rfl hI0
          clear hI0
          have h5 : ∃ a c, (vs 5) = .slice a 64 c ∧ Bs (fun x => q.heap.size ≤ x) p a 64 c zeroB := hp 5 (by simp [Ltk6])
          have e27 : (Roll.putD Dtk6 vs [5] b0).eval (.tmp 27) = vs 5 := (Roll.eval_new 5 rfl (by decide) (by decide) (by omega))
          clear hp hlv hN
          unfold Roll.Goes
          simp only [Ltk6, List.getD_cons_zero, List.getD_cons_succ]
          generalize Roll.putD Dtk6 vs [5] b0 = a1 at *
          obtain ⟨a3, c3, hv3, hb3⟩ := h5
          rw [hv3] at e27
          have hal : Below p.heap.size p (p.alloc (.cells #[.slice a3 64 c3] 32)) := (Below.refl _ _).alloc (Nat.le_refl _) _
          refine Roll.goes_val (w' := p.alloc (.cells #[.slice a3 64 c3] 32)) (.slice (some ⟨p.heap.size, 0, none⟩) 1 1) rfl (by have ec : ∀ x, a1.eval (.const x) = x := fun _ => rfl; have ef : ∀ x, a1.eval (.func x) = .func (.func x) #[] #[] := fun _ => rfl; have hbs := run_bs56; generalize a1.eval = ρ at *; go_simp) ⟨Roll.outw_pre (by decide) rfl (hI.trans (hal.mono hI.size)) (Kept.of_below _ hal), p.heap.size, a3, c3, rfl, hI.size, heap_new rfl, hb3.small.kept (Kept.of_below (fun _ => False) hal) (fun _ _ _ h => h)⟩
        · intro vs p hI0 hp
          have hI := Roll.inw_pre (by decide) rfl hI0
          clear hI0
          have h6 : ∃ r a c, (vs 6) = .slice (some ⟨r, 0, none⟩) 1 1 ∧ q.heap.size ≤ r ∧ p.heap[r]? = some (.cells #[.slice a 64 c] 32 (0, 0)) ∧ Bs (fun x => q.heap.size ≤ x ∧ x < r) p a 64 c zeroB := hp 6 (by simp [Ltk6])
          have e28 : (Roll.putD Dtk6 vs [6] b0).eval (.tmp 28) = vs 6 := (Roll.eval_new 6 rfl (by decide) (by decide) (by omega))
          clear hp hlv hN
          unfold Roll.Goes
          simp only [Ltk6, List.getD_cons_zero, List.getD_cons_succ]
          generalize Roll.putD Dtk6 vs [6] b0 = a1 at *
          obtain ⟨r3, a3, c3, hv3, hrq, hhr, hb3⟩ := h6
          rw [hv3] at e28
          have hal : Below p.heap.size p (p.alloc (.cells #[.slice (some ⟨r3, 0, none⟩) 1 1] 56)) := (Below.refl _ _).alloc (Nat.le_refl _) _
          refine Roll.goes_val (w' := p.alloc (.cells #[.slice (some ⟨r3, 0, none⟩) 1 1] 56)) (.slice (some ⟨p.heap.size, 0, none⟩) 1 1) rfl (by have ec : ∀ x, a1.eval (.const x) = x := fun _ => rfl; have ef : ∀ x, a1.eval (.func x) = .func (.func x) #[] #[] := fun _ => rfl; have hbs := run_bs53; generalize a1.eval = ρ at *; go_simp) ⟨Roll.outw_pre (by decide) rfl (hI.trans (hal.mono hI.size)) (Kept.of_below _ hal), p.heap.size, r3, a3, c3, rfl, hI.size, heap_new rfl, hrq, heap_old hhr, hb3.kept (Kept.of_below (fun _ => False) hal) (fun _ _ _ h => h)⟩
        · intro vs p hI0 hp
          have hI := Roll.inw_k0 rfl hI0
          clear hI0
          have h4 : (vs 4) = vo := hp 4 (by simp [Ltk6])
          have h7 : ∃ s r a c, (vs 7) = .slice (some ⟨s, 0, none⟩) 1 1 ∧ q.heap.size ≤ s ∧ p.heap[s]? = some (.cells #[.slice (some ⟨r, 0, none⟩) 1 1] 56 (0, 0)) ∧ q.heap.size ≤ r ∧ p.heap[r]? = some (.cells #[.slice a 64 c] 32 (0, 0)) ∧ Bs (fun x => q.heap.size ≤ x ∧ x < r) p a 64 c zeroB := hp 7 (by simp [Ltk6])
          have e26 : (Roll.putD Dtk6 vs [4, 7] b0).eval (.tmp 26) = vo := (Roll.eval_new 4 rfl (by decide) (by decide) (by omega)).trans h4
          have e29 : (Roll.putD Dtk6 vs [4, 7] b0).eval (.tmp 29) = vs 7 := (Roll.eval_new 7 rfl (by decide) (by decide) (by omega))
          clear hp hlv hN
          unfold Roll.Goes
          simp only [Ltk6, List.getD_cons_zero, List.getD_cons_succ]
          generalize Roll.putD Dtk6 vs [4, 7] b0 = a1 at *
          obtain ⟨s3, r3, a3, c3, hv3, hsq, hhs, hrq, hhr, hb3⟩ := h7
          rw [hv3] at e29
          obtain ⟨i0, ji, jz0, jz1, jz2⟩ := info_parts info56
          have hrl := heap_lt hhr
          refine goes_append_rw rfl (.tmp 26) (.tmp 29) 53 53 rfl 56 i0 (.slice none 0 0) 24 Try.underlying53 ji jz0 jz1 jz2 rfl gso vo i xs e26 (HXS.out.kept (Kept.of_below (fun _ => False) hI) (fun _ _ h => h)) _ e29 1 [.slice (some ⟨r3, 0, none⟩) 1 1] (src_one Try.underlying53 hhs) (by have := HN16.out; unfold maxLen; omega) (by have := HN16.out; omega) ?_
          intro k' v' w' g1 g2 g3
          have hgr : ∀ x, q.heap.size ≤ x → x < p.heap.size → k' ≠ some x := fun x hx hx2 e => by
            rcases g2 x e with e | e
            · have := HGS.out x e; omega
            · omega
          exact ⟨Roll.outw_k0 rfl ⟨k', r3, a3, c3, g1, fun j hj => (g2 j hj).imp id (fun e => Nat.le_trans hI.size e), hrq, hgr r3 hrq hrl, g3.heap hhr (fun e => by have := HGS.out r3 e; omega), hb3.kept g3 (fun x _ hx e => by have := HGS.out x e; omega), fun x hx hx2 => hgr x hx (by omega), Nat.lt_of_lt_of_le hrl g3.size, ((Kept.of_below (fun j => gso = some j) hI).trans g3 (fun _ _ h => h))⟩ g3, trivial⟩
      · intro vs p hI hR
        have h0 : (vs 0) = .pointer (some ⟨gt, 0, none⟩) := hR 0 (by omega)
        have h1 : (vs 1) = .pointer (some ⟨gt, 0, none⟩) := hR 1 (by omega)
        have h2 : (vs 2) = .pointer (some ⟨gt, 0, none⟩) := hR 2 (by omega)
        have h3 : (vs 3) = .pointer (some ⟨gt, 0, none⟩) := hR 3 (by omega)
        have h4 : (vs 4) = vo := hR 4 (by omega)
        have h5 : ∃ a c, (vs 5) = .slice a 64 c ∧ Bs (fun x => q.heap.size ≤ x) p a 64 c zeroB := hR 5 (by omega)
        have h6 : ∃ r a c, (vs 6) = .slice (some ⟨r, 0, none⟩) 1 1 ∧ q.heap.size ≤ r ∧ p.heap[r]? = some (.cells #[.slice a 64 c] 32 (0, 0)) ∧ Bs (fun x => q.heap.size ≤ x ∧ x < r) p a 64 c zeroB := hR 6 (by omega)
        have h7 : ∃ s r a c, (vs 7) = .slice (some ⟨s, 0, none⟩) 1 1 ∧ q.heap.size ≤ s ∧ p.heap[s]? = some (.cells #[.slice (some ⟨r, 0, none⟩) 1 1] 56 (0, 0)) ∧ q.heap.size ≤ r ∧ p.heap[r]? = some (.cells #[.slice a 64 c] 32 (0, 0)) ∧ Bs (fun x => q.heap.size ≤ x ∧ x < r) p a 64 c zeroB := hR 7 (by omega)
        have h8 : True := hR 8 (by omega)
        clear hR
        simp only [List.range_succ, List.range_zero, List.nil_append, List.cons_append, Roll.putD, Act.put, List.getD_cons_zero, List.getD_cons_succ, List.setIfInBounds_toArray, List.set_cons_zero, List.set_cons_succ, List.drop_succ_cons, List.drop_zero, Dtk6]
        simp only [h0, h1, h2, h3, h4]
        clear h0 h1 h2 h3 h4
        clear h5 h6 h7 h8
        generalize vs 8 = v8 at *
        obtain ⟨k', r, a3, c3, g1, g2, g3, g4, g5, g6, g7, g8, gK⟩ := hI
        obtain ⟨gs8, o8, c8, _, hv8, _, _, _, _⟩ := g1.at (by omega)
        subst hv8
        have hself2 := gK.heap HSELF.out HAP.out
        have cV2 : p.cell? ⟨gt, 0, none⟩ = some vo := by rw [cell_of_row p gt 0 _ _ _ hself2]; rfl
        have fV2 : p.frozen? ⟨gt, 0, none⟩ = false := frozen_of_row p gt 0 _ _ hself2
        have HP : Hid (Trk (p.setCell ⟨gt, 0, none⟩ (.slice (some ⟨gs8, o8, none⟩) (i + 1) c8)) 55 [] gt k' (.slice (some ⟨gs8, o8, none⟩) (i + 1) c8) (fun j => if j = i then r else row j) (fun x => Bf x ∨ (q.heap.size ≤ x ∧ x < r)) (List.replicate (i + 1) [zeroB]) ∧ (∀ x, TBlk gt k' (fun j => if j = i then r else row j) (fun x => Bf x ∨ (q.heap.size ≤ x ∧ x < r)) (i + 1) x → w1.heap.size ≤ x) ∧ Below w1.heap.size w1 (p.setCell ⟨gt, 0, none⟩ (.slice (some ⟨gs8, o8, none⟩) (i + 1) c8))) := Lib.hid (by
          have hgk : k' ≠ some gt := fun e => by
            rcases g2 _ e with e | e
            · exact HAP.out e
            · have := HGT.out; omega
          have hks : Kept (fun j => j = gt) p (p.setCell ⟨gt, 0, none⟩ (.slice (some ⟨gs8, o8, none⟩) (i + 1) c8)) := (Kept.refl (fun j => j = gt) p).setCell (fun _ => rfl) _
          have hrg : r ≠ gt := by have := HGT.out; omega
          have hT := HT.out
          have hl := List.length_replicate (n := i) (a := [zeroB])
          have hp := hT.push (xs := xs) (by rw [hl]; exact HXS.out) HIN.out (w' := p.setCell ⟨gt, 0, none⟩ (.slice (some ⟨gs8, o8, none⟩) (i + 1) c8)) (gso' := k') (vo' := (.slice (some ⟨gs8, o8, none⟩) (i + 1) c8)) (v' := .slice (some ⟨r, 0, none⟩) 1 1) (r := r) (s := [zeroB]) (Bf' := fun x => Bf x ∨ (q.heap.size ≤ x ∧ x < r))
            (one_set hself2) ((gK.mono (fun _ _ h => .inr h)).setCell (fun _ => .inl rfl) (.slice (some ⟨gs8, o8, none⟩) (i + 1) c8)) (by rw [hl]; exact g1.kept hks (fun j hj e => hgk (by rw [← e]; exact hj)))
            (inR_one (hks.heap g5 hrg) ((g6.kept hks (fun x _ hx e => by have := HGT.out; omega)).dom (fun x hx => .inr hx))) g2 g3 g4 (fun x hx => .inl hx) (fun x hx => hx.imp id (fun hx => ⟨hx.1, by omega, g7 x hx.1 hx.2⟩)) (fun x hx => by
              have hsz : p.heap.size ≤ (p.setCell ⟨gt, 0, none⟩ (.slice (some ⟨gs8, o8, none⟩) (i + 1) c8)).heap.size := hks.size
              rcases hx with hx | hx
              · have := hT.lt x hx; have := gK.size; omega
              · omega)
          rw [hl, ← List.replicate_succ'] at hp
          refine ⟨hp, ?_, ?_⟩
          · have hq := HBQ.out.size
            rintro x (rfl | hx | ⟨j, hj, rfl⟩ | hx | hx)
            · exact HBLK.out _ (.inl rfl)
            · rcases g2 x hx with hx | hx
              · exact HBLK.out x (.inr (.inl hx))
              · omega
            · by_cases e : j = i
              · simp only [if_pos e]; omega
              · simp only [if_neg e]; exact HBLK.out _ (.inr (.inr (.inl ⟨j, by omega, rfl⟩)))
            · exact HBLK.out x (.inr (.inr (.inr hx)))
            · omega
          · refine HBQ.out.trans (((gK.mono (T := fun j => j = gt ∨ gso = some j) (fun _ _ h => .inr h)).setCell (fun _ => .inl rfl) (.slice (some ⟨gs8, o8, none⟩) (i + 1) c8)).below HBQ.out.size (fun j hj e => ?_))
            rcases e with e | e
            · subst e; have := HBLK.out j (.inl rfl); omega
            · have := HBLK.out j (.inr (.inl e)); omega)
        clear g1 g2 g3 g4 g5 g6 g7 g8 gK hself2
        go_wp2_with fail
        go_roundw
        case rel => exact ⟨i + 1, k', (.slice (some ⟨gs8, o8, none⟩) (i + 1) c8), _, _, by omega, by go_num, HP.out.1, HP.out.2.1, HP.out.2.2⟩
        case measure => simp [intOf]; omega
    · obtain rfl : i = N := by omega
      have HLZ : Hid (∀ wz, Below w1.heap.size w1 wz → Trk wz 55 [] gt gso vo row Bf (List.replicate i [zeroB]) → Lv w0 wz (trackO 55 [] gt (DM.new i).S :: diskO g (DM.new i) :: L)) := Lib.hid (fun wz hb hT => HL1.out.cons hb (o := trackO 55 [] gt (DM.new i).S) (B := TBlk gt gso row Bf i) ⟨gso, vo, row, Bf, hT, fun x hx => by rwa [show (DM.new i).S.length = i by simp [DM.new]] at hx⟩ (fun j hj => ⟨HBLK.out j hj, hT.blk_lt j (by rw [List.length_replicate]; exact hj)⟩))
      go_wp2_with (first
        | (go_at_call 14; refine (around_any n 16 _ h1 h2 (by omega) (by omega)).mono ?_; rintro e w3 ⟨rfl, rfl⟩; rw [← HA.out]))
      -- CUT 3
      go_ret2
      exact ⟨g, gt, rfl, HLZ.out _ HBQ.out HT.out⟩
end Go.Proofs.Ytbnodhcgdgcebaa

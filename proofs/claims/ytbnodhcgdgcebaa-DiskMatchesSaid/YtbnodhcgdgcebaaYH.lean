/-
  The reference's Clone.
-/
import Derived.Test.YtbnodhcgdgcebaaYG
namespace Go.Proofs.Ytbnodhcgdgcebaa
open Go.RowKit
set_option linter.unusedSimpArgs false
set_option linter.unusedVariables false
def Drc6 : List (Option Tmp) := [some 25, some 26, some 27, some 28, some 29, some 30, some 31, some 32, some 33, some 34, some 35, some 36, some 37, some 38, some 39, some 40, some 41, some 42, none]
def Lrc6 : List (List Nat) := [[], [], [1], [2], [3], [], [], [6], [7], [8], [], [9, 10], [11], [5, 12], [13], [4, 14], [0], [16], [17, 15]]
theorem rw_src {w : World} {e tx e' : TypeId} {k : Option Nat} {a : Option Addr} {n c : Nat} {xs : List Value} (hk : Try.prog.underlying tx = some (.slice e')) (h1 : ∀ u ∈ xs, u.oneCell' = true) (h : Rw w e k (.slice a n c) n xs) : Src Try.prog 1 tx (.slice a n c) n xs w := by
  by_cases hn : 0 < n
  · obtain ⟨g, off, cap, _, e1, _, _, _, e5⟩ := h.at hn
    cases e1
    exact Src.ofSlice w hk ⟨g, off, none⟩ n c xs (by rw [h.1, Nat.mul_one]) (fun j u hu => by
      rw [Addr.add_mid]
      have hj : j < xs.length := (List.getElem?_eq_some_iff.1 hu).1
      rw [e5 j hj]
      rw [List.getElem?_eq_getElem hj] at hu
      exact hu) h1
  · obtain rfl : n = 0 := by omega
    have hx : xs = [] := List.eq_nil_of_length_eq_zero h.1
    subst hx
    exact ⟨.inl ⟨e', hk⟩, fun _ => rfl, by cases a <;> rfl, by cases a <;> rfl, by simp, fun _ h => by cases h⟩
theorem src_one' {w : World} {g : Nat} {t tx e' : TypeId} {a : Option Addr} {n c : Nat} (hk : Try.prog.underlying tx = some (.slice e')) (hg : w.heap[g]? = some (.cells #[.slice a n c] t (0, 0))) : Src Try.prog 1 tx (.slice (some ⟨g, 0, none⟩) 1 1) 1 [.slice a n c] w := src_one hk hg
set_option maxRecDepth 100000 in
set_option maxHeartbeats 4000000 in
theorem rclone_lv {w0 w : World} {L : List Obj} {i0 g : Nat} {d : DM} (h : Lv w0 w L) (hi : L[i0]? = some (refO g d)) (hok : d.Ok 100000) :
    Calls Try.prog 51 #[.pointer (some ⟨g, 0, none⟩)] w fun e w' => ∃ gc, e = .returned (.pointer (some ⟨gc, 0, none⟩)) ∧ Lv w0 w' (L.set i0 (refO gc d)) := by
  obtain ⟨B, ⟨gso0, vo0, row0, Bf, hT, hTB⟩, hblt, _, hset⟩ := h.get hi
  have HT0 := Lib.hid hT
  have HTB := Lib.hid hTB
  have HSET := Lib.hid hset
  have HBLT := Lib.hid hblt
  have HBFW : Hid (∀ x, Bf x → x < w.heap.size) := Lib.hid hT.lt
  obtain ⟨SN, hSN⟩ : ∃ SN, d.S.length = SN := ⟨_, rfl⟩
  have HSN := Lib.hid hSN
  have hsn1 : 0 < SN := by rw [← hSN]; exact hok.1
  have HN16 : Hid (SN ≤ 4096) := Lib.hid (by rw [← hSN]; exact hok.2.1)
  have hsn2 : SN ≤ 4096 := HN16.out
  have HNE0 : Hid (∀ s ∈ d.S, s ≠ [] ∧ s.length ≤ 100001) := Lib.hid (fun s hs => ⟨(hok.2.2.2 s hs).1, (hok.2.2.2 s hs).2.1⟩)
  obtain ⟨gs, so, co, rfl, rfl, e1, e2⟩ := hT.vo_at (by omega)
  rw [hSN] at e1
  obtain ⟨g1, c0, c1, c2, f0⟩ := hT.cells3
  rw [hSN] at c0
  obtain ⟨OF, hOF⟩ : ∃ OF, OF = !d.on := ⟨_, rfl⟩
  obtain ⟨FV, hFV⟩ : ∃ FV, FV = rf d := ⟨_, rfl⟩
  rw [← hOF] at c1
  rw [← hFV] at c2
  have HEX : Hid ([.bool OF, .int .i64 FV] = refX d) := Lib.hid (by rw [hOF, hFV]; rfl)
  have HCO : Hid (SN ≤ co ∧ co ≤ 9223372036854775807) := Lib.hid ⟨e1, e2⟩
  have UV0 := Lib.hid c0
  have HG1 := Lib.hid g1
  clear h hi hT hTB hset hblt hSN hok f0 hOF hFV e1 c0
  go_enter Try.func51, Try.ntmps51
  go_upto_region 1 with fail
  go_still_tail 9, (by kernel_rfl)
  change wpList _ _ _ _ _ w.drew
  go_upto_region 3 with fail
  -- CUT 1
  obtain ⟨w2, hw2⟩ : ∃ w2, w2 = (w.alloc (.cells #[.slice none 0 0, .bool OF, .int .i64 FV] 87)).drew := ⟨_, rfl⟩
  obtain ⟨gc, hgc⟩ : ∃ gc, gc = w.heap.size := ⟨_, rfl⟩
  have hT0 : Trk w2 87 [.bool OF, .int .i64 FV] gc none (.slice none 0 0) (fun _ => 0) Bf (d.S.take 0) := ⟨by rw [hw2]; exact (show (w.alloc (.cells #[.slice none 0 0, .bool OF, .int .i64 FV] 87)).heap[gc]? = _ from heap_new hgc), ⟨[], Rw.nil _ _, fun k hk => by simp at hk⟩, fun i j hi => by simp at hi, by simp, fun i hi => by simp at hi, ⟨fun h => (by have := HBFW.out _ h; omega), fun _ h => (by cases h), fun i hi => (by simp at hi)⟩, fun x hx => by
    have := HBFW.out x hx
    rw [hw2]
    show x < (w.alloc (.cells #[.slice none 0 0, .bool OF, .int .i64 FV] 87)).heap.size
    rw [size_alloc1]
    omega⟩
  have HTZ := Lib.hid hT0
  have HB0 : Hid (Below w.heap.size w w2) := Lib.hid (by rw [hw2]; exact ((Below.refl _ _).alloc (Nat.le_refl _) _).drew)
  have HGW := Lib.hid hgc
  have HGC : Hid (w.heap.size ≤ gc) := Lib.hid (by omega)
  rw [← hw2, ← hgc]
  clear hw2 hT0 hgc
  go_loopw [4] (fun t wr => ∃ (i : Nat) (gso : Option Nat) (vo : Value) (row : Nat → Nat), i ≤ SN ∧ t = .int .i64 (i : Int) ∧ Trk wr 87 [.bool OF, .int .i64 FV] gc gso vo row Bf (d.S.take i) ∧ (∀ x, gso = some x → w.heap.size ≤ x) ∧ (∀ j, j < i → w.heap.size ≤ row j) ∧ Below w.heap.size w wr) (fun t _ => SN - (intOf t).toNat)
  case atStart => exact ⟨0, _, _, _, Nat.zero_le _, rfl, HTZ.out, (fun _ h => by cases h), (fun j hj => by omega), HB0.out⟩
  case round =>
    obtain ⟨i, gso, vo, row, hi, rfl, hT, hgsw, hrow, hbw⟩ := hrel
    have HTC0 := Lib.hid hT
    have HGSW := Lib.hid hgsw
    have HROW := Lib.hid hrow
    have HBWQ0 := Lib.hid hbw
    have cV0 := (hbw.cell (p := ⟨g, 0, none⟩) HG1.out).trans UV0.out
    clear hT hgsw hrow hbw HTZ HB0
    by_cases hlt : i < SN
    · have hlt2 : (i : Int) < (SN : Int) := by omega
      have HKN := Lib.hid hlt
      have hw3 : IntKind.i64.wrap ((i : Int) + 1) = (i : Int) + 1 := i64_id _ (by omega) (by omega)
      go_upto_region 6 with fail
      -- CUT 2
      rename World => q
      have HTC : Hid (Trk q 87 [.bool OF, .int .i64 FV] gc gso vo row Bf (d.S.take i)) := HTC0
      have HBWQ : Hid (Below w.heap.size w q) := HBWQ0
      have HKS : Hid (i < d.S.length) := Lib.hid (by rw [HSN.out]; exact hlt)
      have hsp0 := HNE0.out _ (List.getElem_mem HKS.out)
      obtain ⟨gs', so', co', ro, rc, e1, e2, f1, f2, f3, f4, f5, f6, f7, f8, f9⟩ := HT0.out.look HKS.out (List.length_pos_iff.2 hsp0.1)
      cases e1
      cases e2
      clear f9
      obtain ⟨rk, hrk⟩ : ∃ rk, row0 i = rk := ⟨_, rfl⟩
      obtain ⟨sl, hsl⟩ : ∃ sl, (d.S[i]'HKS.out).length = sl := ⟨_, rfl⟩
      obtain ⟨ys, hys, hyj⟩ := f8
      rw [hrk, hsl] at f7
      rw [hrk] at f5 hys
      rw [hsl] at hys f2
      have HSL8 := Lib.hid hsl
      have HSP : Hid (0 < sl) := Lib.hid (by rw [← hsl]; exact List.length_pos_iff.2 hsp0.1)
      have HSLB : Hid (sl ≤ 100001) := Lib.hid (by rw [← hsl]; exact hsp0.2)
      have HY1 : Hid (∀ u ∈ ys, u.oneCell' = true) := Lib.hid (fun u hu => by
        obtain ⟨j, hj, rfl⟩ := List.mem_iff_getElem.1 hu
        obtain ⟨a, c, e1, _⟩ := hyj j (by rw [hsl, ← hys.1]; exact hj)
        rw [List.getElem?_eq_getElem hj] at e1
        rw [Option.some.inj e1]; rfl)
      have hbf : ∀ (k : Nat) (v : Value), (∃ j, k = j) → True := fun _ _ _ => trivial
      have HYJ := Lib.hid hyj
      have HYS0 := hys
      obtain ⟨_, hva, hvb, hvc⟩ : ∃ x : Unit, True ∧ True ∧ True := ⟨(), trivial, trivial, trivial⟩
      have UGT : Hid (g < q.heap.size ∧ ¬ gso = some g) := Lib.hid ⟨Nat.lt_of_lt_of_le f3 HBWQ.out.size, fun e => by have := HGSW.out g e; omega⟩
      have UGS : Hid (gs < q.heap.size ∧ ¬ gso = some gs) := Lib.hid ⟨Nat.lt_of_lt_of_le f4 HBWQ.out.size, fun e => by have := HGSW.out gs e; omega⟩
      have UV : Hid (q.cell? ⟨g, 0, none⟩ = some (.slice (some ⟨gs, so, none⟩) SN co)) := Lib.hid ((HBWQ.out.cell (p := ⟨g, 0, none⟩) f3).trans UV0.out)
      have UK : Hid (q.cell? ⟨gs, so + i, none⟩ = some (.slice (some ⟨rk, ro, none⟩) sl rc)) := Lib.hid ((HBWQ.out.cell (p := ⟨gs, so + i, none⟩) f4).trans f7)
      have HYS := Lib.hid hys
      obtain ⟨xs, hxs, hin⟩ := HTC.out.outer
      have hself := HTC.out.self
      have HIN := Lib.hid hin
      have HXS : Hid (Rw q 56 gso vo i xs) := Lib.hid (by
        have hl : (d.S.take i).length = i := by rw [List.length_take, HSN.out]; omega
        rw [hl] at hxs; exact hxs)
      have HSELF := Lib.hid hself
      have HAP := Lib.hid HTC.out.ap1
      have HGQ : Hid (gc < q.heap.size) := Lib.hid (heap_lt hself)
      have HGS : Hid (∀ j, gso = some j → j < q.heap.size) := Lib.hid hxs.lt
      have CV : Hid (q.cell? ⟨gc, 0, none⟩ = some vo) := Lib.hid (by rw [cell_of_row q gc 0 _ _ _ hself]; rfl)
      clear hxs hin hself hys hyj HYS0 hva hvb hvc hbf hrk hsl f1 f2 f3 f4 f5 f6 f7 hsp0 cV0
      refine Roll.region_v 16 44 Drc6 Lrc6 [(0, .pointer (some ⟨g, 0, none⟩)), (3, .pointer (some ⟨gc, 0, none⟩)), (4, .int .i64 (i : Int)), (5, .slice none 0 0)] 15 [true, true, true, true, true, true, true, true, true, true, true, true, true, false, false, false] (fun p => Below q.heap.size q p) (fun vv p => ∃ k' r o c, Rw p 56 k' vv (i + 1) (xs ++ [.slice (some ⟨r, o, none⟩) sl c]) ∧ (∀ j, k' = some j → gso = some j ∨ q.heap.size ≤ j) ∧ q.heap.size ≤ r ∧ k' ≠ some r ∧ Rw p 32 (some r) (.slice (some ⟨r, o, none⟩) sl c) sl ys ∧ Kept (fun j => gso = some j) q p) (fun p => Kept (fun j => gso = some j) q p) (fun p p2 => Kept (fun j => gso = some j) p p2) [fun vv p => (vv 0) = .pointer (some ⟨gc, 0, none⟩), fun vv p => (vv 1) = .pointer (some ⟨gc, 0, none⟩), fun vv p => (vv 2) = .pointer (some ⟨gc, 0, none⟩), fun vv p => (vv 3) = .pointer (some ⟨gc, 0, none⟩), fun vv p => (vv 4) = vo, fun vv p => (vv 5) = .slice none 0 0, fun vv p => (vv 6) = .pointer (some ⟨g, 0, none⟩), fun vv p => (vv 7) = .pointer (some ⟨g, 0, none⟩), fun vv p => (vv 8) = .pointer (some ⟨g, 0, none⟩), fun vv p => (vv 9) = .slice (some ⟨gs, so, none⟩) SN co, fun vv p => (vv 10) = .int .i64 (i : Int), fun vv p => (vv 11) = .pointer (some ⟨gs, so + i, none⟩), fun vv p => (vv 12) = .slice (some ⟨rk, ro, none⟩) sl rc, fun vv p => ∃ r o c, (vv 13) = .slice (some ⟨r, o, none⟩) sl c ∧ q.heap.size ≤ r ∧ r < p.heap.size ∧ Rw p 32 (some r) (.slice (some ⟨r, o, none⟩) sl c) sl ys, fun vv p => ∃ s r o c, (vv 14) = .slice (some ⟨s, 0, none⟩) 1 1 ∧ q.heap.size ≤ s ∧ p.heap[s]? = some (.cells #[.slice (some ⟨r, o, none⟩) sl c] 56 (0, 0)) ∧ q.heap.size ≤ r ∧ r < p.heap.size ∧ Rw p 32 (some r) (.slice (some ⟨r, o, none⟩) sl c) sl ys, fun vv p => True] (by kernel_rfl) (by kernel_rfl) rfl ⟨rfl, rfl, rfl, rfl, trivial⟩ ((Below.refl _ _).drew) (by decide) (by kernel_rfl) (fun _ h => Kept.of_below _ h) (fun _ _ h => by obtain ⟨_, _, _, _, _, _, _, _, _, h⟩ := h; exact h) (fun _ => Kept.refl _ _) ?_ ?_ ?_
      · exact ⟨fun _ _ _ _ h => h, fun _ _ _ _ h => h, fun _ _ _ _ h => h, fun _ _ _ _ h => h, fun _ _ _ _ h => h, fun _ _ _ _ h => h, fun _ _ _ _ h => h, fun _ _ _ _ h => h, fun _ _ _ _ h => h, fun _ _ _ _ h => h, fun _ _ _ _ h => h, fun _ _ _ _ h => h, fun _ _ _ _ h => h, fun _ _ _ hs h => by obtain ⟨r, o, c, e1, e2, e3, e4⟩ := h; exact ⟨r, o, c, e1, e2, Nat.lt_of_lt_of_le e3 hs.size, e4.kept hs (fun j hj e => by have := Option.some.inj hj; have := HGS.out j e; omega)⟩, fun _ _ _ hs h => by obtain ⟨s, r, o, c, e1, e0, e2, e3, e4, e5⟩ := h; exact ⟨s, r, o, c, e1, e0, hs.heap e2 (fun e => by have := HGS.out _ e; omega), e3, Nat.lt_of_lt_of_le e4 hs.size, e5.kept hs (fun j hj e => by have := Option.some.inj hj; have := HGS.out j e; omega)⟩, fun _ _ _ _ h => h, trivial⟩
      · intro b0 hN hlv
        refine ⟨?_, ?_, ?_, ?_, ?_, ?_, ?_, ?_, ?_, ?_, ?_, ?_, ?_, ?_, ?_, ?_, trivial⟩
        · intro vs p hI0 hp
          have hI := Roll.inw_pure (by decide) rfl hI0
          clear hI0
          have e3 : (Roll.putD Drc6 vs [] b0).eval (.tmp 3) = .pointer (some ⟨gc, 0, none⟩) := (Roll.eval_old rfl).trans (hlv.at 1 (3, .pointer (some ⟨gc, 0, none⟩)) rfl)
          clear hp hlv hN
          unfold Roll.Goes
          simp only [Lrc6, List.getD_cons_zero, List.getD_cons_succ]
          generalize Roll.putD Drc6 vs [] b0 = a1 at *
          refine Roll.goes_val (w' := p) (.pointer (some ⟨gc, 0, none⟩)) rfl ?_ ⟨(Roll.outw_pure (by decide) rfl), rfl⟩
          (have ec : ∀ x, a1.eval (.const x) = x := fun _ => rfl); (have ef : ∀ x, a1.eval (.func x) = .func (.func x) #[] #[] := fun _ => rfl); generalize a1.eval = ρ at *
          skip
          go_simp <;> (intros; first | (exfalso; omega) | rfl)
        · intro vs p hI0 hp
          have hI := Roll.inw_pure (by decide) rfl hI0
          clear hI0
          have e3 : (Roll.putD Drc6 vs [] b0).eval (.tmp 3) = .pointer (some ⟨gc, 0, none⟩) := (Roll.eval_old rfl).trans (hlv.at 1 (3, .pointer (some ⟨gc, 0, none⟩)) rfl)
          clear hp hlv hN
          unfold Roll.Goes
          simp only [Lrc6, List.getD_cons_zero, List.getD_cons_succ]
          generalize Roll.putD Drc6 vs [] b0 = a1 at *
          refine Roll.goes_val (w' := p) (.pointer (some ⟨gc, 0, none⟩)) rfl ?_ ⟨(Roll.outw_pure (by decide) rfl), rfl⟩
          (have ec : ∀ x, a1.eval (.const x) = x := fun _ => rfl); (have ef : ∀ x, a1.eval (.func x) = .func (.func x) #[] #[] := fun _ => rfl); generalize a1.eval = ρ at *
          skip
          go_simp <;> (intros; first | (exfalso; omega) | rfl)
        · intro vs p hI0 hp
          have hI := Roll.inw_pure (by decide) rfl hI0
          clear hI0
          have h1 : (vs 1) = .pointer (some ⟨gc, 0, none⟩) := hp 1 (by simp [Lrc6])
          have e26 : (Roll.putD Drc6 vs [1] b0).eval (.tmp 26) = .pointer (some ⟨gc, 0, none⟩) := (Roll.eval_new 1 rfl (by decide) (by decide) (by omega)).trans h1
          clear hp hlv hN
          unfold Roll.Goes
          simp only [Lrc6, List.getD_cons_zero, List.getD_cons_succ]
          generalize Roll.putD Drc6 vs [1] b0 = a1 at *
          refine Roll.goes_val (w' := p) (.pointer (some ⟨gc, 0, none⟩)) rfl ?_ ⟨(Roll.outw_pure (by decide) rfl), rfl⟩
          (have ec : ∀ x, a1.eval (.const x) = x := fun _ => rfl); (have ef : ∀ x, a1.eval (.func x) = .func (.func x) #[] #[] := fun _ => rfl); generalize a1.eval = ρ at *
          clear h1
          go_simp <;> (intros; first | (exfalso; omega) | rfl)
        · intro vs p hI0 hp
          have hI := Roll.inw_pure (by decide) rfl hI0
          clear hI0
          have h2 : (vs 2) = .pointer (some ⟨gc, 0, none⟩) := hp 2 (by simp [Lrc6])
          have e27 : (Roll.putD Drc6 vs [2] b0).eval (.tmp 27) = .pointer (some ⟨gc, 0, none⟩) := (Roll.eval_new 2 rfl (by decide) (by decide) (by omega)).trans h2
          clear hp hlv hN
          unfold Roll.Goes
          simp only [Lrc6, List.getD_cons_zero, List.getD_cons_succ]
          generalize Roll.putD Drc6 vs [2] b0 = a1 at *
          refine Roll.goes_val (w' := p) (.pointer (some ⟨gc, 0, none⟩)) rfl ?_ ⟨(Roll.outw_pure (by decide) rfl), rfl⟩
          (have ec : ∀ x, a1.eval (.const x) = x := fun _ => rfl); (have ef : ∀ x, a1.eval (.func x) = .func (.func x) #[] #[] := fun _ => rfl); generalize a1.eval = ρ at *
          clear h2
          go_simp <;> (intros; first | (exfalso; omega) | rfl)
        · intro vs p hI0 hp
          have hI := Roll.inw_pure (by decide) rfl hI0
          clear hI0
          have h3 : (vs 3) = .pointer (some ⟨gc, 0, none⟩) := hp 3 (by simp [Lrc6])
          have e28 : (Roll.putD Drc6 vs [3] b0).eval (.tmp 28) = .pointer (some ⟨gc, 0, none⟩) := (Roll.eval_new 3 rfl (by decide) (by decide) (by omega)).trans h3
          clear hp hlv hN
          unfold Roll.Goes
          simp only [Lrc6, List.getD_cons_zero, List.getD_cons_succ]
          generalize Roll.putD Drc6 vs [3] b0 = a1 at *
          have cf : p.cell? ⟨gc, 0, none⟩ = some (vo) := (hI.cell (p := ⟨gc, 0, none⟩) HGQ.out HAP.out).trans CV.out
          refine Roll.goes_val (w' := p) (vo) rfl ?_ ⟨(Roll.outw_pure (by decide) rfl), rfl⟩
          (have ec : ∀ x, a1.eval (.const x) = x := fun _ => rfl); (have ef : ∀ x, a1.eval (.func x) = .func (.func x) #[] #[] := fun _ => rfl); generalize a1.eval = ρ at *
          clear h3
          go_simp <;> (intros; first | (exfalso; omega) | rfl)
        · intro vs p hI0 hp
          have hI := Roll.inw_pure (by decide) rfl hI0
          clear hI0
          have e5 : (Roll.putD Drc6 vs [] b0).eval (.tmp 5) = .slice none 0 0 := (Roll.eval_old rfl).trans (hlv.at 3 (5, .slice none 0 0) rfl)
          clear hp hlv hN
          unfold Roll.Goes
          simp only [Lrc6, List.getD_cons_zero, List.getD_cons_succ]
          generalize Roll.putD Drc6 vs [] b0 = a1 at *
          refine Roll.goes_val (w' := p) (.slice none 0 0) rfl ?_ ⟨(Roll.outw_pure (by decide) rfl), rfl⟩
          (have ec : ∀ x, a1.eval (.const x) = x := fun _ => rfl); (have ef : ∀ x, a1.eval (.func x) = .func (.func x) #[] #[] := fun _ => rfl); generalize a1.eval = ρ at *
          skip
          go_simp <;> (intros; first | (exfalso; omega) | rfl)
        · intro vs p hI0 hp
          have hI := Roll.inw_pure (by decide) rfl hI0
          clear hI0
          have e0 : (Roll.putD Drc6 vs [] b0).eval (.tmp 0) = .pointer (some ⟨g, 0, none⟩) := (Roll.eval_old rfl).trans (hlv.at 0 (0, .pointer (some ⟨g, 0, none⟩)) rfl)
          clear hp hlv hN
          unfold Roll.Goes
          simp only [Lrc6, List.getD_cons_zero, List.getD_cons_succ]
          generalize Roll.putD Drc6 vs [] b0 = a1 at *
          refine Roll.goes_val (w' := p) (.pointer (some ⟨g, 0, none⟩)) rfl ?_ ⟨(Roll.outw_pure (by decide) rfl), rfl⟩
          (have ec : ∀ x, a1.eval (.const x) = x := fun _ => rfl); (have ef : ∀ x, a1.eval (.func x) = .func (.func x) #[] #[] := fun _ => rfl); generalize a1.eval = ρ at *
          skip
          go_simp <;> (intros; first | (exfalso; omega) | rfl)
        · intro vs p hI0 hp
          have hI := Roll.inw_pure (by decide) rfl hI0
          clear hI0
          have h6 : (vs 6) = .pointer (some ⟨g, 0, none⟩) := hp 6 (by simp [Lrc6])
          have e31 : (Roll.putD Drc6 vs [6] b0).eval (.tmp 31) = .pointer (some ⟨g, 0, none⟩) := (Roll.eval_new 6 rfl (by decide) (by decide) (by omega)).trans h6
          clear hp hlv hN
          unfold Roll.Goes
          simp only [Lrc6, List.getD_cons_zero, List.getD_cons_succ]
          generalize Roll.putD Drc6 vs [6] b0 = a1 at *
          refine Roll.goes_val (w' := p) (.pointer (some ⟨g, 0, none⟩)) rfl ?_ ⟨(Roll.outw_pure (by decide) rfl), rfl⟩
          (have ec : ∀ x, a1.eval (.const x) = x := fun _ => rfl); (have ef : ∀ x, a1.eval (.func x) = .func (.func x) #[] #[] := fun _ => rfl); generalize a1.eval = ρ at *
          clear h6
          go_simp <;> (intros; first | (exfalso; omega) | rfl)
        · intro vs p hI0 hp
          have hI := Roll.inw_pure (by decide) rfl hI0
          clear hI0
          have h7 : (vs 7) = .pointer (some ⟨g, 0, none⟩) := hp 7 (by simp [Lrc6])
          have e32 : (Roll.putD Drc6 vs [7] b0).eval (.tmp 32) = .pointer (some ⟨g, 0, none⟩) := (Roll.eval_new 7 rfl (by decide) (by decide) (by omega)).trans h7
          clear hp hlv hN
          unfold Roll.Goes
          simp only [Lrc6, List.getD_cons_zero, List.getD_cons_succ]
          generalize Roll.putD Drc6 vs [7] b0 = a1 at *
          refine Roll.goes_val (w' := p) (.pointer (some ⟨g, 0, none⟩)) rfl ?_ ⟨(Roll.outw_pure (by decide) rfl), rfl⟩
          (have ec : ∀ x, a1.eval (.const x) = x := fun _ => rfl); (have ef : ∀ x, a1.eval (.func x) = .func (.func x) #[] #[] := fun _ => rfl); generalize a1.eval = ρ at *
          clear h7
          go_simp <;> (intros; first | (exfalso; omega) | rfl)
        · intro vs p hI0 hp
          have hI := Roll.inw_pure (by decide) rfl hI0
          clear hI0
          have h8 : (vs 8) = .pointer (some ⟨g, 0, none⟩) := hp 8 (by simp [Lrc6])
          have e33 : (Roll.putD Drc6 vs [8] b0).eval (.tmp 33) = .pointer (some ⟨g, 0, none⟩) := (Roll.eval_new 8 rfl (by decide) (by decide) (by omega)).trans h8
          clear hp hlv hN
          unfold Roll.Goes
          simp only [Lrc6, List.getD_cons_zero, List.getD_cons_succ]
          generalize Roll.putD Drc6 vs [8] b0 = a1 at *
          have cf : p.cell? ⟨g, 0, none⟩ = some (.slice (some ⟨gs, so, none⟩) SN co) := (hI.cell (p := ⟨g, 0, none⟩) UGT.out.1 UGT.out.2).trans UV.out
          refine Roll.goes_val (w' := p) (.slice (some ⟨gs, so, none⟩) SN co) rfl ?_ ⟨(Roll.outw_pure (by decide) rfl), rfl⟩
          (have ec : ∀ x, a1.eval (.const x) = x := fun _ => rfl); (have ef : ∀ x, a1.eval (.func x) = .func (.func x) #[] #[] := fun _ => rfl); generalize a1.eval = ρ at *
          clear h8
          go_simp <;> (intros; first | (exfalso; omega) | rfl)
        · intro vs p hI0 hp
          have hI := Roll.inw_pure (by decide) rfl hI0
          clear hI0
          have e4 : (Roll.putD Drc6 vs [] b0).eval (.tmp 4) = .int .i64 (i : Int) := (Roll.eval_old rfl).trans (hlv.at 2 (4, .int .i64 (i : Int)) rfl)
          clear hp hlv hN
          unfold Roll.Goes
          simp only [Lrc6, List.getD_cons_zero, List.getD_cons_succ]
          generalize Roll.putD Drc6 vs [] b0 = a1 at *
          refine Roll.goes_val (w' := p) (.int .i64 (i : Int)) rfl ?_ ⟨(Roll.outw_pure (by decide) rfl), rfl⟩
          (have ec : ∀ x, a1.eval (.const x) = x := fun _ => rfl); (have ef : ∀ x, a1.eval (.func x) = .func (.func x) #[] #[] := fun _ => rfl); generalize a1.eval = ρ at *
          skip
          go_simp <;> (intros; first | (exfalso; omega) | rfl)
        · intro vs p hI0 hp
          have hI := Roll.inw_pure (by decide) rfl hI0
          clear hI0
          have h9 : (vs 9) = .slice (some ⟨gs, so, none⟩) SN co := hp 9 (by simp [Lrc6])
          have h10 : (vs 10) = .int .i64 (i : Int) := hp 10 (by simp [Lrc6])
          have e34 : (Roll.putD Drc6 vs [9, 10] b0).eval (.tmp 34) = .slice (some ⟨gs, so, none⟩) SN co := (Roll.eval_new 9 rfl (by decide) (by decide) (by omega)).trans h9
          have e35 : (Roll.putD Drc6 vs [9, 10] b0).eval (.tmp 35) = .int .i64 (i : Int) := (Roll.eval_new 10 rfl (by decide) (by decide) (by omega)).trans h10
          clear hp hlv hN
          unfold Roll.Goes
          simp only [Lrc6, List.getD_cons_zero, List.getD_cons_succ]
          generalize Roll.putD Drc6 vs [9, 10] b0 = a1 at *
          have hkn := HKN.out
          have hkn2 : (i : Int) < (SN : Int) := by omega
          have hco := HCO.out
          refine Roll.goes_val (w' := p) (.pointer (some ⟨gs, so + i, none⟩)) rfl ?_ ⟨(Roll.outw_pure (by decide) rfl), rfl⟩
          (have ec : ∀ x, a1.eval (.const x) = x := fun _ => rfl); (have ef : ∀ x, a1.eval (.func x) = .func (.func x) #[] #[] := fun _ => rfl); generalize a1.eval = ρ at *
          clear h9 h10
          go_simp <;> (intros; first | (exfalso; omega) | rfl)
        · intro vs p hI0 hp
          have hI := Roll.inw_pure (by decide) rfl hI0
          clear hI0
          have h11 : (vs 11) = .pointer (some ⟨gs, so + i, none⟩) := hp 11 (by simp [Lrc6])
          have e36 : (Roll.putD Drc6 vs [11] b0).eval (.tmp 36) = .pointer (some ⟨gs, so + i, none⟩) := (Roll.eval_new 11 rfl (by decide) (by decide) (by omega)).trans h11
          clear hp hlv hN
          unfold Roll.Goes
          simp only [Lrc6, List.getD_cons_zero, List.getD_cons_succ]
          generalize Roll.putD Drc6 vs [11] b0 = a1 at *
          have cf : p.cell? ⟨gs, so + i, none⟩ = some (.slice (some ⟨rk, ro, none⟩) sl rc) := (hI.cell (p := ⟨gs, so + i, none⟩) UGS.out.1 UGS.out.2).trans UK.out
          refine Roll.goes_val (w' := p) (.slice (some ⟨rk, ro, none⟩) sl rc) rfl ?_ ⟨(Roll.outw_pure (by decide) rfl), rfl⟩
          (have ec : ∀ x, a1.eval (.const x) = x := fun _ => rfl); (have ef : ∀ x, a1.eval (.func x) = .func (.func x) #[] #[] := fun _ => rfl); generalize a1.eval = ρ at *
          clear h11
          go_simp <;> (intros; first | (exfalso; omega) | rfl)
        · intro vs p hI0 hp
          have hI := Roll.inw_pre (by decide) rfl hI0
          clear hI0
          have h5 : (vs 5) = .slice none 0 0 := hp 5 (by simp [Lrc6])
          have h12 : (vs 12) = .slice (some ⟨rk, ro, none⟩) sl rc := hp 12 (by simp [Lrc6])
          have e30 : (Roll.putD Drc6 vs [5, 12] b0).eval (.tmp 30) = .slice none 0 0 := (Roll.eval_new 5 rfl (by decide) (by decide) (by omega)).trans h5
          have e37 : (Roll.putD Drc6 vs [5, 12] b0).eval (.tmp 37) = .slice (some ⟨rk, ro, none⟩) sl rc := (Roll.eval_new 12 rfl (by decide) (by decide) (by omega)).trans h12
          clear hp hlv hN
          unfold Roll.Goes
          simp only [Lrc6, List.getD_cons_zero, List.getD_cons_succ]
          generalize Roll.putD Drc6 vs [5, 12] b0 = a1 at *
          obtain ⟨i0, ji, jz0, jz1, jz2⟩ := info_parts info32
          refine goes_append_rw rfl (.tmp 30) (.tmp 37) 56 56 rfl 32 i0 (.slice none 0 0) 24 Try.underlying56 ji jz0 jz1 jz2 rfl none _ 0 [] e30 (Rw.nil p _) _ e37 sl ys (rw_src Try.underlying56 HY1.out (HYS.out.kept (Kept.of_below (fun _ => False) (HBWQ.out.trans (hI.mono HBWQ.out.size))) (fun _ _ h => h))) (by have := HSLB.out; unfold maxLen; omega) (by have := HSLB.out; omega) ?_
          intro k' v' w' g1 g2 g3
          rw [Nat.zero_add, List.nil_append] at g1
          obtain ⟨r8, o8, c8, rfl, rfl, _, _, _, _⟩ := g1.at HSP.out
          have hbl : Below p.heap.size p w' := g3.below (Nat.le_refl _) (fun j _ e => by cases e)
          have hr8 : p.heap.size ≤ r8 := (g2 r8 rfl).resolve_left (fun e => by cases e)
          exact ⟨Roll.outw_pre (by decide) rfl (hI.trans (hbl.mono hI.size)) (Kept.of_below _ hbl), r8, o8, c8, rfl, Nat.le_trans hI.size hr8, g1.lt r8 rfl, g1⟩
        · intro vs p hI0 hp
          have hI := Roll.inw_pre (by decide) rfl hI0
          clear hI0
          have h13 : ∃ r o c, (vs 13) = .slice (some ⟨r, o, none⟩) sl c ∧ q.heap.size ≤ r ∧ r < p.heap.size ∧ Rw p 32 (some r) (.slice (some ⟨r, o, none⟩) sl c) sl ys := hp 13 (by simp [Lrc6])
          have e38 : (Roll.putD Drc6 vs [13] b0).eval (.tmp 38) = vs 13 := (Roll.eval_new 13 rfl (by decide) (by decide) (by omega))
          clear hp hlv hN
          unfold Roll.Goes
          simp only [Lrc6, List.getD_cons_zero, List.getD_cons_succ]
          generalize Roll.putD Drc6 vs [13] b0 = a1 at *
          obtain ⟨r8, o8, c8, hv3, hrq, hrl, hrw⟩ := h13
          rw [hv3] at e38
          have hal : Below p.heap.size p (p.alloc (.cells #[.slice (some ⟨r8, o8, none⟩) sl c8] 56)) := (Below.refl _ _).alloc (Nat.le_refl _) _
          refine Roll.goes_val (w' := p.alloc (.cells #[.slice (some ⟨r8, o8, none⟩) sl c8] 56)) (.slice (some ⟨p.heap.size, 0, none⟩) 1 1) rfl (by have ec : ∀ x, a1.eval (.const x) = x := fun _ => rfl; have ef : ∀ x, a1.eval (.func x) = .func (.func x) #[] #[] := fun _ => rfl; have hbs := run_bs53; generalize a1.eval = ρ at *; go_simp <;> (intros; first | (exfalso; omega) | rfl)) ⟨Roll.outw_pre (by decide) rfl (hI.trans (hal.mono hI.size)) (Kept.of_below _ hal), p.heap.size, r8, o8, c8, rfl, hI.size, heap_new rfl, hrq, Nat.lt_of_lt_of_le hrl hal.size, hrw.kept (Kept.of_below (fun _ => False) hal) (fun _ _ h => h)⟩
        · intro vs p hI0 hp
          have hI := Roll.inw_k0 rfl hI0
          clear hI0
          have h4 : (vs 4) = vo := hp 4 (by simp [Lrc6])
          have h14 : ∃ s r o c, (vs 14) = .slice (some ⟨s, 0, none⟩) 1 1 ∧ q.heap.size ≤ s ∧ p.heap[s]? = some (.cells #[.slice (some ⟨r, o, none⟩) sl c] 56 (0, 0)) ∧ q.heap.size ≤ r ∧ r < p.heap.size ∧ Rw p 32 (some r) (.slice (some ⟨r, o, none⟩) sl c) sl ys := hp 14 (by simp [Lrc6])
          have e29 : (Roll.putD Drc6 vs [4, 14] b0).eval (.tmp 29) = vo := (Roll.eval_new 4 rfl (by decide) (by decide) (by omega)).trans h4
          have e39 : (Roll.putD Drc6 vs [4, 14] b0).eval (.tmp 39) = vs 14 := (Roll.eval_new 14 rfl (by decide) (by decide) (by omega))
          clear hp hlv hN
          unfold Roll.Goes
          simp only [Lrc6, List.getD_cons_zero, List.getD_cons_succ]
          generalize Roll.putD Drc6 vs [4, 14] b0 = a1 at *
          obtain ⟨s3, r8, o8, c8, hv3, hsq, hhs, hrq, hrl, hrw⟩ := h14
          rw [hv3] at e39
          obtain ⟨i0, ji, jz0, jz1, jz2⟩ := info_parts info56
          refine goes_append_rw rfl (.tmp 29) (.tmp 39) 53 53 rfl 56 i0 (.slice none 0 0) 24 Try.underlying53 ji jz0 jz1 jz2 rfl gso vo i xs e29 (HXS.out.kept (Kept.of_below (fun _ => False) hI) (fun _ _ h => h)) _ e39 1 [.slice (some ⟨r8, o8, none⟩) sl c8] (src_one' Try.underlying53 hhs) (by have := HN16.out; have := HKN.out; unfold maxLen; omega) (by have := HN16.out; have := HKN.out; omega) ?_
          intro k' v' w' g1 g2 g3
          have hgr : k' ≠ some r8 := fun e => by
            rcases g2 r8 e with e | e
            · have := HGS.out r8 e; omega
            · omega
          exact ⟨Roll.outw_k0 rfl ⟨k', r8, o8, c8, g1, fun j hj => (g2 j hj).imp id (fun e => Nat.le_trans hI.size e), hrq, hgr, hrw.kept g3 (fun j hj e => by have := Option.some.inj hj; have := HGS.out j e; omega), ((Kept.of_below (fun j => gso = some j) hI).trans g3 (fun _ _ h => h))⟩ g3, trivial⟩
      · intro vs p hI hR
        have h0 : (vs 0) = .pointer (some ⟨gc, 0, none⟩) := hR 0 (by omega)
        have h1 : (vs 1) = .pointer (some ⟨gc, 0, none⟩) := hR 1 (by omega)
        have h2 : (vs 2) = .pointer (some ⟨gc, 0, none⟩) := hR 2 (by omega)
        have h3 : (vs 3) = .pointer (some ⟨gc, 0, none⟩) := hR 3 (by omega)
        have h4 : (vs 4) = vo := hR 4 (by omega)
        have h5 : (vs 5) = .slice none 0 0 := hR 5 (by omega)
        have h6 : (vs 6) = .pointer (some ⟨g, 0, none⟩) := hR 6 (by omega)
        have h7 : (vs 7) = .pointer (some ⟨g, 0, none⟩) := hR 7 (by omega)
        have h8 : (vs 8) = .pointer (some ⟨g, 0, none⟩) := hR 8 (by omega)
        have h9 : (vs 9) = .slice (some ⟨gs, so, none⟩) SN co := hR 9 (by omega)
        have h10 : (vs 10) = .int .i64 (i : Int) := hR 10 (by omega)
        have h11 : (vs 11) = .pointer (some ⟨gs, so + i, none⟩) := hR 11 (by omega)
        have h12 : (vs 12) = .slice (some ⟨rk, ro, none⟩) sl rc := hR 12 (by omega)
        have h13 : ∃ r o c, (vs 13) = .slice (some ⟨r, o, none⟩) sl c ∧ q.heap.size ≤ r ∧ r < p.heap.size ∧ Rw p 32 (some r) (.slice (some ⟨r, o, none⟩) sl c) sl ys := hR 13 (by omega)
        have h14 : ∃ s r o c, (vs 14) = .slice (some ⟨s, 0, none⟩) 1 1 ∧ q.heap.size ≤ s ∧ p.heap[s]? = some (.cells #[.slice (some ⟨r, o, none⟩) sl c] 56 (0, 0)) ∧ q.heap.size ≤ r ∧ r < p.heap.size ∧ Rw p 32 (some r) (.slice (some ⟨r, o, none⟩) sl c) sl ys := hR 14 (by omega)
        have h15 : True := hR 15 (by omega)
        clear hR
        simp only [List.range_succ, List.range_zero, List.nil_append, List.cons_append, Roll.putD, Act.put, List.getD_cons_zero, List.getD_cons_succ, List.setIfInBounds_toArray, List.set_cons_zero, List.set_cons_succ, List.drop_succ_cons, List.drop_zero, Drc6]
        simp only [h0, h1, h2, h3, h4, h5, h6, h7, h8, h9, h10, h11, h12]
        clear h0 h1 h2 h3 h4 h5 h6 h7 h8 h9 h10 h11 h12
        clear h13 h14 h15
        generalize vs 15 = v8 at *
        obtain ⟨k', r, o8, c8, g1, g2, g3, g4, g5, gK⟩ := hI
        obtain ⟨gs8, o9, c9, _, hv8, _, _, _, _⟩ := g1.at (by omega)
        subst hv8
        have hself2 := gK.heap HSELF.out HAP.out
        have cV2 : p.cell? ⟨gc, 0, none⟩ = some vo := by rw [cell_of_row p gc 0 _ _ _ hself2]; rfl
        have fV2 : p.frozen? ⟨gc, 0, none⟩ = false := frozen_of_row p gc 0 _ _ hself2
        have HP : Hid (Trk (p.setCell ⟨gc, 0, none⟩ (.slice (some ⟨gs8, o9, none⟩) (i + 1) c9)) 87 [.bool OF, .int .i64 FV] gc k' (.slice (some ⟨gs8, o9, none⟩) (i + 1) c9) (fun j => if j = i then r else row j) Bf (d.S.take (i + 1)) ∧ (∀ x, k' = some x → w.heap.size ≤ x) ∧ (∀ j, j < i + 1 → w.heap.size ≤ (if j = i then r else row j)) ∧ Below w.heap.size w (p.setCell ⟨gc, 0, none⟩ (.slice (some ⟨gs8, o9, none⟩) (i + 1) c9))) := Lib.hid (by
          have hq := HBWQ.out.size
          have hgw : w.heap.size ≤ gc := HGC.out
          have hBP : Below w.heap.size w (p.setCell ⟨gc, 0, none⟩ (.slice (some ⟨gs8, o9, none⟩) (i + 1) c9)) := HBWQ.out.trans (((gK.mono (T := fun j => j = gc ∨ gso = some j) (fun _ _ h => .inr h)).setCell (fun _ => .inl rfl) (.slice (some ⟨gs8, o9, none⟩) (i + 1) c9)).below HBWQ.out.size (fun j hj e => by
            rcases e with e | e
            · subst e; omega
            · have := HGSW.out j e; omega))
          have hgk : k' ≠ some gc := fun e => by
            rcases g2 _ e with e | e
            · exact HAP.out e
            · have := HGQ.out; omega
          have hks : Kept (fun j => j = gc) p (p.setCell ⟨gc, 0, none⟩ (.slice (some ⟨gs8, o9, none⟩) (i + 1) c9)) := (Kept.refl (fun j => j = gc) p).setCell (fun _ => rfl) _
          have hrg : r ≠ gc := by have := HGQ.out; omega
          have hT := HTC.out
          have hl : (d.S.take i).length = i := by rw [List.length_take, HSN.out]; have := HKN.out; omega
          have hin : InR (p.setCell ⟨gc, 0, none⟩ (.slice (some ⟨gs8, o9, none⟩) (i + 1) c9)) Bf r (.slice (some ⟨r, o8, none⟩) sl c8) (d.S[i]'HKS.out) := by
            refine ⟨ys, by rw [HSL8.out]; exact g5.kept hks (fun j hj e => hrg ((Option.some.inj hj).trans e)), fun j hj => ?_⟩
            obtain ⟨a, c, e1, e2⟩ := HYJ.out j hj
            exact ⟨a, c, e1, e2.kept (Kept.of_below (fun _ => False) hBP) (fun _ _ _ h => h)⟩
          have hp := hT.push (xs := xs) (by rw [hl]; exact HXS.out) HIN.out (w' := (p.setCell ⟨gc, 0, none⟩ (.slice (some ⟨gs8, o9, none⟩) (i + 1) c9))) (gso' := k') (vo' := (.slice (some ⟨gs8, o9, none⟩) (i + 1) c9)) (v' := .slice (some ⟨r, o8, none⟩) sl c8) (r := r) (s := d.S[i]'HKS.out) (Bf' := Bf)
            (heap_setCell_same p gc 0 _ _ _ hself2) ((gK.mono (fun _ _ h => .inr h)).setCell (fun _ => .inl rfl) (.slice (some ⟨gs8, o9, none⟩) (i + 1) c9)) (by rw [hl]; exact g1.kept hks (fun j hj e => hgk (by rw [← e]; exact hj)))
            hin g2 g3 g4 (fun x hx => hx) (fun x hx => .inl hx) (fun x hx => Nat.lt_of_lt_of_le (HBFW.out x hx) hBP.size)
          rw [hl, ← List.take_succ_eq_append_getElem HKS.out] at hp
          refine ⟨hp, fun x hx => ?_, fun j hj => ?_, hBP⟩
          · rcases g2 x hx with hx | hx
            · exact HGSW.out x hx
            · omega
          · by_cases e : j = i
            · rw [if_pos e]; omega
            · rw [if_neg e]; exact HROW.out j (by omega))
        clear g1 g2 g3 g4 g5 gK hself2
        go_wp2_with fail
        go_roundw
        case rel => exact ⟨i + 1, k', (.slice (some ⟨gs8, o9, none⟩) (i + 1) c9), _, by omega, by go_num, HP.out.1, HP.out.2.1, HP.out.2.2.1, HP.out.2.2.2⟩
        case measure => simp [intOf]; omega
    · obtain rfl : i = SN := by omega
      have HLZ : Hid (∀ wz, Below w.heap.size w wz → Trk wz 87 [.bool OF, .int .i64 FV] gc gso vo row Bf (d.S.take i) → Lv w0 wz (L.set i0 (refO gc d))) := Lib.hid (fun wz hb hT => by
        rw [HEX.out, List.take_of_length_le (by rw [HSN.out]; exact Nat.le_refl _)] at hT
        refine HSET.out wz (refO gc d) (fun x => B x ∨ (w.heap.size ≤ x ∧ x < wz.heap.size)) ⟨gso, vo, row, Bf, hT, fun x hx => ?_⟩ (Kept.of_below B hb) (fun j hj => hj.imp id (fun h => h.1)) (fun j hj => ?_)
        · have hlt := hT.blk_lt x hx
          rcases hx with e | e | ⟨j, hj, e⟩ | e
          · exact .inr ⟨by rw [e]; exact HGC.out, hlt⟩
          · exact .inr ⟨HGSW.out x e, hlt⟩
          · exact .inr ⟨by rw [← e]; exact HROW.out j (by rw [HSN.out] at hj; exact hj), hlt⟩
          · exact .inl (HTB.out x (.inr (.inr (.inr e))))
        · rcases hj with hj | hj
          · exact Nat.lt_of_lt_of_le (HBLT.out j hj).2 hb.size
          · exact hj.2)
      go_wp2_with fail
      -- CUT 3
      go_ret
      exact ⟨gc, rfl, HLZ.out _ HBWQ0.out HTC0.out⟩
end Go.Proofs.Ytbnodhcgdgcebaa

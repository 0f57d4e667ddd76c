/-
  The program's Instants over the segments of a zone (written by gen_Z6.py).
-/
import Derived.Test.YtcdjilnlmihnhaaDoorZ5
namespace Go.Proofs.YtcdjilnlmihnhaaDoor
open Go.RowKit Go.Shelf
set_option linter.unusedSimpArgs false
set_option linter.unusedVariables false
attribute [local go_sem] Oper.semAt_some
attribute [local go_sem ↓] exec_loadShift exec_storeShift exec_loadSeg exec_storeSeg exec_loadZone exec_storeZone
attribute [local go_sem] run_storeShift run_storeSeg run_storeZone
set_option maxRecDepth 100000 in
theorem instants_bad {w : World} {o day minute : Int} {a : Option Addr} {n c : Nat} (hm : minute < 0 ∨ 1440 ≤ minute) :
    Calls Tryd.prog 19 #[zV o a n c, .int .i64 day, .int .i64 minute] w fun e w' => e = .returned (.slice none 0 0) ∧ Below w.heap.size w w' := by
  have hb : Below w.heap.size w (((w.alloc (.cells #[.int .i64 o, .slice a n c] 25)).alloc (.cells #[.int .i64 day] 3)).alloc (.cells #[.int .i64 minute] 3)) := (((Below.refl _ w).alloc (Nat.le_refl _) _).alloc (by simp; try omega) _).alloc (by simp; try omega) _
  have HB := Lib.hid hb
  clear hb
  unfold zV
  by_cases h0 : minute < 0
  · clear hm
    go_enter Tryd.func19, Tryd.ntmps19
    go_wp2
    go_ret
    exact ⟨rfl, HB.out⟩
  · have h1 : 1440 ≤ minute := by omega
    clear hm
    go_enter Tryd.func19, Tryd.ntmps19
    go_wp2
    go_ret
    exact ⟨rfl, HB.out⟩
theorem rowZ_stp {B base : Nat} {X Y : World} {e : TypeId} {size k : Nat} {v : Value} {xs : List Value} (h : X.ownsRow base e size v k xs) (hs : Stp B X Y) (ht : e ≠ 38 ∧ e ≠ 58) : Y.ownsRow base e size v k xs := by
  refine ⟨h.1, ?_⟩
  rcases h.2 with h0 | ⟨g, cap, cur, h1, h2, hg, rest⟩
  · exact .inl h0
  · exact .inr ⟨g, cap, cur, h1, h2, hs.cells _ _ _ hg ht.1 ht.2, rest⟩
theorem not_rowZ {W : World} {b : Nat} {cs : Array Value} {t e : TypeId} (h : W.heap[b]? = some (.cells cs t (0, 0))) (hte : t ≠ e) {base size k : Nat} {v : Value} {xs : List Value} (hr : W.ownsRow base e size v k xs) : some b ≠ v.ownBlock := by
  rcases hr.2 with ⟨rfl, _⟩ | ⟨g, cap, cur, rfl, _, hgb, _⟩
  · simp [Value.ownBlock]
  · intro e'
    obtain rfl : b = g := by simpa [Value.ownBlock] using e'
    have := h.symm.trans hgb
    simp at this
    exact hte this.2
theorem KZ.appended {W w1 : World} {n₀ B k : Nat} {te : TypeId} {size : Nat} {tb : TypeId} {v v' : Value} {xs : List Value} {tmp : Obj} (hv : Boxed W B tb v) (hrow : W.ownsRow n₀ te size v k xs) (hgrow : (W.alloc tmp).grownBy w1 v.ownBlock)
    (h1 : tb ≠ 38 ∧ tb ≠ 58 ∧ tb ≠ 25) (h2 : te ≠ 38 ∧ te ≠ 58 ∧ te ≠ 25)
    (hb : Below n₀ W (w1.setCell ⟨B, 0, none⟩ v')) : KZ n₀ W (w1.setCell ⟨B, 0, none⟩ v') := by
  refine ⟨hb, fun b cs t ht hh => ?_⟩
  have hlt := (Array.getElem?_eq_some_iff.1 hh).1
  have hte : t ≠ te := by rintro rfl; rcases ht with h | h | h <;> simp_all
  have htb : t ≠ tb := by rintro rfl; rcases ht with h | h | h <;> simp_all
  have hbB : b ≠ B := by
    rintro rfl
    have := hh.symm.trans hv
    simp at this
    exact htb this.2
  refine (Below.heap_setCell _ _ _ b hbB).trans ((hgrow.block b (by rw [World.size_alloc]; omega) (not_rowZ hh hte hrow)).trans ((Below.heap_alloc _ _ _ hlt).trans hh))
theorem one_newZ (W : World) (a : Value) (t : TypeId) : ∀ j u, ([a] : List Value)[j]? = some u → (W.alloc (.cells #[a] t)).cell? ((⟨W.heap.size, 0, none⟩ : Addr).add j) = some u := by
  intro j u h
  rcases j with _ | j
  · obtain rfl : a = u := by simpa using h
    exact cell_of_row (W.alloc (.cells #[a] t)) W.heap.size 0 #[a] _ _ (World.alloc_heap_new W _)
  · simp at h
theorem rowZ_mono {W : World} {b b' : Nat} {e : TypeId} {size k : Nat} {v : Value} {xs : List Value} (h : W.ownsRow b e size v k xs) (hb : b' ≤ b) : W.ownsRow b' e size v k xs := by
  refine ⟨h.1, ?_⟩
  rcases h.2 with h0 | ⟨g, cap, cur, h1, h2, rest⟩
  · exact .inl h0
  · exact .inr ⟨g, cap, cur, h1, Nat.le_trans hb h2, rest⟩
theorem low_not_row {W : World} {b base : Nat} {e : TypeId} {size k : Nat} {v : Value} {xs : List Value} (h : W.ownsRow base e size v k xs) (hb : b < base) : some b ≠ v.ownBlock := by
  rcases h.2 with ⟨rfl, _⟩ | ⟨g, cap, cur, rfl, hg, _⟩
  · simp [Value.ownBlock]
  · intro e'
    obtain rfl : b = g := by simpa [Value.ownBlock] using e'
    omega
/-- what a round of Instants finds -/
def II (w : World) (day minute N : Int) (pre : List SgM) (W : World) : Prop := (∃ sl, Boxed W (w.heap.size + 1 + 1 + 1) 22 sl ∧ W.ownsRow (w.heap.size + 5) 3 1 sl (insP N pre).length (ivals (insP N pre)) ∧ w.heap.size + 5 ≤ W.heap.size) ∧ (Boxed W (w.heap.size + 1) 3 (.int .i64 day) ∧ Boxed W (w.heap.size + 1 + 1) 3 (.int .i64 minute)) ∧ Below w.heap.size w W
theorem II.stp {w : World} {day minute N : Int} {B : Nat} (hB : w.heap.size ≤ B) {s : List SgM} {X Y : World} (h : II w day minute N s X) (hs : Stp B X Y) : II w day minute N s Y := by
  obtain ⟨⟨sl, h1, h2, h6⟩, ⟨h3, h5⟩, h4⟩ := h
  exact ⟨⟨sl, box_stp h1 hs (by decide), rowZ_stp h2 hs (by decide), Nat.le_trans h6 hs.size⟩, ⟨box_stp h3 hs (by decide), box_stp h5 hs (by decide)⟩, below_stp h4 hs hB (Nat.le_refl _)⟩
set_option maxRecDepth 100000 in
set_option maxHeartbeats 4000000 in
theorem instants_any {w : World} {D : Nat → Prop} {o day minute N : Int} {a : Option Addr} {n c : Nat} {L : List SM} (h : Ss D w a n c L) (ho : -900 ≤ o ∧ o ≤ 900) (hL : ∀ s ∈ L, -900 ≤ s.o ∧ s.o ≤ 900) (hl : L.length ≤ 1000000) (hd : -1000000000 ≤ day ∧ day ≤ 1000000000) (hm0 : 0 ≤ minute) (hm1 : minute < 1440) (hN : N = 1440 * day + minute) :
    Calls Tryd.prog 19 #[zV o a n c, .int .i64 day, .int .i64 minute] w fun e w' => ∃ v, e = .returned v ∧ w'.ownsRow w.heap.size 3 1 v (insP N (segL minI o L)).length (ivals (insP N (segL minI o L))) ∧ Below w.heap.size w w' := by
  refine (callsIn_wide (n := 7)).1 ?_
  have hro : Fence.wide.round = none := rfl
  have hdd : ∀ k : Nat, (Fence.wide.depth.isSome = true → 1 ≤ k) := fun k h => by cases h
  have HS := Lib.hid h
  have HO := Lib.hid ho
  have HL := Lib.hid hL
  have HLL := Lib.hid hl
  have HD := Lib.hid hd
  have HM0 := Lib.hid hm0
  have HM1 := Lib.hid hm1
  have HN := Lib.hid hN
  have i1 : IntKind.i64.wrap (day * 1440) = day * 1440 := i64_id _ (by omega) (by omega)
  have i2 : IntKind.i64.wrap (day * 1440 + minute) = N := by rw [i64_id _ (by omega) (by omega)]; omega
  have g0 : ¬ minute < 0 := by omega
  have g1 : ¬ 1440 ≤ minute := by omega
  clear h ho hL hl hd hm0 hm1 hN
  obtain ⟨F, hF⟩ : ∃ F, F = Fence.wide := ⟨_, rfl⟩
  rw [← hF] at hro hdd ⊢
  have hfn : F.fn 19 := by rw [hF]; trivial
  have h33 : F.fn 22 := by rw [hF]; trivial
  have HW : Hid (∀ {m : Nat} {f : FuncId} {args : Array Value} {u : World} {R : Ending → World → Prop}, Calls Tryd.prog f args u R → CallsIn F m Tryd.prog f args u R) := Lib.hid (fun h => by rw [hF]; exact callsIn_wide.2 h)
  have HF := Lib.hid hF
  clear hF
  unfold zV
  refine callsIn_of_wp_marks Tryd.func19 rfl hfn ?_ hro
  simp only [Tryd.ntmps19, List.size_toArray, List.length_cons, List.length_nil, Nat.reduceAdd, Nat.reduceSub, Array.replicate_succ, Array.replicate_zero, List.push_toArray, List.append_toArray, List.nil_append, List.cons_append]
  have ldz : (loadZoneA (.pointer (some ⟨w.heap.size, 0, none⟩))).run Tryd.prog ((((w.alloc (.cells #[.int .i64 o, .slice a n c] 25)).alloc (.cells #[.int .i64 day] 3)).alloc (.cells #[.int .i64 minute] 3)).alloc (.cells #[.slice none 0 0] 22)) = .ok (.value (.agg #[.int .i64 o, .slice a n c])) _ := run_loadZone (heap_old (heap_old (heap_old (heap_newZ))))
  gi_wp2_with ((try refine ⟨hdd _, ?_⟩); gi_at_call 22; refine (HW.out (segments_any _ _ _ _)).mono ?_; rintro e w' ⟨rfl, rfl⟩)
  have hB0 : Below w.heap.size w (((((w.alloc (.cells #[.int .i64 o, .slice a n c] 25)).alloc (.cells #[.int .i64 day] 3)).alloc (.cells #[.int .i64 minute] 3)).alloc (.cells #[.slice none 0 0] 22)).alloc (.cells #[.int .i64 o, .slice a n c] 25)) := ((((((Below.refl _ w).alloc (Nat.le_refl _) _).alloc (by simp; try omega) _).alloc (by simp; try omega) _).alloc (by simp; try omega) _).alloc (by simp; try omega) _)
  have b1 : Boxed (((((w.alloc (.cells #[.int .i64 o, .slice a n c] 25)).alloc (.cells #[.int .i64 day] 3)).alloc (.cells #[.int .i64 minute] 3)).alloc (.cells #[.slice none 0 0] 22)).alloc (.cells #[.int .i64 o, .slice a n c] 25)) (w.heap.size + 1) 3 (.int .i64 day) := heap_old (heap_old (heap_old (heap_new (by simp))))
  have b2 : Boxed (((((w.alloc (.cells #[.int .i64 o, .slice a n c] 25)).alloc (.cells #[.int .i64 day] 3)).alloc (.cells #[.int .i64 minute] 3)).alloc (.cells #[.slice none 0 0] 22)).alloc (.cells #[.int .i64 o, .slice a n c] 25)) (w.heap.size + 1 + 1) 3 (.int .i64 minute) := heap_old (heap_old (heap_new (by simp)))
  have b3 : Boxed (((((w.alloc (.cells #[.int .i64 o, .slice a n c] 25)).alloc (.cells #[.int .i64 day] 3)).alloc (.cells #[.int .i64 minute] 3)).alloc (.cells #[.slice none 0 0] 22)).alloc (.cells #[.int .i64 o, .slice a n c] 25)) (w.heap.size + 1 + 1 + 1) 22 (.slice none 0 0) := heap_old (heap_new (by simp))
  have hz0 : (((((w.alloc (.cells #[.int .i64 o, .slice a n c] 25)).alloc (.cells #[.int .i64 day] 3)).alloc (.cells #[.int .i64 minute] 3)).alloc (.cells #[.slice none 0 0] 22)).alloc (.cells #[.int .i64 o, .slice a n c] 25)).heap[w.heap.size + 1 + 1 + 1 + 1]? = some (.cells #[.int .i64 o, .slice a n c] 25 (0, 0)) := heap_new (by simp)
  obtain ⟨W0, hW0⟩ : ∃ W0, W0 = (((((w.alloc (.cells #[.int .i64 o, .slice a n c] 25)).alloc (.cells #[.int .i64 day] 3)).alloc (.cells #[.int .i64 minute] 3)).alloc (.cells #[.slice none 0 0] 22)).alloc (.cells #[.int .i64 o, .slice a n c] 25)) := ⟨_, rfl⟩
  have hs0 : W0.heap.size = w.heap.size + 5 := by rw [hW0]; simp
  rw [← hW0] at hB0 b1 b2 b3 hz0 ⊢
  have hF2 := HF.out
  subst hF2
  have HIS : Hid (∀ s X Y, II w day minute N s X → Stp W0.heap.size X Y → II w day minute N s Y) := Lib.hid (fun s X Y h hs => h.stp (by omega) hs)
  have HII := Lib.hid i1
  have HI2 := Lib.hid i2
  have HS0 := Lib.hid hs0
  have HR0 : Hid (w.heap.size ≤ W0.heap.size) := Lib.hid (by omega)
  have HZ0 := Lib.hid (ZI.made HS.out hB0 hz0)
  have HI0 : Hid (II w day minute N [] W0) := Lib.hid ⟨⟨_, b3, World.ownsRow_nil _ _ _ _, by omega⟩, ⟨b1, b2⟩, hB0⟩
  clear hW0 ldz i1 i2 hs0 hB0 hz0 b1 b2 b3
  refine range_segs rfl HZ0.out HR0.out (II w day minute N) (fun _ _ _ => False) HIS.out (fun j s X Y h hs => h) HI0.out
    (fun x a' W => ∃ Bx, w.heap.size + 1 + 1 + 1 < Bx ∧ W.heap[Bx]? = some (.cells (segC x) 58 (0, 0)) ∧ a' = { tmps := #[.agg #[.int .i64 o, .slice a n c], .int .i64 day, .int .i64 minute, .pointer (some ⟨w.heap.size, 0, none⟩), .pointer (some ⟨w.heap.size + 1, 0, none⟩), .pointer (some ⟨w.heap.size + 1 + 1, 0, none⟩), .slice none 0 0, .pointer (some ⟨w.heap.size + 1 + 1 + 1, 0, none⟩), .pointer (some ⟨Bx, 0, none⟩), undef, .int .i64 minute, .bool false, .bool false, .int .i64 minute, .bool false, .bool false, .agg #[.int .i64 o, .slice a n c], .func (.func 31) #[] #[.pointer (some ⟨w.heap.size + 1 + 1 + 1 + 1, 0, none⟩)], .agg #[.int .i64 x.f, .int .i64 x.u, .int .i64 x.o], undef, undef, undef, undef, undef, undef, undef, undef, undef, undef, undef, undef, undef, undef, undef, undef, undef, undef, undef, undef, undef, undef], defers := [] })
    (fun x a' X l r r' h hl hr => by obtain ⟨Bx, h1, h2, h3⟩ := h; exact ⟨Bx, h1, putObj_seg hr h2, h3⟩) ?assign ?body ?done ?stop
  case assign =>
    rintro l pre x W K hI hsz hK
    have p6 : SegB (W.alloc (.cells #[.int .i64 0, .int .i64 0, .int .i64 0] 58)) W.heap.size := ⟨_, _, _, heap_newZ⟩
    have HI := Lib.hid hI
    have HSZ := Lib.hid hsz
    have HK := Lib.hid hK
    clear hI hsz hK
    unfold segV
    simp only [List.setIfInBounds_toArray, List.set_cons_succ, List.set_cons_zero]
    gi_wp2
    have hb := seg_below W #[.int .i64 x.f, .int .i64 x.u, .int .i64 x.o]
    exact HK.out _ _ ((keeps_below hb).from _) (KZ.of hb (by have := HSZ.out; have := HS0.out; omega)) (HIS.out _ _ _ HI.out (Stp.below hb)) ⟨W.heap.size, by have := HSZ.out; have := HS0.out; omega, seg_new, rfl⟩
  case body =>
    rintro l pre x a' W hl ⟨⟨sl, hv, hrow, hsz⟩, ⟨bD, bM⟩, hB⟩ ⟨Bx, hBx, hx, rfl⟩ hpre
    obtain ⟨i0, hi, hz0, hz1, hz2⟩ := info_parts info3
    have cD := bD.cell
    have cM := bM.cell
    have cS := hv.cell
    have x0 : W.cell? ⟨Bx, 0, none⟩ = some (.int .i64 x.f) := cell_of_row W Bx 0 _ _ _ hx
    have x1 : W.cell? ⟨Bx, 1, none⟩ = some (.int .i64 x.u) := cell_of_row W Bx 1 _ _ _ hx
    have x2 : W.cell? ⟨Bx, 2, none⟩ = some (.int .i64 x.o) := cell_of_row W Bx 2 _ _ _ hx
    have hxo := segL_o L minI o (.inr trivial) HO.out.1 HO.out.2 HL.out x (hpre.subset (by simp))
    have i1 := HII.out
    have i2 := HI2.out
    have i3 : IntKind.i64.wrap (N - x.o) = N - x.o := i64_id _ (by have := HD.out; have := HM0.out; have := HM1.out; have := HN.out; omega) (by have := HD.out; have := HM0.out; have := HM1.out; have := HN.out; omega)
    obtain ⟨T, hT⟩ : ∃ T, T = N - x.o := ⟨_, rfl⟩
    have i4 : IntKind.i64.wrap (N - x.o) = T := i3.trans hT.symm
    have hpl : (insP N pre).length ≤ 1000000 := by
      have h1 := insP_len N pre
      have h2 := hpre.length_le
      rw [segL_len, List.length_append, List.length_singleton] at h2
      have := HLL.out
      omega
    have hk1 : (insP N pre).length + 1 ≤ maxLen := by unfold maxLen; omega
    have hk2 : ((insP N pre).length + 1) * 8 ≤ 140737488355328 := by omega
    have HT := Lib.hid hT
    have HB := Lib.hid hB
    have HBD := Lib.hid bD
    have HBM := Lib.hid bM
    have HBS := Lib.hid hv
    have HBX := Lib.hid hBx
    have HSN := Lib.hid (insP_snoc N pre x)
    obtain ⟨IL, hIL⟩ : ∃ IL, IL = insP N pre := ⟨_, rfl⟩
    rw [← hIL] at hrow hk1 hk2 HSN
    have HIL := Lib.hid hIL
    have HROW := Lib.hid hrow
    have HSZ := Lib.hid hsz
    clear hpl hB bD bM hx hpre hxo hT hBx i3 hIL hsz
    by_cases hxf : x.f ≤ T
    · by_cases hxu : T < x.u
      · have HC : Hid (x.f ≤ N - x.o ∧ N - x.o < x.u) := Lib.hid (by rw [← HT.out]; exact ⟨hxf, hxu⟩)
        gi_upto_region 8 with fail
        clear x0 x1 x2 i1 i2 i4 cD cM
        gi_wp2_with (gi_at_builtin; refine wpListIn_append_own _ rfl _ _ 22 rfl (w.heap.size + 5) 3 i0 (.int .i64 0) 1 8 Tryd.underlying22 hi hz0 hz1 hz2 rfl (by decide) _ _ _ rfl (hrow.alloc _) ⟨W.heap.size, 0, none⟩ 1 1 [.int .i64 T] rfl rfl (one_newZ _ _ _) (by simp [Value.oneCell']) hk1 hk2 (by have := HSZ.out; simp; omega) ?_; intro sl' w1 hown' hgrow _; obtain ⟨g', cap', rfl⟩ := ownsRow_succ hown'; obtain ⟨hv1, hv2, hr2, hkk, hb2⟩ := hv.appended (by decide) (rowZ_mono (b' := w.heap.size) hrow (by omega)) HB.out.size (by omega) (rowZ_mono (b' := w.heap.size) hown' (by omega)) hgrow; have HR5 := Lib.hid (hown'.kept (grownBy_setCell' w1 (w.heap.size + 1 + 1 + 1) (.slice (some ⟨g', 0, none⟩) (IL.length + 1) cap')) (.inr (hv1.not_row (by decide) hown').symm)); have HG := Lib.hid hgrow; have HV2 := Lib.hid hv2; have HKK := Lib.hid hkk; have HB2 := Lib.hid hb2; clear hgrow hown' hr2 hv2 hkk hb2; have hc1 := hv1.cell; have hf1 := hv1.frozen)
        exact ⟨HKK.out.from _, KZ.appended HBS.out (rowZ_mono (b' := w.heap.size) HROW.out (by omega)) HG.out (by decide) (by decide) HB2.out, ⟨_, HV2.out, by rw [HSN.out, if_pos HC.out, List.length_append, List.length_singleton, ivals_app, ← HT.out]; exact HR5.out, Nat.le_trans HSZ.out HKK.out.size⟩,
          ⟨((HBD.out.alloc _).kept HG.out (low_not_row HROW.out (by omega))).other (by omega) _, ((HBM.out.alloc _).kept HG.out (low_not_row HROW.out (by omega))).other (by omega) _⟩, HB.out.trans HB2.out⟩
      · have HC : Hid (¬ (x.f ≤ N - x.o ∧ N - x.o < x.u)) := Lib.hid (by rw [← HT.out]; exact fun h => hxu h.2)
        gi_wp2
        exact ⟨KeepsFrom.refl _ _, KZ.refl _ _, ⟨sl, HBS.out, by rw [HSN.out, if_neg HC.out]; exact HROW.out, HSZ.out⟩, ⟨HBD.out, HBM.out⟩, HB.out⟩
    · have HC : Hid (¬ (x.f ≤ N - x.o ∧ N - x.o < x.u)) := Lib.hid (by rw [← HT.out]; exact fun h => hxf h.1)
      gi_wp2
      exact ⟨KeepsFrom.refl _ _, KZ.refl _ _, ⟨sl, HBS.out, by rw [HSN.out, if_neg HC.out]; exact HROW.out, HSZ.out⟩, ⟨HBD.out, HBM.out⟩, HB.out⟩
  case done =>
    rintro D W hD ⟨⟨sl, hv, hrow, -⟩, bT, hB⟩ hK
    have hc := hv.cell
    have HB := Lib.hid hB
    have HROW := Lib.hid hrow
    clear hv bT hB hrow
    gi_wp2
    refine ⟨by simp, .inl ⟨_, _, rfl, run_takeDeferred hK, ?_⟩⟩
    exact ⟨_, results_tmp rfl _ _ _, sl, rfl, ownsRow_putObj (rowZ_mono HROW.out (by omega)) _ hK rfl, HB.out.trans (belowK_b (w := w) (Nat.le_refl _) W D _ _ (by have := HS0.out; omega) hK rfl rfl)⟩
  case stop =>
    rintro D j pre W hD hpre h
    exact h.elim
end Go.Proofs.YtcdjilnlmihnhaaDoor

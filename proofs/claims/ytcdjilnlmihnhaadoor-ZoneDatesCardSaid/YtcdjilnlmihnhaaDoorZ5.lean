/-
  The program's Resolve over the segments of a zone (written by gen_Z5.py).
-/
import Derived.Test.YtcdjilnlmihnhaaDoorZ4
namespace Go.Proofs.YtcdjilnlmihnhaaDoor
open Go.RowKit Go.Shelf
set_option linter.unusedSimpArgs false
set_option linter.unusedVariables false
attribute [local go_sem] Oper.semAt_some
attribute [local go_sem ↓] exec_loadShift exec_storeShift exec_loadSeg exec_storeSeg exec_loadZone exec_storeZone
attribute [local go_sem] run_storeShift run_storeSeg run_storeZone
theorem segL_o : ∀ (l : List SM) (f o : Int), Far 0 l ∨ True → -900 ≤ o → o ≤ 900 → (∀ s ∈ l, -900 ≤ s.o ∧ s.o ≤ 900) → ∀ x ∈ segL f o l, -900 ≤ x.o ∧ x.o ≤ 900
  | [], f, o, _, h1, h2, _, x, hx => by
    rw [segL_nil, List.mem_singleton] at hx
    rw [hx]; exact ⟨h1, h2⟩
  | s :: l, f, o, _, h1, h2, h, x, hx => by
    rw [segL_cons] at hx
    rcases List.mem_cons.1 hx with rfl | hx
    · exact ⟨h1, h2⟩
    · have hs := h s List.mem_cons_self
      exact segL_o l s.t s.o (.inr trivial) hs.1 hs.2 (fun s' hs' => h s' (List.mem_cons_of_mem _ hs')) x hx
theorem Far.offs : ∀ {l : List SM} {f : Int}, Far f l → ∀ s ∈ l, -900 ≤ s.o ∧ s.o ≤ 900
  | [], _, _, s, hs => by cases hs
  | s0 :: l, f, h, s, hs => by
    rcases List.mem_cons.1 hs with rfl | hs
    · exact h.2.1
    · exact Far.offs h.2.2 s hs
theorem resP_cont {late : Bool} {N acc : Int} {x : SgM} {l : List SgM} (h1 : ¬ N - x.o < x.f) (h2 : ¬ (N - x.o < x.u ∧ late = false)) : resP late N acc (x :: l) = resP late N (min (N - x.o) x.u) l := by
  rw [resP, if_neg h1, if_neg h2]
theorem resP_stop {late : Bool} {N acc : Int} {x : SgM} {l : List SgM} (h1 : ¬ N - x.o < x.f) (h2 : N - x.o < x.u ∧ late = false) : resP late N acc (x :: l) = min (N - x.o) x.u := by
  rw [resP, if_neg h1, if_pos h2]
/-- what a round of Resolve finds, and what it leaves -/
def RI (w : World) (day minute : Int) (late : Bool) (N : Int) (pre : List SgM) (W : World) : Prop := (∃ acc : Int, Boxed W (w.heap.size + 1 + 1 + 1 + 1) 3 (.int .i64 acc) ∧ ∀ rest, resP late N 0 (pre ++ rest) = resP late N acc rest) ∧ (Boxed W (w.heap.size + 1) 3 (.int .i64 day) ∧ Boxed W (w.heap.size + 1 + 1) 3 (.int .i64 minute) ∧ Boxed W (w.heap.size + 1 + 1 + 1) 4 (.bool late)) ∧ Below w.heap.size w W
def RX (w : World) (late : Bool) (N : Int) (j : Code) (pre : List SgM) (W : World) : Prop := j = .exit 0 ∧ (∃ acc : Int, Boxed W (w.heap.size + 1 + 1 + 1 + 1) 3 (.int .i64 acc) ∧ ∀ rest, resP late N 0 (pre ++ rest) = acc) ∧ Below w.heap.size w W
theorem RI.stp {w : World} {day minute N : Int} {late : Bool} {B : Nat} (hB : w.heap.size ≤ B) {s : List SgM} {X Y : World} (h : RI w day minute late N s X) (hs : Stp B X Y) : RI w day minute late N s Y := by
  obtain ⟨⟨acc, h1, h2⟩, ⟨h3, h5, h6⟩, h4⟩ := h
  exact ⟨⟨acc, box_stp h1 hs (by decide), h2⟩, ⟨box_stp h3 hs (by decide), box_stp h5 hs (by decide), box_stp h6 hs (by decide)⟩, below_stp h4 hs hB (Nat.le_refl _)⟩
theorem RX.stp {w : World} {N : Int} {late : Bool} {B : Nat} (hB : w.heap.size ≤ B) {j : Code} {s : List SgM} {X Y : World} (h : RX w late N j s X) (hs : Stp B X Y) : RX w late N j s Y := by
  obtain ⟨h0, ⟨acc, h1, h2⟩, h4⟩ := h
  exact ⟨h0, ⟨acc, box_stp h1 hs (by decide), h2⟩, below_stp h4 hs hB (Nat.le_refl _)⟩
set_option maxRecDepth 100000 in
set_option maxHeartbeats 4000000 in
theorem resolve_any {w : World} {D : Nat → Prop} {o day minute N : Int} {late : Bool} {a : Option Addr} {n c : Nat} {L : List SM} (h : Ss D w a n c L) (ho : -900 ≤ o ∧ o ≤ 900) (hL : ∀ s ∈ L, -900 ≤ s.o ∧ s.o ≤ 900) (hd : -1000000000 ≤ day ∧ day ≤ 1000000000) (hm : -1000000000 ≤ minute ∧ minute ≤ 1000000000) (hN : N = 1440 * day + minute) :
    Calls Tryd.prog 20 #[zV o a n c, .int .i64 day, .int .i64 minute, .bool late] w fun e w' => e = .returned (.int .i64 (resP late N 0 (segL minI o L))) ∧ Below w.heap.size w w' := by
  refine (callsIn_wide (n := 7)).1 ?_
  have hro : Fence.wide.round = none := rfl
  have hdd : ∀ k : Nat, (Fence.wide.depth.isSome = true → 1 ≤ k) := fun k h => by cases h
  have HS := Lib.hid h
  have HO := Lib.hid ho
  have HL := Lib.hid hL
  have HD := Lib.hid hd
  have HM := Lib.hid hm
  have HN := Lib.hid hN
  have i1 : IntKind.i64.wrap (day * 1440) = day * 1440 := i64_id _ (by omega) (by omega)
  have i2 : IntKind.i64.wrap (day * 1440 + minute) = N := by rw [i64_id _ (by omega) (by omega)]; omega
  clear h ho hL hd hm hN
  obtain ⟨F, hF⟩ : ∃ F, F = Fence.wide := ⟨_, rfl⟩
  rw [← hF] at hro hdd ⊢
  have hfn : F.fn 20 := by rw [hF]; trivial
  have h33 : F.fn 22 := by rw [hF]; trivial
  have HW : Hid (∀ {m : Nat} {f : FuncId} {args : Array Value} {u : World} {R : Ending → World → Prop}, Calls Tryd.prog f args u R → CallsIn F m Tryd.prog f args u R) := Lib.hid (fun h => by rw [hF]; exact callsIn_wide.2 h)
  have HF := Lib.hid hF
  clear hF
  unfold zV
  refine callsIn_of_wp_marks Tryd.func20 rfl hfn ?_ hro
  simp only [Tryd.ntmps20, List.size_toArray, List.length_cons, List.length_nil, Nat.reduceAdd, Nat.reduceSub, Array.replicate_succ, Array.replicate_zero, List.push_toArray, List.append_toArray, List.nil_append, List.cons_append]
  have ldz : (loadZoneA (.pointer (some ⟨w.heap.size, 0, none⟩))).run Tryd.prog (((((w.alloc (.cells #[.int .i64 o, .slice a n c] 25)).alloc (.cells #[.int .i64 day] 3)).alloc (.cells #[.int .i64 minute] 3)).alloc (.cells #[.bool late] 4)).alloc (.cells #[.int .i64 0] 3)) = .ok (.value (.agg #[.int .i64 o, .slice a n c])) _ := run_loadZone (heap_old (heap_old (heap_old (heap_old (heap_newZ)))))
  gi_wp2_with ((try refine ⟨hdd _, ?_⟩); gi_at_call 22; refine (HW.out (segments_any _ _ _ _)).mono ?_; rintro e w' ⟨rfl, rfl⟩)
  have hB0 : Below w.heap.size w ((((((w.alloc (.cells #[.int .i64 o, .slice a n c] 25)).alloc (.cells #[.int .i64 day] 3)).alloc (.cells #[.int .i64 minute] 3)).alloc (.cells #[.bool late] 4)).alloc (.cells #[.int .i64 0] 3)).alloc (.cells #[.int .i64 o, .slice a n c] 25)) := (((((((Below.refl _ w).alloc (Nat.le_refl _) _).alloc (by simp; try omega) _).alloc (by simp; try omega) _).alloc (by simp; try omega) _).alloc (by simp; try omega) _).alloc (by simp; try omega) _)
  have b1 : Boxed ((((((w.alloc (.cells #[.int .i64 o, .slice a n c] 25)).alloc (.cells #[.int .i64 day] 3)).alloc (.cells #[.int .i64 minute] 3)).alloc (.cells #[.bool late] 4)).alloc (.cells #[.int .i64 0] 3)).alloc (.cells #[.int .i64 o, .slice a n c] 25)) (w.heap.size + 1) 3 (.int .i64 day) := heap_old (heap_old (heap_old (heap_old (heap_new (by simp)))))
  have b2 : Boxed ((((((w.alloc (.cells #[.int .i64 o, .slice a n c] 25)).alloc (.cells #[.int .i64 day] 3)).alloc (.cells #[.int .i64 minute] 3)).alloc (.cells #[.bool late] 4)).alloc (.cells #[.int .i64 0] 3)).alloc (.cells #[.int .i64 o, .slice a n c] 25)) (w.heap.size + 1 + 1) 3 (.int .i64 minute) := heap_old (heap_old (heap_old (heap_new (by simp))))
  have b3 : Boxed ((((((w.alloc (.cells #[.int .i64 o, .slice a n c] 25)).alloc (.cells #[.int .i64 day] 3)).alloc (.cells #[.int .i64 minute] 3)).alloc (.cells #[.bool late] 4)).alloc (.cells #[.int .i64 0] 3)).alloc (.cells #[.int .i64 o, .slice a n c] 25)) (w.heap.size + 1 + 1 + 1) 4 (.bool late) := heap_old (heap_old (heap_new (by simp)))
  have b4 : Boxed ((((((w.alloc (.cells #[.int .i64 o, .slice a n c] 25)).alloc (.cells #[.int .i64 day] 3)).alloc (.cells #[.int .i64 minute] 3)).alloc (.cells #[.bool late] 4)).alloc (.cells #[.int .i64 0] 3)).alloc (.cells #[.int .i64 o, .slice a n c] 25)) (w.heap.size + 1 + 1 + 1 + 1) 3 (.int .i64 0) := heap_old (heap_new (by simp))
  have hz0 : ((((((w.alloc (.cells #[.int .i64 o, .slice a n c] 25)).alloc (.cells #[.int .i64 day] 3)).alloc (.cells #[.int .i64 minute] 3)).alloc (.cells #[.bool late] 4)).alloc (.cells #[.int .i64 0] 3)).alloc (.cells #[.int .i64 o, .slice a n c] 25)).heap[w.heap.size + 1 + 1 + 1 + 1 + 1]? = some (.cells #[.int .i64 o, .slice a n c] 25 (0, 0)) := heap_new (by simp)
  obtain ⟨W0, hW0⟩ : ∃ W0, W0 = ((((((w.alloc (.cells #[.int .i64 o, .slice a n c] 25)).alloc (.cells #[.int .i64 day] 3)).alloc (.cells #[.int .i64 minute] 3)).alloc (.cells #[.bool late] 4)).alloc (.cells #[.int .i64 0] 3)).alloc (.cells #[.int .i64 o, .slice a n c] 25)) := ⟨_, rfl⟩
  have hs0 : W0.heap.size = w.heap.size + 6 := by rw [hW0]; simp
  rw [← hW0] at hB0 b1 b2 b3 b4 hz0 ⊢
  have hF2 := HF.out
  subst hF2
  have HIS : Hid (∀ s X Y, RI w day minute late N s X → Stp W0.heap.size X Y → RI w day minute late N s Y) := Lib.hid (fun s X Y h hs => h.stp (by omega) hs)
  have HII := Lib.hid i1
  have HI2 := Lib.hid i2
  have HS0 := Lib.hid hs0
  have HR0 : Hid (w.heap.size ≤ W0.heap.size) := Lib.hid (by omega)
  have HZ0 := Lib.hid (ZI.made HS.out hB0 hz0)
  have HI0 : Hid (RI w day minute late N [] W0) := Lib.hid ⟨⟨0, b4, fun _ => rfl⟩, ⟨b1, b2, b3⟩, hB0⟩
  clear hW0 ldz i1 i2 hs0 hB0 hz0 b1 b2 b3 b4
  refine range_segs rfl HZ0.out HR0.out (RI w day minute late N) (RX w late N) HIS.out (fun j s X Y h hs => h.stp HR0.out hs) HI0.out
    (fun x a' W => ∃ Bx, w.heap.size + 1 + 1 + 1 + 1 < Bx ∧ W.heap[Bx]? = some (.cells (segC x) 58 (0, 0)) ∧ a' = { tmps := #[.agg #[.int .i64 o, .slice a n c], .int .i64 day, .int .i64 minute, .bool late, .pointer (some ⟨w.heap.size, 0, none⟩), .pointer (some ⟨w.heap.size + 1, 0, none⟩), .pointer (some ⟨w.heap.size + 1 + 1, 0, none⟩), .pointer (some ⟨w.heap.size + 1 + 1 + 1, 0, none⟩), .int .i64 0, .pointer (some ⟨w.heap.size + 1 + 1 + 1 + 1, 0, none⟩), .pointer (some ⟨Bx, 0, none⟩), undef, .agg #[.int .i64 o, .slice a n c], .func (.func 31) #[] #[.pointer (some ⟨w.heap.size + 1 + 1 + 1 + 1 + 1, 0, none⟩)], .agg #[.int .i64 x.f, .int .i64 x.u, .int .i64 x.o], undef, undef, undef, undef, undef, undef, undef, undef, undef, undef, undef, undef, undef, undef, undef, undef, undef, undef, undef, undef, undef, undef, undef, undef], defers := [] })
    (fun x a' X l r r' h hl hr => by obtain ⟨Bx, h1, h2, h3⟩ := h; exact ⟨Bx, h1, putObj_seg hr h2, h3⟩) ?assign ?body ?done ?stop
  case assign =>
    rintro l pre x W K hI hsz hK
    have p6 : SegB (W.alloc (.cells #[.int .i64 0, .int .i64 0, .int .i64 0] 58)) W.heap.size := ⟨_, _, _, heap_newZ⟩
    have HI := Lib.hid hI
    have HSZ := Lib.hid hsz
    have HK := Lib.hid hK
    clear hI hsz hK
    unfold segV
    simp only [List.setIfInBounds_toArray, List.set_cons_succ, List.set_cons_zero]
    gi_wp2
    have hb := seg_below W #[.int .i64 x.f, .int .i64 x.u, .int .i64 x.o]
    exact HK.out _ _ ((keeps_below hb).from _) (KZ.of hb (by have := HSZ.out; have := HS0.out; omega)) (HIS.out _ _ _ HI.out (Stp.below hb)) ⟨W.heap.size, by have := HSZ.out; have := HS0.out; omega, seg_new, rfl⟩
  case body =>
    rintro l pre x a' W hl ⟨⟨acc, bA, hacc⟩, ⟨bD, bM, bL⟩, hB⟩ ⟨Bx, hBx, hx, rfl⟩ hpre
    have cD := bD.cell
    have cM := bM.cell
    have cL := bL.cell
    have cA := bA.cell
    have fA := bA.frozen
    have x0 : W.cell? ⟨Bx, 0, none⟩ = some (.int .i64 x.f) := cell_of_row W Bx 0 _ _ _ hx
    have x1 : W.cell? ⟨Bx, 1, none⟩ = some (.int .i64 x.u) := cell_of_row W Bx 1 _ _ _ hx
    have x2 : W.cell? ⟨Bx, 2, none⟩ = some (.int .i64 x.o) := cell_of_row W Bx 2 _ _ _ hx
    have hxo := segL_o L minI o (.inr trivial) HO.out.1 HO.out.2 HL.out x (hpre.subset (by simp))
    have i1 := HII.out
    have i2 := HI2.out
    have i3 : IntKind.i64.wrap (N - x.o) = N - x.o := i64_id _ (by have := HD.out; have := HM.out; have := HN.out; omega) (by have := HD.out; have := HM.out; have := HN.out; omega)
    obtain ⟨T, hT⟩ : ∃ T, T = N - x.o := ⟨_, rfl⟩
    have i4 : IntKind.i64.wrap (N - x.o) = T := i3.trans hT.symm
    have HT := Lib.hid hT
    have HB := Lib.hid hB
    have HA := Lib.hid hacc
    have HBA := Lib.hid bA
    have HBD := Lib.hid bD
    have HBM := Lib.hid bM
    have HBL := Lib.hid bL
    have HBX := Lib.hid hBx
    have HX := Lib.hid hx
    clear hB hacc bA bD bM bL hx hpre hxo hT hBx i3
    have HNEW : Hid (∀ v, Below w.heap.size w (W.setCell ⟨w.heap.size + 1 + 1 + 1 + 1, 0, none⟩ v)) := Lib.hid (fun v => HB.out.trans ((Below.refl _ W).setCell (p := ⟨w.heap.size + 1 + 1 + 1 + 1, 0, none⟩) (by show _ ≤ w.heap.size + 1 + 1 + 1 + 1; omega) _))
    by_cases hxf : T < x.f
    · have HXF : Hid (N - x.o < x.f) := Lib.hid (by rw [← HT.out]; exact hxf)
      gi_wp2
      exact ⟨KeepsFrom.refl _ _, rfl, ⟨acc, HBA.out, fun rest => by rw [List.append_assoc, HA.out]; show resP late N acc (x :: rest) = _; rw [resP, if_pos HXF.out]⟩, HB.out⟩
    · have HXF : Hid (¬ N - x.o < x.f) := Lib.hid (by rw [← HT.out]; exact hxf)
      gi_upto_region 7 with fail
      obtain ⟨W7, hW7⟩ : ∃ W7, W7 = W.setCell ⟨w.heap.size + 1 + 1 + 1 + 1, 0, none⟩ (.int .i64 (if x.u < T then x.u else T)) := ⟨_, rfl⟩
      have hmin : (if x.u < T then x.u else T) = min T x.u := by split <;> omega
      have b7 : Boxed W7 (w.heap.size + 1 + 1 + 1 + 1) 3 (.int .i64 (min T x.u)) := by rw [hW7, ← hmin]; exact HBA.out.set _
      have d7 : Boxed W7 (w.heap.size + 1) 3 (.int .i64 day) := by rw [hW7]; exact HBD.out.other (by omega) _
      have m7 : Boxed W7 (w.heap.size + 1 + 1) 3 (.int .i64 minute) := by rw [hW7]; exact HBM.out.other (by omega) _
      have l7 : Boxed W7 (w.heap.size + 1 + 1 + 1) 4 (.bool late) := by rw [hW7]; exact HBL.out.other (by omega) _
      have hx7 : W7.heap[Bx]? = some (.cells (segC x) 58 (0, 0)) := by rw [hW7]; exact (heap_setCell_other _ _ _ _ (show Bx ≠ w.heap.size + 1 + 1 + 1 + 1 by have := HBX.out; omega)).trans HX.out
      have hb7 : Below w.heap.size w W7 := by rw [hW7]; exact HNEW.out _
      have hk7 : KeepsFrom W0.heap.size W W7 := by rw [hW7]; exact (KeepsOthers.setCell _ _ _).from _
      have hz7 : KZ w.heap.size W W7 := by rw [hW7]; exact KZ.setBox HBA.out (by decide) (by omega) _
      rw [← hW7]
      clear cD cM cL cA fA x0 x1 x2 hW7 hmin i1 i2 i4
      have cL := l7.cell
      have x1 : W7.cell? ⟨Bx, 1, none⟩ = some (.int .i64 x.u) := cell_of_row W7 Bx 1 _ _ _ hx7
      have HI7 : Hid (¬ (N - x.o < x.u ∧ late = false) → RI w day minute late N (pre ++ [x]) W7) := Lib.hid (fun hne => ⟨⟨min T x.u, b7, fun rest => by rw [List.append_assoc, HA.out]; show resP late N acc (x :: rest) = _; rw [resP_cont HXF.out hne, ← HT.out]⟩, ⟨d7, m7, l7⟩, hb7⟩)
      have HX7 : Hid ((N - x.o < x.u ∧ late = false) → RX w late N (.exit 0) (pre ++ [x]) W7) := Lib.hid (fun hne => ⟨rfl, ⟨min T x.u, b7, fun rest => by rw [List.append_assoc, HA.out]; show resP late N acc (x :: rest) = _; rw [resP_stop HXF.out hne, ← HT.out]⟩, hb7⟩)
      have HK7 := Lib.hid hk7
      have HZ7 := Lib.hid hz7
      clear b7 d7 m7 l7 hx7 hb7 hk7 hz7
      by_cases hxu : T < x.u
      · have HU : Hid (N - x.o < x.u) := Lib.hid (by rw [← HT.out]; exact hxu)
        cases late with
        | false =>
          gi_wp2
          exact ⟨HK7.out, HX7.out (by have := HU.out; simp; omega)⟩
        | true =>
          gi_wp2
          exact ⟨HK7.out, HZ7.out, HI7.out (by simp)⟩
      · have HU : Hid (¬ N - x.o < x.u) := Lib.hid (by rw [← HT.out]; exact hxu)
        gi_wp2
        all_goals exact ⟨HK7.out, HZ7.out, HI7.out (fun h => absurd h.1 (by have := HU.out; omega))⟩
  case done =>
    rintro D W hD ⟨⟨acc, bO, hacc⟩, bT, hB⟩ hK
    have hc := bO.cell
    have HE : Hid (resP late N 0 (segL minI o L) = acc) := Lib.hid (by have := hacc []; rwa [List.append_nil] at this)
    have HB := Lib.hid hB
    clear bO bT hacc hB
    gi_wp2
    refine ⟨by simp, .inl ⟨_, _, rfl, run_takeDeferred hK, ?_⟩⟩
    exact ⟨_, results_tmp rfl _ _ _, by rw [HE.out]; rfl, HB.out.trans (belowK_b (w := w) (Nat.le_refl _) W D _ _ (by have := HS0.out; omega) hK rfl rfl)⟩
  case stop =>
    rintro D j pre W hD ⟨rest, hrest⟩ ⟨rfl, ⟨acc, bO, hacc⟩, hB⟩ hK
    have hc := bO.cell
    have HE : Hid (resP late N 0 (segL minI o L) = acc) := Lib.hid (by rw [← hrest]; exact hacc rest)
    have HB := Lib.hid hB
    clear bO hacc hB hrest
    gi_wp2
    refine ⟨by simp, .inl ⟨_, _, rfl, run_takeDeferred hK, ?_⟩⟩
    exact ⟨_, results_tmp rfl _ _ _, by rw [HE.out]; rfl, HB.out.trans (belowK_b (w := w) (Nat.le_refl _) W D _ _ (by have := HS0.out; omega) hK rfl rfl)⟩
end Go.Proofs.YtcdjilnlmihnhaaDoor

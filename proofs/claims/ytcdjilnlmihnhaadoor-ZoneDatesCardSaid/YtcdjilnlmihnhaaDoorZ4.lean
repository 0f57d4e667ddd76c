/-
  The program's Offset over the segments of a zone (written by gen_Z4.py).
-/
import Derived.Test.YtcdjilnlmihnhaaDoorZ3
namespace Go.Proofs.YtcdjilnlmihnhaaDoor
open Go.RowKit Go.Shelf
set_option linter.unusedSimpArgs false
set_option linter.unusedVariables false
attribute [local go_sem] Oper.semAt_some
attribute [local go_sem ↓] exec_loadShift exec_storeShift exec_loadSeg exec_storeSeg exec_loadZone exec_storeZone
attribute [local go_sem] run_storeShift run_storeSeg run_storeZone
theorem box_stp {B b : Nat} {X Y : World} {t : TypeId} {v : Value} (h : Boxed X b t v) (hs : Stp B X Y) (ht : t ≠ 38 ∧ t ≠ 58) : Boxed Y b t v := hs.cells _ _ _ h ht.1 ht.2
theorem below_stp {B n : Nat} {w X Y : World} (h : Below n w X) (hs : Stp B X Y) (hn : n ≤ B) (hw : n ≤ w.heap.size) : Below n w Y := h.trans (hs.to_below hn (Nat.le_trans hw h.size))
theorem ZI.made {w : World} {D : Nat → Prop} {o : Int} {a : Option Addr} {n c : Nat} {L : List SM} (h : Ss D w a n c L) {W : World} {bz : Nat} (hb : Below w.heap.size w W) (hz : W.heap[bz]? = some (.cells #[.int .i64 o, .slice a n c] 25 (0, 0))) : ZI w.heap.size W bz o a n c L :=
  ⟨hz, (h.in.dom (fun b h => h.2)).below hb⟩
theorem seg_new {W : World} {x : SgM} : ((W.alloc (.cells #[.int .i64 0, .int .i64 0, .int .i64 0] 58)).setRow W.heap.size #[.int .i64 x.f, .int .i64 x.u, .int .i64 x.o]).heap[W.heap.size]? = some (.cells (segC x) 58 (0, 0)) := setRow_heap _ _ _ _ _ _ heap_newZ
theorem seg_below (W : World) (cs : Array Value) : Below W.heap.size W ((W.alloc (.cells #[.int .i64 0, .int .i64 0, .int .i64 0] 58)).setRow W.heap.size cs) := (((Kept.refl (fun _ => False) W).alloc _).setRow (fun h => by omega) _).below (Nat.le_refl _) (fun _ _ h => h)
/-- what a round of Offset finds, and what it leaves -/
def OI (w : World) (t : Int) (pre : List SgM) (W : World) : Prop := (∃ acc : Int, Boxed W (w.heap.size + 1 + 1) 3 (.int .i64 acc) ∧ ∀ rest, offP t 0 (pre ++ rest) = offP t acc rest) ∧ Boxed W (w.heap.size + 1) 3 (.int .i64 t) ∧ Below w.heap.size w W
def OX (w : World) (t : Int) (j : Code) (pre : List SgM) (W : World) : Prop := j = .exit 0 ∧ (∃ acc : Int, Boxed W (w.heap.size + 1 + 1) 3 (.int .i64 acc) ∧ ∀ rest, offP t 0 (pre ++ rest) = acc) ∧ Below w.heap.size w W
theorem OI.stp {w : World} {t : Int} {B : Nat} (hB : w.heap.size ≤ B) {s : List SgM} {X Y : World} (h : OI w t s X) (hs : Stp B X Y) : OI w t s Y := by
  obtain ⟨⟨acc, h1, h2⟩, h3, h4⟩ := h
  exact ⟨⟨acc, box_stp h1 hs (by decide), h2⟩, box_stp h3 hs (by decide), below_stp h4 hs hB (Nat.le_refl _)⟩
theorem OX.stp {w : World} {t : Int} {B : Nat} (hB : w.heap.size ≤ B) {j : Code} {s : List SgM} {X Y : World} (h : OX w t j s X) (hs : Stp B X Y) : OX w t j s Y := by
  obtain ⟨h0, ⟨acc, h1, h2⟩, h4⟩ := h
  exact ⟨h0, ⟨acc, box_stp h1 hs (by decide), h2⟩, below_stp h4 hs hB (Nat.le_refl _)⟩
theorem putObj_seg {X : World} {l b : Nat} {r r' : Loop} {cs : Array Value} {t : TypeId} (hl : X.heap[l]? = some (.loop r)) (h : X.heap[b]? = some (.cells cs t (0, 0))) : (X.putObj l (.loop r')).heap[b]? = some (.cells cs t (0, 0)) := by
  refine (World.putObj_heap_other ?_).trans h
  rintro rfl
  rw [hl] at h
  cases h
set_option maxRecDepth 100000 in
set_option maxHeartbeats 4000000 in
theorem offset_any {w : World} {D : Nat → Prop} {o t : Int} {a : Option Addr} {n c : Nat} {L : List SM} (h : Ss D w a n c L) :
    Calls Tryd.prog 11 #[zV o a n c, .int .i64 t] w fun e w' => e = .returned (.int .i64 (offP t 0 (segL minI o L))) ∧ Below w.heap.size w w' := by
  refine (callsIn_wide (n := 7)).1 ?_
  have hro : Fence.wide.round = none := rfl
  have hdd : ∀ k : Nat, (Fence.wide.depth.isSome = true → 1 ≤ k) := fun k h => by cases h
  have HS := Lib.hid h
  clear h
  obtain ⟨F, hF⟩ : ∃ F, F = Fence.wide := ⟨_, rfl⟩
  rw [← hF] at hro hdd ⊢
  have h18 : F.fn 11 := by rw [hF]; trivial
  have h33 : F.fn 22 := by rw [hF]; trivial
  have HW : Hid (∀ {m : Nat} {f : FuncId} {args : Array Value} {u : World} {R : Ending → World → Prop}, Calls Tryd.prog f args u R → CallsIn F m Tryd.prog f args u R) := Lib.hid (fun h => by rw [hF]; exact callsIn_wide.2 h)
  have HF := Lib.hid hF
  clear hF
  unfold zV
  refine callsIn_of_wp_marks Tryd.func11 rfl h18 ?_ hro
  simp only [Tryd.ntmps11, List.size_toArray, List.length_cons, List.length_nil, Nat.reduceAdd, Nat.reduceSub, Array.replicate_succ, Array.replicate_zero, List.push_toArray, List.append_toArray, List.nil_append, List.cons_append]
  have ldz : (loadZoneA (.pointer (some ⟨w.heap.size, 0, none⟩))).run Tryd.prog (((w.alloc (.cells #[.int .i64 o, .slice a n c] 25)).alloc (.cells #[.int .i64 t] 3)).alloc (.cells #[.int .i64 0] 3)) = .ok (.value (.agg #[.int .i64 o, .slice a n c])) _ := run_loadZone (heap_old (heap_old heap_newZ))
  gi_wp2_with ((try refine ⟨hdd _, ?_⟩); gi_at_call 22; refine (HW.out (segments_any _ _ _ _)).mono ?_; rintro e w' ⟨rfl, rfl⟩)
  have hB0 : Below w.heap.size w ((((w.alloc (.cells #[.int .i64 o, .slice a n c] 25)).alloc (.cells #[.int .i64 t] 3)).alloc (.cells #[.int .i64 0] 3)).alloc (.cells #[.int .i64 o, .slice a n c] 25)) := ((((Below.refl _ w).alloc (Nat.le_refl _) _).alloc (by simp) _).alloc (by simp; omega) _).alloc (by simp; omega) _
  have b1 : Boxed ((((w.alloc (.cells #[.int .i64 o, .slice a n c] 25)).alloc (.cells #[.int .i64 t] 3)).alloc (.cells #[.int .i64 0] 3)).alloc (.cells #[.int .i64 o, .slice a n c] 25)) (w.heap.size + 1) 3 (.int .i64 t) := heap_old (heap_old (heap_new (by simp)))
  have b2 : Boxed ((((w.alloc (.cells #[.int .i64 o, .slice a n c] 25)).alloc (.cells #[.int .i64 t] 3)).alloc (.cells #[.int .i64 0] 3)).alloc (.cells #[.int .i64 o, .slice a n c] 25)) (w.heap.size + 1 + 1) 3 (.int .i64 0) := heap_old (heap_new (by simp))
  have hz0 : ((((w.alloc (.cells #[.int .i64 o, .slice a n c] 25)).alloc (.cells #[.int .i64 t] 3)).alloc (.cells #[.int .i64 0] 3)).alloc (.cells #[.int .i64 o, .slice a n c] 25)).heap[w.heap.size + 1 + 1 + 1]? = some (.cells #[.int .i64 o, .slice a n c] 25 (0, 0)) := heap_new (by simp)
  obtain ⟨W0, hW0⟩ : ∃ W0, W0 = ((((w.alloc (.cells #[.int .i64 o, .slice a n c] 25)).alloc (.cells #[.int .i64 t] 3)).alloc (.cells #[.int .i64 0] 3)).alloc (.cells #[.int .i64 o, .slice a n c] 25)) := ⟨_, rfl⟩
  have hs0 : W0.heap.size = w.heap.size + 4 := by rw [hW0]; simp
  rw [← hW0] at hB0 b1 b2 hz0 ⊢
  have hF2 := HF.out
  subst hF2
  have HIS : Hid (∀ s X Y, OI w t s X → Stp W0.heap.size X Y → OI w t s Y) := Lib.hid (fun s X Y h hs => h.stp (by omega) hs)
  clear hW0 ldz
  refine range_segs rfl (ZI.made HS.out hB0 hz0) (by omega) (OI w t) (OX w t) HIS.out (fun j s X Y h hs => h.stp (by omega) hs) ⟨⟨0, b2, fun _ => rfl⟩, b1, hB0⟩
    (fun x a' W => ∃ Bx, w.heap.size + 1 + 1 < Bx ∧ W.heap[Bx]? = some (.cells (segC x) 58 (0, 0)) ∧ a' = { tmps := #[.agg #[.int .i64 o, .slice a n c], .int .i64 t, .pointer (some ⟨w.heap.size, 0, none⟩), .pointer (some ⟨w.heap.size + 1, 0, none⟩), .int .i64 0, .pointer (some ⟨w.heap.size + 1 + 1, 0, none⟩), .pointer (some ⟨Bx, 0, none⟩), .agg #[.int .i64 o, .slice a n c], .func (.func 31) #[] #[.pointer (some ⟨w.heap.size + 1 + 1 + 1, 0, none⟩)], .agg #[.int .i64 x.f, .int .i64 x.u, .int .i64 x.o], undef, undef, undef, undef, undef, undef, undef], defers := [] })
    (fun x a' X l r r' h hl hr => by obtain ⟨Bx, h1, h2, h3⟩ := h; exact ⟨Bx, h1, putObj_seg hr h2, h3⟩) ?assign ?body ?done ?stop
  case assign =>
    rintro l pre x W K hI hsz hK
    have p6 : SegB (W.alloc (.cells #[.int .i64 0, .int .i64 0, .int .i64 0] 58)) W.heap.size := ⟨_, _, _, heap_newZ⟩
    have HI := Lib.hid hI
    have HSZ := Lib.hid hsz
    have HK := Lib.hid hK
    clear hI hsz hK
    unfold segV
    simp only [List.setIfInBounds_toArray, List.set_cons_succ, List.set_cons_zero]
    gi_wp2
    have hb := seg_below W #[.int .i64 x.f, .int .i64 x.u, .int .i64 x.o]
    exact HK.out _ _ ((keeps_below hb).from _) (KZ.of hb (by have := HSZ.out; omega)) (HIS.out _ _ _ HI.out (Stp.below hb)) ⟨W.heap.size, by have := HSZ.out; omega, seg_new, rfl⟩
  case body =>
    rintro l pre x a' W hl ⟨⟨acc, bO, hacc⟩, bT, hB⟩ ⟨Bx, hBx, hx, rfl⟩ hlt
    have cT := bT.cell
    have cO := bO.cell
    have fO := bO.frozen
    have x0 : W.cell? ⟨Bx, 0, none⟩ = some (.int .i64 x.f) := cell_of_row W Bx 0 _ _ _ hx
    have x2 : W.cell? ⟨Bx, 2, none⟩ = some (.int .i64 x.o) := cell_of_row W Bx 2 _ _ _ hx
    have HB := Lib.hid hB
    have HA := Lib.hid hacc
    have HO := Lib.hid bO
    have HT := Lib.hid bT
    clear hB hacc bO bT hx hlt
    by_cases hxf : t < x.f
    · gi_wp2
      exact ⟨KeepsFrom.refl _ _, rfl, ⟨acc, HO.out, fun rest => by rw [List.append_assoc, HA.out]; show offP t acc (x :: rest) = _; rw [offP, if_pos hxf]⟩, HB.out⟩
    · gi_wp2
      exact ⟨(KeepsOthers.setCell _ _ _).from _, KZ.setBox HO.out (by decide) (by omega) _, ⟨x.o, HO.out.set _, fun rest => by rw [List.append_assoc, HA.out]; show offP t acc (x :: rest) = _; rw [offP, if_neg (by omega)]⟩, HT.out.other (by omega) _, HB.out.trans ((Below.refl _ W).setCell (p := ⟨w.heap.size + 1 + 1, 0, none⟩) (by show _ ≤ w.heap.size + 1 + 1; omega) _)⟩
  case done =>
    rintro D W hD ⟨⟨acc, bO, hacc⟩, bT, hB⟩ hK
    have hc := bO.cell
    have HE : Hid (offP t 0 (segL minI o L) = acc) := Lib.hid (by have := hacc []; rwa [List.append_nil] at this)
    have HB := Lib.hid hB
    clear bO bT hacc hB
    gi_wp2
    refine ⟨by simp, .inl ⟨_, _, rfl, run_takeDeferred hK, ?_⟩⟩
    exact ⟨_, results_tmp rfl _ _ _, by rw [HE.out]; rfl, HB.out.trans (belowK_b (w := w) (Nat.le_refl _) W D _ _ (by omega) hK rfl rfl)⟩
  case stop =>
    rintro D j pre W hD ⟨rest, hrest⟩ ⟨rfl, ⟨acc, bO, hacc⟩, hB⟩ hK
    have hc := bO.cell
    have HE : Hid (offP t 0 (segL minI o L) = acc) := Lib.hid (by rw [← hrest]; exact hacc rest)
    have HB := Lib.hid hB
    clear bO hacc hB hrest
    gi_wp2
    refine ⟨by simp, .inl ⟨_, _, rfl, run_takeDeferred hK, ?_⟩⟩
    exact ⟨_, results_tmp rfl _ _ _, by rw [HE.out]; rfl, HB.out.trans (belowK_b (w := w) (Nat.le_refl _) W D _ _ (by omega) hK rfl rfl)⟩
end Go.Proofs.YtcdjilnlmihnhaaDoor

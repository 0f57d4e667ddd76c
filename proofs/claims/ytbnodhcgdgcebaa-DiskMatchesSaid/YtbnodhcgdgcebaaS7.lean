/-
  What survives of a sector.
-/
import Derived.Test.YtbnodhcgdgcebaaS6
namespace Go.Proofs.Ytbnodhcgdgcebaa
open Go.RowKit
set_option linter.unusedSimpArgs false
set_option linter.unusedVariables false
theorem range_row {w : World} {g : Nat} {l : List Value} {t : TypeId} (h : w.heap[g]? = some (.cells l.toArray t (0, 0))) : w.rangeAt g 0 l := by
  intro j v hv
  rw [Nat.zero_add, cell_of_row w g j _ _ _ h]
  simpa using hv
/-- max(x, 0) -/
theorem wpList_max0 {P : Program} {ops : Array Oper} {rest : List Oper} {o : Oper} {a : Act} {w : World} {Q : Exit → Act → World → Prop} (hgd : o.guard = none) (x : Operand) (t1 t2 : TypeId)
    (ho : o.op = .call { callee := .builtin .max, args := #[x, .const (.int .i64 0)], argTypes := #[t1, t2] }) (n r : Int) (hx : a.eval x = .int .i64 n) (hr0 : max n 0 = r)
    (h : wpList P ops Q rest (a.put o.dst (.int .i64 r)) w) : wpList P ops Q (o :: rest) a w := by
  have hr : (Builtin.max_ #[t1, t2] o.type #[.int .i64 n, .int .i64 0]).run P w = .ok (.int .i64 r) w := by
    subst hr0
    by_cases hn : n < 0
    · have e : max n 0 = 0 := by omega
      rw [e]
      simp [Builtin.max_, Builtin.max2, hn, Result.andThen]
    · have e : max n 0 = n := by omega
      rw [e]
      simp [Builtin.max_, Builtin.max2, hn, Result.andThen]
  refine wpList_plain hgd fun K hK => ?_
  unfold Oper.wp execOp
  simp only [ho, resolve, invoke, builtin, Sem.run_bind, Sem.run_pure, Result.andThen_ok, List.map_toArray, List.map_cons, List.map_nil, hx, show ∀ v, a.eval (.const v) = v from fun _ => rfl, hr]
  exact hK _ _ h
/-- min(x, y) -/
theorem wpList_min2 {P : Program} {ops : Array Oper} {rest : List Oper} {o : Oper} {a : Act} {w : World} {Q : Exit → Act → World → Prop} (hgd : o.guard = none) (x y : Operand) (t1 t2 : TypeId)
    (ho : o.op = .call { callee := .builtin .min, args := #[x, y], argTypes := #[t1, t2] }) (n m r : Int) (hx : a.eval x = .int .i64 n) (hy : a.eval y = .int .i64 m) (hr0 : min n m = r)
    (h : wpList P ops Q rest (a.put o.dst (.int .i64 r)) w) : wpList P ops Q (o :: rest) a w := by
  have hr : (Builtin.min_ #[t1, t2] o.type #[.int .i64 n, .int .i64 m]).run P w = .ok (.int .i64 r) w := by
    subst hr0
    by_cases hn : m < n
    · have e : min n m = m := by omega
      rw [e]
      simp [Builtin.min_, Builtin.min2, hn, Result.andThen]
    · have e : min n m = n := by omega
      rw [e]
      simp [Builtin.min_, Builtin.min2, hn, Result.andThen]
  refine wpList_plain hgd fun K hK => ?_
  unfold Oper.wp execOp
  simp only [ho, resolve, invoke, builtin, Sem.run_bind, Sem.run_pure, Result.andThen_ok, List.map_toArray, List.map_cons, List.map_nil, hx, hy, hr]
  exact hK _ _ h
def Dsva : List (Option Tmp) := [some 32, some 33, some 34, some 35, some 36, some 37, some 38, some 39]
def Lsva : List (List Nat) := [[], [0], [], [], [2, 3], [], [4, 5], [1, 6]]
def Dsvb : List (Option Tmp) := [some 32, some 33, some 34, some 35, some 36, some 37, some 38, some 39]
def Lsvb : List (List Nat) := [[], [0], [], [], [2, 3], [], [4, 5], [1, 6]]
set_option maxRecDepth 100000 in
set_option maxHeartbeats 2000000 in
theorem survivor_a (w : World) (old : List UInt8) (hold : old.length = 64) (gk m c wh : Nat) (ts tw tb : Int) (hmc : m ≤ c) (hc2 : c ≤ 9223372036854775807) (tl : List (List UInt8)) (hm : tl.length = m) (h64 : ∀ b ∈ tl, b.length = 64) (hgk : gk < w.heap.size)
    (hrd : ∀ (i : Nat) (hi : i < tl.length), w.rangeAt gk (i * 64) (vals tl[i])) (W : Nat) (hmx : max tw 0 = (W : Int)) (hmn : min (W : Int) (m : Int) = (wh : Int)) (hw0 : wh = 0) (hm1 : 0 < m) :
    Calls Try.prog 53 #[.agg (vals old).toArray, .slice (some ⟨gk, 0, none⟩) m c, .agg #[.int .i64 ts, .int .i64 tw, .int .i64 tb]] w fun e w' => e = .returned (.agg (vals ((tl.getD wh []).take (min tb.toNat 64) ++ (old).drop (min tb.toNat 64))).toArray) ∧ Below w.heap.size w w' := by
  obtain ⟨w4, hw4⟩ : ∃ w4, w4 = ((((w.alloc (.cells (vals old).toArray 94)).alloc (.cells #[.int .i64 ts, .int .i64 tw, .int .i64 tb] 67)).alloc (.cells Z64 94)).alloc (.cells Z64 94)).setRow (w.heap.size + 1 + 1 + 1) (vals old).toArray := ⟨_, rfl⟩
  have hb4 : Below w.heap.size w w4 := by
    rw [hw4]
    exact below_setRow (((((Below.refl _ _).alloc (Nat.le_refl _) _).alloc (by simp only [size_alloc1]; omega) _).alloc (by simp only [size_alloc1]; omega) _).alloc (by simp only [size_alloc1]; omega) _) (by omega) _
  have h4s : w4.heap[w.heap.size + 1 + 1 + 1]? = some (.cells (vals old).toArray 94 (0, 0)) := by rw [hw4]; exact setRow_heap _ _ _ _ _ _ (heap_new (by simp only [size_alloc1]))
  have h46 : w4.heap[w.heap.size + 1 + 1]? = some (.cells Z64 94 (0, 0)) := by rw [hw4, setRow_other _ _ _ _ (by omega)]; exact heap_old (heap_new (by simp only [size_alloc1]))
  have h41 : w4.heap[w.heap.size + 1]? = some (.cells #[.int .i64 ts, .int .i64 tw, .int .i64 tb] 67 (0, 0)) := by rw [hw4, setRow_other _ _ _ _ (by omega)]; exact heap_old (heap_old (heap_new (by simp only [size_alloc1])))
  have c41 : w4.cell? ⟨w.heap.size + 1, 2, none⟩ = some (.int .i64 tb) := by rw [cell_of_row _ _ _ _ _ _ h41]; rfl
  have Hw4 := Lib.hid hw4
  have Hb4 := Lib.hid hb4
  have H4s := Lib.hid h4s
  have H46 := Lib.hid h46
  have Hold := Lib.hid hold
  clear hw4 hb4 h4s h46 h41 hold
  have hwm : (wh : Int) < (m : Int) := by omega
  have hbw0 : wh < tl.length := by omega
  obtain ⟨bw, hbw⟩ : ∃ bw, bw = tl.getD wh [] := ⟨_, rfl⟩
  have hbw2 : tl[wh] = bw := by rw [hbw, List.getD_eq_getElem?_getD, List.getElem?_eq_getElem hbw0]; rfl
  have Hbr0 := hrd wh hbw0
  rw [hbw2] at Hbr0
  have Hbw : Hid (bw.length = 64) := Lib.hid (by rw [← hbw2]; exact h64 _ (List.getElem_mem _))
  obtain ⟨tn, htn⟩ : ∃ tn, tn = min tb.toNat 64 := ⟨_, rfl⟩
  obtain ⟨Y, hY⟩ : ∃ Y, Y = tb.toNat := ⟨_, rfl⟩
  have hmx2 : max tb 0 = (Y : Int) := by omega
  have hmn2 : min (Y : Int) 64 = (tn : Int) := by omega
  have htn2 : tn ≤ 64 := by omega
  have htn3 : (tn : Int) ≤ 64 := by omega
  have Htn := Lib.hid htn2
  have Hgk4 : Hid (gk < w4.heap.size) := Lib.hid (Nat.lt_of_lt_of_le hgk Hb4.out.size)
  obtain ⟨sB, hsB⟩ : ∃ sB, sB = old := ⟨_, rfl⟩
  have Hsb : Hid (sB.length = 64) := Lib.hid (by rw [hsB]; exact Hold.out)
  obtain ⟨w5, hw5⟩ : ∃ w5, w5 = w4 := ⟨_, rfl⟩
  have Hb5 : Hid (Below w.heap.size w w5) := Lib.hid (by rw [hw5]; exact Hb4.out)
  have Hgs : Hid (w5.heap[w.heap.size + 1 + 1 + 1]? = some (.cells (vals sB).toArray 94 (0, 0))) := Lib.hid (by rw [hw5, hsB]; exact H4s.out)
  have Hg6 : Hid (w5.heap[w.heap.size + 1 + 1]? = some (.cells Z64 94 (0, 0))) := Lib.hid (by rw [hw5]; exact H46.out)
  have Hw5 := Lib.hid hw5
  have hw0' : (wh : Int) ≤ 0 := by omega
  clear hw5 hw0
  have HRES : Hid ((vals (bw.take tn ++ sB.drop tn)).toArray = (vals ((tl.getD wh []).take (min tb.toNat 64) ++ (old).drop (min tb.toNat 64))).toArray) := Lib.hid (by rw [hbw, htn, hsB])
  have HR64 : Hid ((bw.take tn ++ sB.drop tn).length = 64) := Lib.hid (by rw [List.length_append, List.length_take, List.length_drop, Hbw.out, Hsb.out]; omega)
  have HNW : Hid (((vals sB).toArray.toList.take 0 ++ vals (bw.take tn) ++ (vals sB).toArray.toList.drop (0 + (vals (bw.take tn)).length)).toArray = (vals (bw.take tn ++ sB.drop tn)).toArray) := Lib.hid (by
    rw [vals_app, vals_len, List.length_take, Hbw.out, Nat.min_eq_left htn2]; simp [vals, List.map_drop])
  have Hbr : Hid (w5.rangeAt gk (wh * 64) (vals bw)) := Lib.hid (fun j v hv => (Hb5.out.cell (p := ⟨gk, wh * 64 + j, none⟩) hgk).trans (Hbr0 j v hv))
  have Hgk : Hid (gk < w5.heap.size) := Lib.hid (Nat.lt_of_lt_of_le hgk Hb5.out.size)
  obtain ⟨g6, hg6⟩ : ∃ g6, g6 = w.heap.size + 1 + 1 := ⟨_, rfl⟩
  obtain ⟨gs, hgs⟩ : ∃ gs, gs = w.heap.size + 1 + 1 + 1 := ⟨_, rfl⟩
  have H6 : Hid (w.heap.size ≤ g6) := Lib.hid (by omega)
  have H7 : Hid (g6 + 1 = gs ∧ w.heap.size ≤ gs) := Lib.hid (by omega)
  rw [← hgs] at Hgs
  rw [← hg6] at Hg6
  have Hgs1 := Lib.hid hgs
  have Hg61 := Lib.hid hg6
  obtain ⟨RV, hRV⟩ : ∃ RV, RV = (vals (bw.take tn ++ sB.drop tn)).toArray := ⟨_, rfl⟩
  rw [← HRES.out, ← hRV]
  have HRV := Lib.hid hRV
  clear hRV HRES hY hbw2 hbw htn hg6 hgs hsB hrd h64 hm Hbr0 hgk
  go_enter Try.func53, Try.ntmps53
  go_upto_region 3 with (first
    | (refine wpList_max0 rfl (.tmp 11) 3 3 rfl tw (W : Int) rfl hmx ?_)
    | (refine wpList_min2 rfl (.tmp 12) (.tmp 14) 3 3 rfl (W : Int) (m : Int) (wh : Int) rfl rfl hmn ?_)
    | (refine wpList_alloc_z rfl 94 rfl Z64 94 run_alloc94 ?_)
    | (refine wpList_load_mid rfl 94 (.tmp 3) rfl w.heap.size 0 rfl (vals old) _ (range_row (heap_old (heap_old (heap_new rfl)))) Try.underlying94 rfl (size64v Hold.out) ?_)
    | (refine wpList_store_row rfl 94 (.tmp 8) (.tmp 16) rfl _ _ rfl rfl 94 Z64 (heap_new rfl) (size64a Hold.out) (by rw [cells64, List.size_toArray, vals_len, Hold.out]) (one64 _) ?_; simp only [size_alloc1]))
  rw [← Hw4.out]
  go_upto_region 7 with (first | (refine wpList_max0 rfl (.tmp 29) 3 3 rfl tb (Y : Int) rfl hmx2 ?_) | (refine wpList_min2 rfl (.tmp 30) (.const (.int .i64 64)) 3 3 rfl (Y : Int) 64 (tn : Int) rfl rfl hmn2 ?_))
  rw [← Hw5.out]
  rw [← Hgs1.out, ← Hg61.out]
  refine Roll.region_w 8 41 Dsva Lsva [(1, .slice (some ⟨gk, 0, none⟩) m c), (7, .int .i64 (wh : Int)), (8, .pointer (some ⟨gs, 0, none⟩)), (9, .int .i64 (tn : Int))] 7 [true, true, true, true, true, true, true, false] (fun p => Kept (fun _ => False) w5 p) (fun vv p => p.heap[gs]? = some (.cells (vals (bw.take tn ++ sB.drop tn)).toArray 94 (0, 0)) ∧ Kept (fun j => j = gs) w5 p) (fun p => Kept (fun j => j = gs) w5 p) (fun p p2 => Kept (fun j => j = gs) p p2) [fun vv p => (vv 0) = .int .i64 (tn : Int), fun vv p => (vv 1) = .slice (some ⟨gs, 0, none⟩) tn 64, fun vv p => (vv 2) = .slice (some ⟨gk, 0, none⟩) m c, fun vv p => (vv 3) = .int .i64 (wh : Int), fun vv p => (vv 4) = .pointer (some ⟨gk, wh * 64, none⟩), fun vv p => (vv 5) = .int .i64 (tn : Int), fun vv p => (vv 6) = .slice (some ⟨gk, wh * 64, none⟩) tn 64, fun vv p => True] (by kernel_rfl) (by kernel_rfl) rfl ⟨rfl, rfl, rfl, rfl, trivial⟩ ((Kept.refl _ _).drew) (by decide) (by kernel_rfl) (fun _ h => h.mono (fun _ _ h => h.elim)) (fun _ _ h => h.2) (fun _ => Kept.refl _ _) ?_ ?_ ?_
  · exact ⟨fun _ _ _ _ h => h, fun _ _ _ _ h => h, fun _ _ _ _ h => h, fun _ _ _ _ h => h, fun _ _ _ _ h => h, fun _ _ _ _ h => h, fun _ _ _ _ h => h, fun _ _ _ _ h => h, trivial⟩
  · intro b0 hN hlv
    refine ⟨?_, ?_, ?_, ?_, ?_, ?_, ?_, ?_, trivial⟩
    · intro vs p hI0 hp
      have hI := Roll.inw_pure (by decide) rfl hI0
      clear hI0
      have e9 : (Roll.putD Dsva vs [] b0).eval (.tmp 9) = .int .i64 (tn : Int) := (Roll.eval_old rfl).trans (hlv.at 3 (9, .int .i64 (tn : Int)) rfl)
      clear hp hlv hN
      unfold Roll.Goes
      simp only [Lsva, List.getD_cons_zero, List.getD_cons_succ]
      generalize Roll.putD Dsva vs [] b0 = a1 at *
      refine Roll.goes_val (w' := p) (.int .i64 (tn : Int)) rfl ?_ ⟨(Roll.outw_pure (by decide) rfl), rfl⟩
      (have ec : ∀ x, a1.eval (.const x) = x := fun _ => rfl); (have ef : ∀ x, a1.eval (.func x) = .func (.func x) #[] #[] := fun _ => rfl); generalize a1.eval = ρ at *
      skip
      go_simp <;> (intros; first | (exfalso; omega) | rfl)
    · intro vs p hI0 hp
      have hI := Roll.inw_pure (by decide) rfl hI0
      clear hI0
      have h0 : (vs 0) = .int .i64 (tn : Int) := hp 0 (by simp [Lsva])
      have e8 : (Roll.putD Dsva vs [0] b0).eval (.tmp 8) = .pointer (some ⟨gs, 0, none⟩) := (Roll.eval_old rfl).trans (hlv.at 2 (8, .pointer (some ⟨gs, 0, none⟩)) rfl)
      have e32 : (Roll.putD Dsva vs [0] b0).eval (.tmp 32) = .int .i64 (tn : Int) := (Roll.eval_new 0 rfl (by decide) (by decide) (by omega)).trans h0
      clear hp hlv hN
      unfold Roll.Goes
      simp only [Lsva, List.getD_cons_zero, List.getD_cons_succ]
      generalize Roll.putD Dsva vs [0] b0 = a1 at *
      refine Roll.goes_val (w' := p) (.slice (some ⟨gs, 0, none⟩) tn 64) rfl ?_ ⟨(Roll.outw_pure (by decide) rfl), rfl⟩
      (have ec : ∀ x, a1.eval (.const x) = x := fun _ => rfl); (have ef : ∀ x, a1.eval (.func x) = .func (.func x) #[] #[] := fun _ => rfl); generalize a1.eval = ρ at *
      clear h0
      go_simp <;> (intros; first | (exfalso; omega) | rfl)
    · intro vs p hI0 hp
      have hI := Roll.inw_pure (by decide) rfl hI0
      clear hI0
      have e1 : (Roll.putD Dsva vs [] b0).eval (.tmp 1) = .slice (some ⟨gk, 0, none⟩) m c := (Roll.eval_old rfl).trans (hlv.at 0 (1, .slice (some ⟨gk, 0, none⟩) m c) rfl)
      clear hp hlv hN
      unfold Roll.Goes
      simp only [Lsva, List.getD_cons_zero, List.getD_cons_succ]
      generalize Roll.putD Dsva vs [] b0 = a1 at *
      refine Roll.goes_val (w' := p) (.slice (some ⟨gk, 0, none⟩) m c) rfl ?_ ⟨(Roll.outw_pure (by decide) rfl), rfl⟩
      (have ec : ∀ x, a1.eval (.const x) = x := fun _ => rfl); (have ef : ∀ x, a1.eval (.func x) = .func (.func x) #[] #[] := fun _ => rfl); generalize a1.eval = ρ at *
      skip
      go_simp <;> (intros; first | (exfalso; omega) | rfl)
    · intro vs p hI0 hp
      have hI := Roll.inw_pure (by decide) rfl hI0
      clear hI0
      have e7 : (Roll.putD Dsva vs [] b0).eval (.tmp 7) = .int .i64 (wh : Int) := (Roll.eval_old rfl).trans (hlv.at 1 (7, .int .i64 (wh : Int)) rfl)
      clear hp hlv hN
      unfold Roll.Goes
      simp only [Lsva, List.getD_cons_zero, List.getD_cons_succ]
      generalize Roll.putD Dsva vs [] b0 = a1 at *
      refine Roll.goes_val (w' := p) (.int .i64 (wh : Int)) rfl ?_ ⟨(Roll.outw_pure (by decide) rfl), rfl⟩
      (have ec : ∀ x, a1.eval (.const x) = x := fun _ => rfl); (have ef : ∀ x, a1.eval (.func x) = .func (.func x) #[] #[] := fun _ => rfl); generalize a1.eval = ρ at *
      skip
      go_simp <;> (intros; first | (exfalso; omega) | rfl)
    · intro vs p hI0 hp
      have hI := Roll.inw_pure (by decide) rfl hI0
      clear hI0
      have h2 : (vs 2) = .slice (some ⟨gk, 0, none⟩) m c := hp 2 (by simp [Lsva])
      have h3 : (vs 3) = .int .i64 (wh : Int) := hp 3 (by simp [Lsva])
      have e34 : (Roll.putD Dsva vs [2, 3] b0).eval (.tmp 34) = .slice (some ⟨gk, 0, none⟩) m c := (Roll.eval_new 2 rfl (by decide) (by decide) (by omega)).trans h2
      have e35 : (Roll.putD Dsva vs [2, 3] b0).eval (.tmp 35) = .int .i64 (wh : Int) := (Roll.eval_new 3 rfl (by decide) (by decide) (by omega)).trans h3
      clear hp hlv hN
      unfold Roll.Goes
      simp only [Lsva, List.getD_cons_zero, List.getD_cons_succ]
      generalize Roll.putD Dsva vs [2, 3] b0 = a1 at *
      refine Roll.goes_val (w' := p) (.pointer (some ⟨gk, wh * 64, none⟩)) rfl ?_ ⟨(Roll.outw_pure (by decide) rfl), rfl⟩
      (have ec : ∀ x, a1.eval (.const x) = x := fun _ => rfl); (have ef : ∀ x, a1.eval (.func x) = .func (.func x) #[] #[] := fun _ => rfl); generalize a1.eval = ρ at *
      clear h2 h3
      go_simp <;> (intros; first | (exfalso; omega) | rfl)
    · intro vs p hI0 hp
      have hI := Roll.inw_pure (by decide) rfl hI0
      clear hI0
      have e9 : (Roll.putD Dsva vs [] b0).eval (.tmp 9) = .int .i64 (tn : Int) := (Roll.eval_old rfl).trans (hlv.at 3 (9, .int .i64 (tn : Int)) rfl)
      clear hp hlv hN
      unfold Roll.Goes
      simp only [Lsva, List.getD_cons_zero, List.getD_cons_succ]
      generalize Roll.putD Dsva vs [] b0 = a1 at *
      refine Roll.goes_val (w' := p) (.int .i64 (tn : Int)) rfl ?_ ⟨(Roll.outw_pure (by decide) rfl), rfl⟩
      (have ec : ∀ x, a1.eval (.const x) = x := fun _ => rfl); (have ef : ∀ x, a1.eval (.func x) = .func (.func x) #[] #[] := fun _ => rfl); generalize a1.eval = ρ at *
      skip
      go_simp <;> (intros; first | (exfalso; omega) | rfl)
    · intro vs p hI0 hp
      have hI := Roll.inw_pure (by decide) rfl hI0
      clear hI0
      have h4 : (vs 4) = .pointer (some ⟨gk, wh * 64, none⟩) := hp 4 (by simp [Lsva])
      have h5 : (vs 5) = .int .i64 (tn : Int) := hp 5 (by simp [Lsva])
      have e36 : (Roll.putD Dsva vs [4, 5] b0).eval (.tmp 36) = .pointer (some ⟨gk, wh * 64, none⟩) := (Roll.eval_new 4 rfl (by decide) (by decide) (by omega)).trans h4
      have e37 : (Roll.putD Dsva vs [4, 5] b0).eval (.tmp 37) = .int .i64 (tn : Int) := (Roll.eval_new 5 rfl (by decide) (by decide) (by omega)).trans h5
      clear hp hlv hN
      unfold Roll.Goes
      simp only [Lsva, List.getD_cons_zero, List.getD_cons_succ]
      generalize Roll.putD Dsva vs [4, 5] b0 = a1 at *
      refine Roll.goes_val (w' := p) (.slice (some ⟨gk, wh * 64, none⟩) tn 64) rfl ?_ ⟨(Roll.outw_pure (by decide) rfl), rfl⟩
      (have ec : ∀ x, a1.eval (.const x) = x := fun _ => rfl); (have ef : ∀ x, a1.eval (.func x) = .func (.func x) #[] #[] := fun _ => rfl); generalize a1.eval = ρ at *
      clear h4 h5
      go_simp <;> (intros; first | (exfalso; omega) | rfl)
    · intro vs p hI0 hp
      have hI := Roll.inw_k0 rfl hI0
      clear hI0
      have h1 : (vs 1) = .slice (some ⟨gs, 0, none⟩) tn 64 := hp 1 (by simp [Lsva])
      have h6 : (vs 6) = .slice (some ⟨gk, wh * 64, none⟩) tn 64 := hp 6 (by simp [Lsva])
      have e33 : (Roll.putD Dsva vs [1, 6] b0).eval (.tmp 33) = .slice (some ⟨gs, 0, none⟩) tn 64 := (Roll.eval_new 1 rfl (by decide) (by decide) (by omega)).trans h1
      have e38 : (Roll.putD Dsva vs [1, 6] b0).eval (.tmp 38) = .slice (some ⟨gk, wh * 64, none⟩) tn 64 := (Roll.eval_new 6 rfl (by decide) (by decide) (by omega)).trans h6
      clear hp hlv hN
      unfold Roll.Goes
      simp only [Lsva, List.getD_cons_zero, List.getD_cons_succ]
      generalize Roll.putD Dsva vs [1, 6] b0 = a1 at *
      have hg : p.heap[gs]? = some (.cells (vals sB).toArray 94 (0, 0)) := hI.heap Hgs.out (fun h => h)
      have hrun := run_copy_row (P := Try.prog) p 32 32 3 5 gs 0 tn 64 ⟨gk, wh * 64, none⟩ tn 64 (vals sB).toArray 94 (vals (bw.take tn)) Try.underlying32 (by kernel_rfl) hg (by rw [vals_len, List.length_take, Hbw.out]; have := Htn.out; simp; omega) (fun j v hv => by
        rw [Addr.add_mid]
        refine (hI.cell (p := ⟨gk, wh * 64 + j, none⟩) Hgk.out (fun h => h)).trans (Hbr.out j v ?_)
        rw [show vals (bw.take tn) = (vals bw).take tn by simp [vals, List.map_take], List.getElem?_take] at hv
        split at hv
        · exact hv
        · cases hv) (by rw [vals_len, List.length_take, List.size_toArray, vals_len, Hsb.out]; omega) (vals_one _)
      rw [HNW.out] at hrun
      have hks : Kept (fun j => j = gs) p (p.setRow gs (vals (bw.take tn ++ sB.drop tn)).toArray) := (Kept.refl (fun j => j = gs) p).setRow (fun _ => rfl) _
      refine Roll.goes_val (w' := p.setRow gs (vals (bw.take tn ++ sB.drop tn)).toArray) (goInt (vals (bw.take tn)).length) rfl ?_ ⟨Roll.outw_k0 rfl ⟨setRow_heap p gs _ _ _ _ hg, (hI.mono (fun _ _ h => h.elim)).trans hks (fun _ _ h => h)⟩ hks, trivial⟩
      unfold execOp
      simp only [resolve, invoke, builtin, Sem.run_bind, Sem.run_pure, Result.andThen_ok, List.map_toArray, List.map_cons, List.map_nil, e33, e38, hrun]
  · intro vs p hI hR
    have h0 : (vs 0) = .int .i64 (tn : Int) := hR 0 (by omega)
    have h1 : (vs 1) = .slice (some ⟨gs, 0, none⟩) tn 64 := hR 1 (by omega)
    have h2 : (vs 2) = .slice (some ⟨gk, 0, none⟩) m c := hR 2 (by omega)
    have h3 : (vs 3) = .int .i64 (wh : Int) := hR 3 (by omega)
    have h4 : (vs 4) = .pointer (some ⟨gk, wh * 64, none⟩) := hR 4 (by omega)
    have h5 : (vs 5) = .int .i64 (tn : Int) := hR 5 (by omega)
    have h6 : (vs 6) = .slice (some ⟨gk, wh * 64, none⟩) tn 64 := hR 6 (by omega)
    have h7 : True := hR 7 (by omega)
    clear hR
    simp only [List.range_succ, List.range_zero, List.nil_append, List.cons_append, Roll.putD, Act.put, List.getD_cons_zero, List.getD_cons_succ, List.setIfInBounds_toArray, List.set_cons_zero, List.set_cons_succ, List.drop_succ_cons, List.drop_zero, Dsva]
    simp only [h0, h1, h2, h3, h4, h5, h6]
    clear h0 h1 h2 h3 h4 h5 h6
    obtain ⟨hg, hK⟩ := hI
    have HGS := Lib.hid hg
    have HG6 := Lib.hid (hK.heap Hg6.out (by have := H7.out; omega))
    have HBB : Hid (Below w.heap.size w p) := Lib.hid (Hb5.out.trans (hK.below Hb5.out.size (fun j hj e => by have := H7.out; omega)))
    clear hg hK h7
    go_wp2_with (first
      | (refine wpList_load_row rfl 94 (.tmp 8) rfl gs rfl 94 _ (0, 0) _ HGS.out Try.underlying94 rfl (size64a HR64.out) ?_)
      | (refine wpList_store_row rfl 94 (.tmp 6) (.tmp 40) rfl g6 _ rfl rfl 94 Z64 HG6.out (size64a HR64.out) (by rw [cells64, List.size_toArray, vals_len, HR64.out]) (one64 _) ?_))
    refine bodyPost_ret (results_cell_row rfl _ _ g6 94 _ (0, 0) _ rfl (setRow_heap _ _ _ _ _ _ HG6.out) Try.underlying94 rfl (size64a HR64.out)) rfl ⟨by rw [HRV.out], below_setRow HBB.out H6.out _⟩
set_option maxRecDepth 100000 in
set_option maxHeartbeats 2000000 in
theorem survivor_b (w : World) (old : List UInt8) (hold : old.length = 64) (gk m c wh : Nat) (ts tw tb : Int) (hmc : m ≤ c) (hc2 : c ≤ 9223372036854775807) (tl : List (List UInt8)) (hm : tl.length = m) (h64 : ∀ b ∈ tl, b.length = 64) (hgk : gk < w.heap.size)
    (hrd : ∀ (i : Nat) (hi : i < tl.length), w.rangeAt gk (i * 64) (vals tl[i])) (W : Nat) (hmx : max tw 0 = (W : Int)) (hmn : min (W : Int) (m : Int) = (wh : Int)) (hw0 : 0 < wh) (hw1 : wh < m) :
    Calls Try.prog 53 #[.agg (vals old).toArray, .slice (some ⟨gk, 0, none⟩) m c, .agg #[.int .i64 ts, .int .i64 tw, .int .i64 tb]] w fun e w' => e = .returned (.agg (vals ((tl.getD wh []).take (min tb.toNat 64) ++ (tl.getD (wh - 1) []).drop (min tb.toNat 64))).toArray) ∧ Below w.heap.size w w' := by
  obtain ⟨w4, hw4⟩ : ∃ w4, w4 = ((((w.alloc (.cells (vals old).toArray 94)).alloc (.cells #[.int .i64 ts, .int .i64 tw, .int .i64 tb] 67)).alloc (.cells Z64 94)).alloc (.cells Z64 94)).setRow (w.heap.size + 1 + 1 + 1) (vals old).toArray := ⟨_, rfl⟩
  have hb4 : Below w.heap.size w w4 := by
    rw [hw4]
    exact below_setRow (((((Below.refl _ _).alloc (Nat.le_refl _) _).alloc (by simp only [size_alloc1]; omega) _).alloc (by simp only [size_alloc1]; omega) _).alloc (by simp only [size_alloc1]; omega) _) (by omega) _
  have h4s : w4.heap[w.heap.size + 1 + 1 + 1]? = some (.cells (vals old).toArray 94 (0, 0)) := by rw [hw4]; exact setRow_heap _ _ _ _ _ _ (heap_new (by simp only [size_alloc1]))
  have h46 : w4.heap[w.heap.size + 1 + 1]? = some (.cells Z64 94 (0, 0)) := by rw [hw4, setRow_other _ _ _ _ (by omega)]; exact heap_old (heap_new (by simp only [size_alloc1]))
  have h41 : w4.heap[w.heap.size + 1]? = some (.cells #[.int .i64 ts, .int .i64 tw, .int .i64 tb] 67 (0, 0)) := by rw [hw4, setRow_other _ _ _ _ (by omega)]; exact heap_old (heap_old (heap_new (by simp only [size_alloc1])))
  have c41 : w4.cell? ⟨w.heap.size + 1, 2, none⟩ = some (.int .i64 tb) := by rw [cell_of_row _ _ _ _ _ _ h41]; rfl
  have Hw4 := Lib.hid hw4
  have Hb4 := Lib.hid hb4
  have H4s := Lib.hid h4s
  have H46 := Lib.hid h46
  have Hold := Lib.hid hold
  clear hw4 hb4 h4s h46 h41 hold
  have hwm : (wh : Int) < (m : Int) := by omega
  have hbw0 : wh < tl.length := by omega
  obtain ⟨bw, hbw⟩ : ∃ bw, bw = tl.getD wh [] := ⟨_, rfl⟩
  have hbw2 : tl[wh] = bw := by rw [hbw, List.getD_eq_getElem?_getD, List.getElem?_eq_getElem hbw0]; rfl
  have Hbr0 := hrd wh hbw0
  rw [hbw2] at Hbr0
  have Hbw : Hid (bw.length = 64) := Lib.hid (by rw [← hbw2]; exact h64 _ (List.getElem_mem _))
  obtain ⟨tn, htn⟩ : ∃ tn, tn = min tb.toNat 64 := ⟨_, rfl⟩
  obtain ⟨Y, hY⟩ : ∃ Y, Y = tb.toNat := ⟨_, rfl⟩
  have hmx2 : max tb 0 = (Y : Int) := by omega
  have hmn2 : min (Y : Int) 64 = (tn : Int) := by omega
  have htn2 : tn ≤ 64 := by omega
  have htn3 : (tn : Int) ≤ 64 := by omega
  have Htn := Lib.hid htn2
  have Hgk4 : Hid (gk < w4.heap.size) := Lib.hid (Nat.lt_of_lt_of_le hgk Hb4.out.size)
  obtain ⟨sB, hsB⟩ : ∃ sB, sB = tl.getD (wh - 1) [] := ⟨_, rfl⟩
  have hwp : wh - 1 < tl.length := by omega
  have hsB2 : tl[wh - 1] = sB := by rw [hsB, List.getD_eq_getElem?_getD, List.getElem?_eq_getElem hwp]; rfl
  have Hsb : Hid (sB.length = 64) := Lib.hid (by rw [← hsB2]; exact h64 _ (List.getElem_mem _))
  have Hbp : Hid (w4.rangeAt gk ((wh - 1) * 64) (vals sB)) := Lib.hid (fun j v hv => (Hb4.out.cell (p := ⟨gk, (wh - 1) * 64 + j, none⟩) hgk).trans (hrd (wh - 1) hwp j v (by rw [hsB2]; exact hv)))
  obtain ⟨w5, hw5⟩ : ∃ w5, w5 = w4.setRow (w.heap.size + 1 + 1 + 1) (vals sB).toArray := ⟨_, rfl⟩
  have Hb5 : Hid (Below w.heap.size w w5) := Lib.hid (by rw [hw5]; exact below_setRow Hb4.out (by omega) _)
  have Hgs : Hid (w5.heap[w.heap.size + 1 + 1 + 1]? = some (.cells (vals sB).toArray 94 (0, 0))) := Lib.hid (by rw [hw5]; exact setRow_heap _ _ _ _ _ _ H4s.out)
  have Hg6 : Hid (w5.heap[w.heap.size + 1 + 1]? = some (.cells Z64 94 (0, 0))) := Lib.hid (by rw [hw5, setRow_other _ _ _ _ (by omega)]; exact H46.out)
  have c51 : w5.cell? ⟨w.heap.size + 1, 2, none⟩ = some (.int .i64 tb) := by rw [hw5]; exact ((Kept.refl (fun j => j = w.heap.size + 1 + 1 + 1) w4).setRow (fun _ => rfl) _).cell (p := ⟨w.heap.size + 1, 2, none⟩) (block_lt_of_cell c41) (by simp) |>.trans c41
  have hp1 : (0 : Int) < (wh : Int) := by omega
  have Hw5 := Lib.hid hw5
  clear hw5 hsB2
  have HRES : Hid ((vals (bw.take tn ++ sB.drop tn)).toArray = (vals ((tl.getD wh []).take (min tb.toNat 64) ++ (tl.getD (wh - 1) []).drop (min tb.toNat 64))).toArray) := Lib.hid (by rw [hbw, htn, hsB])
  have HR64 : Hid ((bw.take tn ++ sB.drop tn).length = 64) := Lib.hid (by rw [List.length_append, List.length_take, List.length_drop, Hbw.out, Hsb.out]; omega)
  have HNW : Hid (((vals sB).toArray.toList.take 0 ++ vals (bw.take tn) ++ (vals sB).toArray.toList.drop (0 + (vals (bw.take tn)).length)).toArray = (vals (bw.take tn ++ sB.drop tn)).toArray) := Lib.hid (by
    rw [vals_app, vals_len, List.length_take, Hbw.out, Nat.min_eq_left htn2]; simp [vals, List.map_drop])
  have Hbr : Hid (w5.rangeAt gk (wh * 64) (vals bw)) := Lib.hid (fun j v hv => (Hb5.out.cell (p := ⟨gk, wh * 64 + j, none⟩) hgk).trans (Hbr0 j v hv))
  have Hgk : Hid (gk < w5.heap.size) := Lib.hid (Nat.lt_of_lt_of_le hgk Hb5.out.size)
  obtain ⟨g6, hg6⟩ : ∃ g6, g6 = w.heap.size + 1 + 1 := ⟨_, rfl⟩
  obtain ⟨gs, hgs⟩ : ∃ gs, gs = w.heap.size + 1 + 1 + 1 := ⟨_, rfl⟩
  have H6 : Hid (w.heap.size ≤ g6) := Lib.hid (by omega)
  have H7 : Hid (g6 + 1 = gs ∧ w.heap.size ≤ gs) := Lib.hid (by omega)
  rw [← hgs] at Hgs
  rw [← hg6] at Hg6
  have Hgs1 := Lib.hid hgs
  have Hg61 := Lib.hid hg6
  obtain ⟨RV, hRV⟩ : ∃ RV, RV = (vals (bw.take tn ++ sB.drop tn)).toArray := ⟨_, rfl⟩
  rw [← HRES.out, ← hRV]
  have HRV := Lib.hid hRV
  clear hRV HRES hY hbw2 hbw htn hg6 hgs hsB hrd h64 hm Hbr0 hgk
  go_enter Try.func53, Try.ntmps53
  go_upto_region 3 with (first
    | (refine wpList_max0 rfl (.tmp 11) 3 3 rfl tw (W : Int) rfl hmx ?_)
    | (refine wpList_min2 rfl (.tmp 12) (.tmp 14) 3 3 rfl (W : Int) (m : Int) (wh : Int) rfl rfl hmn ?_)
    | (refine wpList_alloc_z rfl 94 rfl Z64 94 run_alloc94 ?_)
    | (refine wpList_load_mid rfl 94 (.tmp 3) rfl w.heap.size 0 rfl (vals old) _ (range_row (heap_old (heap_old (heap_new rfl)))) Try.underlying94 rfl (size64v Hold.out) ?_)
    | (refine wpList_store_row rfl 94 (.tmp 8) (.tmp 16) rfl _ _ rfl rfl 94 Z64 (heap_new rfl) (size64a Hold.out) (by rw [cells64, List.size_toArray, vals_len, Hold.out]) (one64 _) ?_; simp only [size_alloc1]))
  rw [← Hw4.out]
  go_upto_region 5 with (first
    | (refine wpList_load_mid rfl 94 (.tmp 22) rfl gk ((wh - 1) * 64) rfl _ _ Hbp.out Try.underlying94 rfl (size64v Hsb.out) ?_)
    | (refine wpList_store_row rfl 94 (.tmp 8) (.tmp 23) rfl (w.heap.size + 1 + 1 + 1) _ rfl rfl 94 _ H4s.out (size64a Hsb.out) (by rw [List.size_toArray, List.size_toArray, vals_len, vals_len, Hold.out, Hsb.out]) (one64 _) ?_))
  rw [← Hw5.out]
  go_upto_region 7 with (first | (refine wpList_max0 rfl (.tmp 29) 3 3 rfl tb (Y : Int) rfl hmx2 ?_) | (refine wpList_min2 rfl (.tmp 30) (.const (.int .i64 64)) 3 3 rfl (Y : Int) 64 (tn : Int) rfl rfl hmn2 ?_))
  rw [← Hgs1.out, ← Hg61.out]
  refine Roll.region_w 8 41 Dsvb Lsvb [(1, .slice (some ⟨gk, 0, none⟩) m c), (7, .int .i64 (wh : Int)), (8, .pointer (some ⟨gs, 0, none⟩)), (9, .int .i64 (tn : Int))] 7 [true, true, true, true, true, true, true, false] (fun p => Kept (fun _ => False) w5 p) (fun vv p => p.heap[gs]? = some (.cells (vals (bw.take tn ++ sB.drop tn)).toArray 94 (0, 0)) ∧ Kept (fun j => j = gs) w5 p) (fun p => Kept (fun j => j = gs) w5 p) (fun p p2 => Kept (fun j => j = gs) p p2) [fun vv p => (vv 0) = .int .i64 (tn : Int), fun vv p => (vv 1) = .slice (some ⟨gs, 0, none⟩) tn 64, fun vv p => (vv 2) = .slice (some ⟨gk, 0, none⟩) m c, fun vv p => (vv 3) = .int .i64 (wh : Int), fun vv p => (vv 4) = .pointer (some ⟨gk, wh * 64, none⟩), fun vv p => (vv 5) = .int .i64 (tn : Int), fun vv p => (vv 6) = .slice (some ⟨gk, wh * 64, none⟩) tn 64, fun vv p => True] (by kernel_rfl) (by kernel_rfl) rfl ⟨rfl, rfl, rfl, rfl, trivial⟩ ((Kept.refl _ _).drew) (by decide) (by kernel_rfl) (fun _ h => h.mono (fun _ _ h => h.elim)) (fun _ _ h => h.2) (fun _ => Kept.refl _ _) ?_ ?_ ?_
  · exact ⟨fun _ _ _ _ h => h, fun _ _ _ _ h => h, fun _ _ _ _ h => h, fun _ _ _ _ h => h, fun _ _ _ _ h => h, fun _ _ _ _ h => h, fun _ _ _ _ h => h, fun _ _ _ _ h => h, trivial⟩
  · intro b0 hN hlv
    refine ⟨?_, ?_, ?_, ?_, ?_, ?_, ?_, ?_, trivial⟩
    · intro vs p hI0 hp
      have hI := Roll.inw_pure (by decide) rfl hI0
      clear hI0
      have e9 : (Roll.putD Dsvb vs [] b0).eval (.tmp 9) = .int .i64 (tn : Int) := (Roll.eval_old rfl).trans (hlv.at 3 (9, .int .i64 (tn : Int)) rfl)
      clear hp hlv hN
      unfold Roll.Goes
      simp only [Lsvb, List.getD_cons_zero, List.getD_cons_succ]
      generalize Roll.putD Dsvb vs [] b0 = a1 at *
      refine Roll.goes_val (w' := p) (.int .i64 (tn : Int)) rfl ?_ ⟨(Roll.outw_pure (by decide) rfl), rfl⟩
      (have ec : ∀ x, a1.eval (.const x) = x := fun _ => rfl); (have ef : ∀ x, a1.eval (.func x) = .func (.func x) #[] #[] := fun _ => rfl); generalize a1.eval = ρ at *
      skip
      go_simp <;> (intros; first | (exfalso; omega) | rfl)
    · intro vs p hI0 hp
      have hI := Roll.inw_pure (by decide) rfl hI0
      clear hI0
      have h0 : (vs 0) = .int .i64 (tn : Int) := hp 0 (by simp [Lsvb])
      have e8 : (Roll.putD Dsvb vs [0] b0).eval (.tmp 8) = .pointer (some ⟨gs, 0, none⟩) := (Roll.eval_old rfl).trans (hlv.at 2 (8, .pointer (some ⟨gs, 0, none⟩)) rfl)
      have e32 : (Roll.putD Dsvb vs [0] b0).eval (.tmp 32) = .int .i64 (tn : Int) := (Roll.eval_new 0 rfl (by decide) (by decide) (by omega)).trans h0
      clear hp hlv hN
      unfold Roll.Goes
      simp only [Lsvb, List.getD_cons_zero, List.getD_cons_succ]
      generalize Roll.putD Dsvb vs [0] b0 = a1 at *
      refine Roll.goes_val (w' := p) (.slice (some ⟨gs, 0, none⟩) tn 64) rfl ?_ ⟨(Roll.outw_pure (by decide) rfl), rfl⟩
      (have ec : ∀ x, a1.eval (.const x) = x := fun _ => rfl); (have ef : ∀ x, a1.eval (.func x) = .func (.func x) #[] #[] := fun _ => rfl); generalize a1.eval = ρ at *
      clear h0
      go_simp <;> (intros; first | (exfalso; omega) | rfl)
    · intro vs p hI0 hp
      have hI := Roll.inw_pure (by decide) rfl hI0
      clear hI0
      have e1 : (Roll.putD Dsvb vs [] b0).eval (.tmp 1) = .slice (some ⟨gk, 0, none⟩) m c := (Roll.eval_old rfl).trans (hlv.at 0 (1, .slice (some ⟨gk, 0, none⟩) m c) rfl)
      clear hp hlv hN
      unfold Roll.Goes
      simp only [Lsvb, List.getD_cons_zero, List.getD_cons_succ]
      generalize Roll.putD Dsvb vs [] b0 = a1 at *
      refine Roll.goes_val (w' := p) (.slice (some ⟨gk, 0, none⟩) m c) rfl ?_ ⟨(Roll.outw_pure (by decide) rfl), rfl⟩
      (have ec : ∀ x, a1.eval (.const x) = x := fun _ => rfl); (have ef : ∀ x, a1.eval (.func x) = .func (.func x) #[] #[] := fun _ => rfl); generalize a1.eval = ρ at *
      skip
      go_simp <;> (intros; first | (exfalso; omega) | rfl)
    · intro vs p hI0 hp
      have hI := Roll.inw_pure (by decide) rfl hI0
      clear hI0
      have e7 : (Roll.putD Dsvb vs [] b0).eval (.tmp 7) = .int .i64 (wh : Int) := (Roll.eval_old rfl).trans (hlv.at 1 (7, .int .i64 (wh : Int)) rfl)
      clear hp hlv hN
      unfold Roll.Goes
      simp only [Lsvb, List.getD_cons_zero, List.getD_cons_succ]
      generalize Roll.putD Dsvb vs [] b0 = a1 at *
      refine Roll.goes_val (w' := p) (.int .i64 (wh : Int)) rfl ?_ ⟨(Roll.outw_pure (by decide) rfl), rfl⟩
      (have ec : ∀ x, a1.eval (.const x) = x := fun _ => rfl); (have ef : ∀ x, a1.eval (.func x) = .func (.func x) #[] #[] := fun _ => rfl); generalize a1.eval = ρ at *
      skip
      go_simp <;> (intros; first | (exfalso; omega) | rfl)
    · intro vs p hI0 hp
      have hI := Roll.inw_pure (by decide) rfl hI0
      clear hI0
      have h2 : (vs 2) = .slice (some ⟨gk, 0, none⟩) m c := hp 2 (by simp [Lsvb])
      have h3 : (vs 3) = .int .i64 (wh : Int) := hp 3 (by simp [Lsvb])
      have e34 : (Roll.putD Dsvb vs [2, 3] b0).eval (.tmp 34) = .slice (some ⟨gk, 0, none⟩) m c := (Roll.eval_new 2 rfl (by decide) (by decide) (by omega)).trans h2
      have e35 : (Roll.putD Dsvb vs [2, 3] b0).eval (.tmp 35) = .int .i64 (wh : Int) := (Roll.eval_new 3 rfl (by decide) (by decide) (by omega)).trans h3
      clear hp hlv hN
      unfold Roll.Goes
      simp only [Lsvb, List.getD_cons_zero, List.getD_cons_succ]
      generalize Roll.putD Dsvb vs [2, 3] b0 = a1 at *
      refine Roll.goes_val (w' := p) (.pointer (some ⟨gk, wh * 64, none⟩)) rfl ?_ ⟨(Roll.outw_pure (by decide) rfl), rfl⟩
      (have ec : ∀ x, a1.eval (.const x) = x := fun _ => rfl); (have ef : ∀ x, a1.eval (.func x) = .func (.func x) #[] #[] := fun _ => rfl); generalize a1.eval = ρ at *
      clear h2 h3
      go_simp <;> (intros; first | (exfalso; omega) | rfl)
    · intro vs p hI0 hp
      have hI := Roll.inw_pure (by decide) rfl hI0
      clear hI0
      have e9 : (Roll.putD Dsvb vs [] b0).eval (.tmp 9) = .int .i64 (tn : Int) := (Roll.eval_old rfl).trans (hlv.at 3 (9, .int .i64 (tn : Int)) rfl)
      clear hp hlv hN
      unfold Roll.Goes
      simp only [Lsvb, List.getD_cons_zero, List.getD_cons_succ]
      generalize Roll.putD Dsvb vs [] b0 = a1 at *
      refine Roll.goes_val (w' := p) (.int .i64 (tn : Int)) rfl ?_ ⟨(Roll.outw_pure (by decide) rfl), rfl⟩
      (have ec : ∀ x, a1.eval (.const x) = x := fun _ => rfl); (have ef : ∀ x, a1.eval (.func x) = .func (.func x) #[] #[] := fun _ => rfl); generalize a1.eval = ρ at *
      skip
      go_simp <;> (intros; first | (exfalso; omega) | rfl)
    · intro vs p hI0 hp
      have hI := Roll.inw_pure (by decide) rfl hI0
      clear hI0
      have h4 : (vs 4) = .pointer (some ⟨gk, wh * 64, none⟩) := hp 4 (by simp [Lsvb])
      have h5 : (vs 5) = .int .i64 (tn : Int) := hp 5 (by simp [Lsvb])
      have e36 : (Roll.putD Dsvb vs [4, 5] b0).eval (.tmp 36) = .pointer (some ⟨gk, wh * 64, none⟩) := (Roll.eval_new 4 rfl (by decide) (by decide) (by omega)).trans h4
      have e37 : (Roll.putD Dsvb vs [4, 5] b0).eval (.tmp 37) = .int .i64 (tn : Int) := (Roll.eval_new 5 rfl (by decide) (by decide) (by omega)).trans h5
      clear hp hlv hN
      unfold Roll.Goes
      simp only [Lsvb, List.getD_cons_zero, List.getD_cons_succ]
      generalize Roll.putD Dsvb vs [4, 5] b0 = a1 at *
      refine Roll.goes_val (w' := p) (.slice (some ⟨gk, wh * 64, none⟩) tn 64) rfl ?_ ⟨(Roll.outw_pure (by decide) rfl), rfl⟩
      (have ec : ∀ x, a1.eval (.const x) = x := fun _ => rfl); (have ef : ∀ x, a1.eval (.func x) = .func (.func x) #[] #[] := fun _ => rfl); generalize a1.eval = ρ at *
      clear h4 h5
      go_simp <;> (intros; first | (exfalso; omega) | rfl)
    · intro vs p hI0 hp
      have hI := Roll.inw_k0 rfl hI0
      clear hI0
      have h1 : (vs 1) = .slice (some ⟨gs, 0, none⟩) tn 64 := hp 1 (by simp [Lsvb])
      have h6 : (vs 6) = .slice (some ⟨gk, wh * 64, none⟩) tn 64 := hp 6 (by simp [Lsvb])
      have e33 : (Roll.putD Dsvb vs [1, 6] b0).eval (.tmp 33) = .slice (some ⟨gs, 0, none⟩) tn 64 := (Roll.eval_new 1 rfl (by decide) (by decide) (by omega)).trans h1
      have e38 : (Roll.putD Dsvb vs [1, 6] b0).eval (.tmp 38) = .slice (some ⟨gk, wh * 64, none⟩) tn 64 := (Roll.eval_new 6 rfl (by decide) (by decide) (by omega)).trans h6
      clear hp hlv hN
      unfold Roll.Goes
      simp only [Lsvb, List.getD_cons_zero, List.getD_cons_succ]
      generalize Roll.putD Dsvb vs [1, 6] b0 = a1 at *
      have hg : p.heap[gs]? = some (.cells (vals sB).toArray 94 (0, 0)) := hI.heap Hgs.out (fun h => h)
      have hrun := run_copy_row (P := Try.prog) p 32 32 3 5 gs 0 tn 64 ⟨gk, wh * 64, none⟩ tn 64 (vals sB).toArray 94 (vals (bw.take tn)) Try.underlying32 (by kernel_rfl) hg (by rw [vals_len, List.length_take, Hbw.out]; have := Htn.out; simp; omega) (fun j v hv => by
        rw [Addr.add_mid]
        refine (hI.cell (p := ⟨gk, wh * 64 + j, none⟩) Hgk.out (fun h => h)).trans (Hbr.out j v ?_)
        rw [show vals (bw.take tn) = (vals bw).take tn by simp [vals, List.map_take], List.getElem?_take] at hv
        split at hv
        · exact hv
        · cases hv) (by rw [vals_len, List.length_take, List.size_toArray, vals_len, Hsb.out]; omega) (vals_one _)
      rw [HNW.out] at hrun
      have hks : Kept (fun j => j = gs) p (p.setRow gs (vals (bw.take tn ++ sB.drop tn)).toArray) := (Kept.refl (fun j => j = gs) p).setRow (fun _ => rfl) _
      refine Roll.goes_val (w' := p.setRow gs (vals (bw.take tn ++ sB.drop tn)).toArray) (goInt (vals (bw.take tn)).length) rfl ?_ ⟨Roll.outw_k0 rfl ⟨setRow_heap p gs _ _ _ _ hg, (hI.mono (fun _ _ h => h.elim)).trans hks (fun _ _ h => h)⟩ hks, trivial⟩
      unfold execOp
      simp only [resolve, invoke, builtin, Sem.run_bind, Sem.run_pure, Result.andThen_ok, List.map_toArray, List.map_cons, List.map_nil, e33, e38, hrun]
  · intro vs p hI hR
    have h0 : (vs 0) = .int .i64 (tn : Int) := hR 0 (by omega)
    have h1 : (vs 1) = .slice (some ⟨gs, 0, none⟩) tn 64 := hR 1 (by omega)
    have h2 : (vs 2) = .slice (some ⟨gk, 0, none⟩) m c := hR 2 (by omega)
    have h3 : (vs 3) = .int .i64 (wh : Int) := hR 3 (by omega)
    have h4 : (vs 4) = .pointer (some ⟨gk, wh * 64, none⟩) := hR 4 (by omega)
    have h5 : (vs 5) = .int .i64 (tn : Int) := hR 5 (by omega)
    have h6 : (vs 6) = .slice (some ⟨gk, wh * 64, none⟩) tn 64 := hR 6 (by omega)
    have h7 : True := hR 7 (by omega)
    clear hR
    simp only [List.range_succ, List.range_zero, List.nil_append, List.cons_append, Roll.putD, Act.put, List.getD_cons_zero, List.getD_cons_succ, List.setIfInBounds_toArray, List.set_cons_zero, List.set_cons_succ, List.drop_succ_cons, List.drop_zero, Dsvb]
    simp only [h0, h1, h2, h3, h4, h5, h6]
    clear h0 h1 h2 h3 h4 h5 h6
    obtain ⟨hg, hK⟩ := hI
    have HGS := Lib.hid hg
    have HG6 := Lib.hid (hK.heap Hg6.out (by have := H7.out; omega))
    have HBB : Hid (Below w.heap.size w p) := Lib.hid (Hb5.out.trans (hK.below Hb5.out.size (fun j hj e => by have := H7.out; omega)))
    clear hg hK h7
    go_wp2_with (first
      | (refine wpList_load_row rfl 94 (.tmp 8) rfl gs rfl 94 _ (0, 0) _ HGS.out Try.underlying94 rfl (size64a HR64.out) ?_)
      | (refine wpList_store_row rfl 94 (.tmp 6) (.tmp 40) rfl g6 _ rfl rfl 94 Z64 HG6.out (size64a HR64.out) (by rw [cells64, List.size_toArray, vals_len, HR64.out]) (one64 _) ?_))
    refine bodyPost_ret (results_cell_row rfl _ _ g6 94 _ (0, 0) _ rfl (setRow_heap _ _ _ _ _ _ HG6.out) Try.underlying94 rfl (size64a HR64.out)) rfl ⟨by rw [HRV.out], below_setRow HBB.out H6.out _⟩
set_option maxRecDepth 100000 in
set_option maxHeartbeats 2000000 in
theorem survivor_c (w : World) (old : List UInt8) (hold : old.length = 64) (gk m c wh : Nat) (ts tw tb : Int) (hmc : m ≤ c) (hc2 : c ≤ 9223372036854775807) (tl : List (List UInt8)) (hm : tl.length = m) (h64 : ∀ b ∈ tl, b.length = 64) (hgk : gk < w.heap.size)
    (hrd : ∀ (i : Nat) (hi : i < tl.length), w.rangeAt gk (i * 64) (vals tl[i])) (W : Nat) (hmx : max tw 0 = (W : Int)) (hmn : min (W : Int) (m : Int) = (wh : Int)) (hw0 : 0 < wh) (hw1 : wh = m) :
    Calls Try.prog 53 #[.agg (vals old).toArray, .slice (some ⟨gk, 0, none⟩) m c, .agg #[.int .i64 ts, .int .i64 tw, .int .i64 tb]] w fun e w' => e = .returned (.agg (vals (tl.getD (wh - 1) [])).toArray) ∧ Below w.heap.size w w' := by
  obtain ⟨w4, hw4⟩ : ∃ w4, w4 = ((((w.alloc (.cells (vals old).toArray 94)).alloc (.cells #[.int .i64 ts, .int .i64 tw, .int .i64 tb] 67)).alloc (.cells Z64 94)).alloc (.cells Z64 94)).setRow (w.heap.size + 1 + 1 + 1) (vals old).toArray := ⟨_, rfl⟩
  have hb4 : Below w.heap.size w w4 := by
    rw [hw4]
    exact below_setRow (((((Below.refl _ _).alloc (Nat.le_refl _) _).alloc (by simp only [size_alloc1]; omega) _).alloc (by simp only [size_alloc1]; omega) _).alloc (by simp only [size_alloc1]; omega) _) (by omega) _
  have h4s : w4.heap[w.heap.size + 1 + 1 + 1]? = some (.cells (vals old).toArray 94 (0, 0)) := by rw [hw4]; exact setRow_heap _ _ _ _ _ _ (heap_new (by simp only [size_alloc1]))
  have h46 : w4.heap[w.heap.size + 1 + 1]? = some (.cells Z64 94 (0, 0)) := by rw [hw4, setRow_other _ _ _ _ (by omega)]; exact heap_old (heap_new (by simp only [size_alloc1]))
  have h41 : w4.heap[w.heap.size + 1]? = some (.cells #[.int .i64 ts, .int .i64 tw, .int .i64 tb] 67 (0, 0)) := by rw [hw4, setRow_other _ _ _ _ (by omega)]; exact heap_old (heap_old (heap_new (by simp only [size_alloc1])))
  have c41 : w4.cell? ⟨w.heap.size + 1, 2, none⟩ = some (.int .i64 tb) := by rw [cell_of_row _ _ _ _ _ _ h41]; rfl
  have Hw4 := Lib.hid hw4
  have Hb4 := Lib.hid hb4
  have H4s := Lib.hid h4s
  have H46 := Lib.hid h46
  have Hold := Lib.hid hold
  clear hw4 hb4 h4s h46 h41 hold
  obtain ⟨sB, hsB⟩ : ∃ sB, sB = tl.getD (wh - 1) [] := ⟨_, rfl⟩
  have hwp : wh - 1 < tl.length := by omega
  have hsB2 : tl[wh - 1] = sB := by rw [hsB, List.getD_eq_getElem?_getD, List.getElem?_eq_getElem hwp]; rfl
  have Hsb : Hid (sB.length = 64) := Lib.hid (by rw [← hsB2]; exact h64 _ (List.getElem_mem _))
  have Hbp : Hid (w4.rangeAt gk ((wh - 1) * 64) (vals sB)) := Lib.hid (fun j v hv => (Hb4.out.cell (p := ⟨gk, (wh - 1) * 64 + j, none⟩) hgk).trans (hrd (wh - 1) hwp j v (by rw [hsB2]; exact hv)))
  obtain ⟨w5, hw5⟩ : ∃ w5, w5 = w4.setRow (w.heap.size + 1 + 1 + 1) (vals sB).toArray := ⟨_, rfl⟩
  have Hb5 : Hid (Below w.heap.size w w5) := Lib.hid (by rw [hw5]; exact below_setRow Hb4.out (by omega) _)
  have Hgs : Hid (w5.heap[w.heap.size + 1 + 1 + 1]? = some (.cells (vals sB).toArray 94 (0, 0))) := Lib.hid (by rw [hw5]; exact setRow_heap _ _ _ _ _ _ H4s.out)
  have Hg6 : Hid (w5.heap[w.heap.size + 1 + 1]? = some (.cells Z64 94 (0, 0))) := Lib.hid (by rw [hw5, setRow_other _ _ _ _ (by omega)]; exact H46.out)
  have c51 : w5.cell? ⟨w.heap.size + 1, 2, none⟩ = some (.int .i64 tb) := by rw [hw5]; exact ((Kept.refl (fun j => j = w.heap.size + 1 + 1 + 1) w4).setRow (fun _ => rfl) _).cell (p := ⟨w.heap.size + 1, 2, none⟩) (block_lt_of_cell c41) (by simp) |>.trans c41
  have hp1 : (0 : Int) < (wh : Int) := by omega
  have Hw5 := Lib.hid hw5
  clear hw5 hsB2
  have Hgk4 : Hid (gk < w4.heap.size) := Lib.hid (Nat.lt_of_lt_of_le hgk Hb4.out.size)
  have hwm : (m : Int) ≤ (wh : Int) := by omega
  have hwm2 : (wh : Int) - 1 < (m : Int) := by omega
  obtain ⟨g6, hg6⟩ : ∃ g6, g6 = w.heap.size + 1 + 1 := ⟨_, rfl⟩
  obtain ⟨gs, hgs⟩ : ∃ gs, gs = w.heap.size + 1 + 1 + 1 := ⟨_, rfl⟩
  have H6 : Hid (w.heap.size ≤ g6) := Lib.hid (by omega)
  rw [← hgs] at Hgs
  rw [← hg6] at Hg6
  have Hgs1 := Lib.hid hgs
  have Hg61 := Lib.hid hg6
  have HR64 := Lib.hid Hsb.out
  have HGS := Lib.hid Hgs.out
  have HG6 := Lib.hid Hg6.out
  have HBB := Lib.hid Hb5.out
  have HRES : Hid ((vals sB).toArray = (vals (tl.getD (wh - 1) [])).toArray) := Lib.hid (by rw [hsB])
  obtain ⟨RV, hRV⟩ : ∃ RV, RV = (vals sB).toArray := ⟨_, rfl⟩
  rw [← HRES.out, ← hRV]
  have HRV := Lib.hid hRV
  clear hRV HRES
  have hw2 : wh = m := hw1
  clear hg6 hgs hsB hrd h64 hm hgk hw1 hw2
  go_enter Try.func53, Try.ntmps53
  go_upto_region 3 with (first
    | (refine wpList_max0 rfl (.tmp 11) 3 3 rfl tw (W : Int) rfl hmx ?_)
    | (refine wpList_min2 rfl (.tmp 12) (.tmp 14) 3 3 rfl (W : Int) (m : Int) (wh : Int) rfl rfl hmn ?_)
    | (refine wpList_alloc_z rfl 94 rfl Z64 94 run_alloc94 ?_)
    | (refine wpList_load_mid rfl 94 (.tmp 3) rfl w.heap.size 0 rfl (vals old) _ (range_row (heap_old (heap_old (heap_new rfl)))) Try.underlying94 rfl (size64v Hold.out) ?_)
    | (refine wpList_store_row rfl 94 (.tmp 8) (.tmp 16) rfl _ _ rfl rfl 94 Z64 (heap_new rfl) (size64a Hold.out) (by rw [cells64, List.size_toArray, vals_len, Hold.out]) (one64 _) ?_; simp only [size_alloc1]))
  rw [← Hw4.out]
  go_upto_region 5 with (first
    | (refine wpList_load_mid rfl 94 (.tmp 22) rfl gk ((wh - 1) * 64) rfl _ _ Hbp.out Try.underlying94 rfl (size64v Hsb.out) ?_)
    | (refine wpList_store_row rfl 94 (.tmp 8) (.tmp 23) rfl (w.heap.size + 1 + 1 + 1) _ rfl rfl 94 _ H4s.out (size64a Hsb.out) (by rw [List.size_toArray, List.size_toArray, vals_len, vals_len, Hold.out, Hsb.out]) (one64 _) ?_))
  rw [← Hw5.out]
  go_upto_region 8 with fail
  rw [← Hgs1.out, ← Hg61.out]
  go_wp2_with (first
    | (refine wpList_load_row rfl 94 (.tmp 8) rfl gs rfl 94 _ (0, 0) _ HGS.out Try.underlying94 rfl (size64a HR64.out) ?_)
    | (refine wpList_store_row rfl 94 (.tmp 6) (.tmp 40) rfl g6 _ rfl rfl 94 Z64 HG6.out (size64a HR64.out) (by rw [cells64, List.size_toArray, vals_len, HR64.out]) (one64 _) ?_))
  refine bodyPost_ret (results_cell_row rfl _ _ g6 94 _ (0, 0) _ rfl (setRow_heap _ _ _ _ _ _ HG6.out) Try.underlying94 rfl (size64a HR64.out)) rfl ⟨by rw [HRV.out], below_setRow HBB.out H6.out _⟩
end Go.Proofs.Ytbnodhcgdgcebaa

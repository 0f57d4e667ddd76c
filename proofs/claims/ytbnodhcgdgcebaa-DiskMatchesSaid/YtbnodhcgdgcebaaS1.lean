/-
  Maps whose keys are numbers: what a block holds, as a function of the key; the operations on it; a range over it.
-/
import Derived.Test.YtbnodhcgdgcebaaK0
import Derived.Maps.RangeRun
import Derived.Maps.Range
import Derived.Maps.OwnOps
import Derived.Maps.RangeWalk
namespace Go.Proofs.Ytbnodhcgdgcebaa
open Go.RowKit
open Go.ChangeMaps Go.MapKept
def ikey (k : Int) : Value := .int .i64 k
def fput (f : Int → Option Value) (k : Int) (v : Value) : Int → Option Value := fun j => if j = k then some v else f j
theorem fput_same (f : Int → Option Value) (k : Int) (v : Value) : fput f k v k = some v := by unfold fput; rw [if_pos rfl]
theorem fput_other (f : Int → Option Value) {k j : Int} (v : Value) (h : j ≠ k) : fput f k v j = f j := by unfold fput; rw [if_neg h]
def fdel (f : Int → Option Value) (k : Int) : Int → Option Value := fun j => if j = k then none else f j
theorem fdel_same (f : Int → Option Value) (k : Int) : fdel f k k = none := by unfold fdel; rw [if_pos rfl]
theorem fdel_other (f : Int → Option Value) {k j : Int} (h : j ≠ k) : fdel f k j = f j := by unfold fdel; rw [if_neg h]
/-- block b is a map of at most N entries, whose keys are numbers: key k has the element f k -/
def Mp (w : World) (b N : Nat) (f : Int → Option Value) : Prop :=
  ∃ es clock, w.heap[b]? = some (.map es clock) ∧ Stamped es clock ∧ es.size ≤ N ∧ (∀ x ∈ es.toList, ∃ k : Int, (Lit.int .i64 k).wf = true ∧ x.key = ikey k ∧ f k = some x.val) ∧ ∀ k v, f k = some v → ∃ x ∈ es.toList, x.key = ikey k
theorem ikey_inj {a b : Int} (h : ikey a = ikey b) : a = b := by simpa [ikey] using h
theorem Mp.lt {w : World} {b N : Nat} {f : Int → Option Value} (h : Mp w b N f) : b < w.heap.size := by
  obtain ⟨es, clock, hb, _⟩ := h
  exact (Array.getElem?_eq_some_iff.1 hb).1
theorem Mp.mono {w : World} {b N M : Nat} {f : Int → Option Value} (h : Mp w b N f) (hM : N ≤ M) : Mp w b M f := by
  obtain ⟨es, clock, hb, hs, hn, h1, h2⟩ := h
  exact ⟨es, clock, hb, hs, Nat.le_trans hn hM, h1, h2⟩
theorem Mp.kept {S : Nat → Prop} {w w' : World} {b N : Nat} {f : Int → Option Value} (h : Mp w b N f) (hk : Kept S w w') (hs : ¬ S b) : Mp w' b N f := by
  obtain ⟨es, clock, hb, rest⟩ := h
  exact ⟨es, clock, hk.heap hb hs, rest⟩
theorem Mp.made (w : World) : Mp (w.alloc (.map #[] 0)) w.heap.size 0 (fun _ => none) :=
  ⟨#[], 0, heap_alloc_new w _, stamped_empty 0, Nat.le_refl _, by simp, fun k v h => by cases h⟩
theorem Mp.wf {w : World} {b N : Nat} {f : Int → Option Value} (h : Mp w b N f) {k : Int} {v : Value} (hk : f k = some v) : (Lit.int .i64 k).wf = true := by
  obtain ⟨es, clock, hb, hs, hn, h1, h2⟩ := h
  obtain ⟨x, hx, hxk⟩ := h2 k v hk
  obtain ⟨k', hw, hk', _⟩ := h1 x hx
  rw [hxk] at hk'
  rw [ikey_inj hk']; exact hw
section
variable {P : Program} {t kt et : TypeId} {w : World} {b N : Nat} {f : Int → Option Value}
theorem Mp.keys (hk : P.underlying kt = some (.int .i64)) {es : Array MapEntry} (h1 : ∀ x ∈ es.toList, ∃ k : Int, (Lit.int .i64 k).wf = true ∧ x.key = ikey k ∧ f k = some x.val) : ∀ e ∈ es.toList, ∃ l, keyOf P kt e.key = some l := by
  intro e he
  obtain ⟨k, hw, hke, _⟩ := h1 e he
  exact ⟨_, by rw [hke]; exact Maps.keyOf_int_mk hk hw⟩
/-- m[k], and v, ok := m[k] -/
theorem Mp.look (h : Mp w b N f) (ht : P.underlying t = some (.map kt et)) (hk : P.underlying kt = some (.int .i64)) {z : Value} (hz : (zeroValue et).run P w = .ok z w) (k : Int) (hw : (Lit.int .i64 k).wf = true) (c : Bool) :
    (Instr.lookup t (.map (some b)) (.int .i64 k) c).run P w = .ok (match f k with | some v => if c then .tuple #[v, .bool true] else v | none => if c then .tuple #[z, .bool false] else z) w := by
  obtain ⟨es, clock, hb, hs, hn, h1, h2⟩ := h
  have K := Maps.int_keyed hk
  have hkey := Maps.keyOf_int_mk hk hw
  rcases K.find w hkey es.toList (Mp.keys hk h1) with ⟨f1, f2⟩ | ⟨j, e0, f1, f2, f3⟩
  · have hf : f k = none := by
      cases hfk : f k with
      | none => rfl
      | some v => obtain ⟨x, hx, hxk⟩ := h2 k v hfk; exact absurd hxk (f2 x hx)
    rw [hf]
    simp [Instr.lookup, run_underlying ht, MapKept.run_getObj_map hb, K.check w _ hkey, f1, hz, Result.andThen]
  · have hm0 : e0 ∈ es.toList := List.mem_of_getElem? f2
    obtain ⟨k', _, hk', hfk⟩ := h1 e0 hm0
    rw [f3] at hk'
    have : k = k' := ikey_inj hk'
    subst this
    rw [hfk]
    simp [Instr.lookup, run_underlying ht, MapKept.run_getObj_map hb, K.check w _ hkey, f1, Result.andThen]
/-- m[k] = v -/
theorem Mp.put (h : Mp w b N f) (ht : P.underlying t = some (.map kt et)) (hk : P.underlying kt = some (.int .i64)) (k : Int) (hw : (Lit.int .i64 k).wf = true) (v : Value) :
    ∃ w', (Instr.mapUpdate t (.map (some b)) (.int .i64 k) v).run P w = .ok () w' ∧ Mp w' b (N + 1) (fput f k v) ∧ Kept (fun j => j = b) w w' ∧ w'.heap.size = w.heap.size := by
  obtain ⟨es, clock, hb, hs, hn, h1, h2⟩ := h
  have K := Maps.int_keyed hk
  have hkey := Maps.keyOf_int_mk hk hw
  have hkept : ∀ o : Obj, Kept (fun j => j = b) w (setBlock w b o) ∧ (setBlock w b o).heap.size = w.heap.size := fun o =>
    ⟨⟨rfl, rfl, rfl, by simp [setBlock], fun j _ hj => heap_setBlock_other hb _ hj⟩, by simp [setBlock]⟩
  rcases K.find w hkey es.toList (Mp.keys hk h1) with ⟨f1, f2⟩ | ⟨j, e0, f1, f2, f3⟩
  · refine ⟨setBlock w b (.map (es.push ⟨.int .i64 k, v, clock⟩) (clock + 1)), ?_, ⟨_, _, heap_setBlock_same hb _, stamped_push hs f2, by simp; omega, ?_, ?_⟩, (hkept _).1, (hkept _).2⟩
    · simp [Instr.mapUpdate, run_underlying ht, MapKept.run_getObj_map hb, K.check w false hkey, f1, MapKept.run_setObj_map _ hb, Result.andThen, setBlock]
    · intro x hx
      simp only [Array.toList_push, List.mem_append, List.mem_singleton] at hx
      rcases hx with hx | rfl
      · obtain ⟨k', hw', hk', hf'⟩ := h1 x hx
        refine ⟨k', hw', hk', ?_⟩
        rw [fput_other _ _ (fun e => f2 x hx (by rw [hk', e]; rfl))]; exact hf'
      · exact ⟨k, hw, rfl, fput_same _ _ _⟩
    · intro k' v' hv'
      by_cases e : k' = k
      · subst e; exact ⟨⟨.int .i64 k', v, clock⟩, by simp, rfl⟩
      · rw [fput_other _ _ e] at hv'
        obtain ⟨x, hx, hxk⟩ := h2 k' v' hv'
        exact ⟨x, by simp only [Array.toList_push, List.mem_append]; exact .inl hx, hxk⟩
  · have hj : es[j]? = some e0 := by simpa using f2
    have hjl : j < es.toList.length := (List.getElem?_eq_some_iff.1 f2).1
    have hlist : (es.modify j (fun e' => { e' with key := .int .i64 k, val := v })).toList = es.toList.set j { e0 with key := .int .i64 k, val := v } := by rw [Array.toList_modify, modify_eq_set _ _ _ _ f2]
    have hnd : es.toList.Pairwise (fun x y => x.key ≠ y.key) := ((stamped_iff es clock).1 hs).2.2
    have hoth : ∀ i e1, es.toList[i]? = some e1 → i ≠ j → e1.key ≠ .int .i64 k := by
      intro i e1 hi hne e
      have hil : i < es.toList.length := (List.getElem?_eq_some_iff.1 hi).1
      have e1' : es.toList[i] = e1 := (List.getElem?_eq_some_iff.1 hi).2
      have e0' : es.toList[j] = e0 := (List.getElem?_eq_some_iff.1 f2).2
      rcases Nat.lt_or_gt_of_ne hne with hlt | hgt
      · exact List.pairwise_iff_getElem.1 hnd i j hil hjl hlt (by rw [e1', e0', e, f3])
      · exact List.pairwise_iff_getElem.1 hnd j i hjl hil hgt (by rw [e1', e0', e, f3])
    refine ⟨setBlock w b (.map (es.modify j (fun e' => { e' with key := .int .i64 k, val := v })) clock), ?_, ⟨_, _, heap_setBlock_same hb _, stamped_modify hs _ _ (fun _ _ => rfl) (fun e' _ he' => by rw [hj] at he'; cases he'; exact f3.symm), by simp; omega, ?_, ?_⟩, (hkept _).1, (hkept _).2⟩
    · simp [Instr.mapUpdate, run_underlying ht, MapKept.run_getObj_map hb, K.check w false hkey, f1, hj, f3, K.stays w hkey, MapKept.run_setObj_map _ hb, Result.andThen, setBlock]
    · intro x hx
      rw [hlist] at hx
      obtain ⟨i, hi, ex⟩ := List.getElem_of_mem hx
      rw [List.getElem_set] at ex
      split at ex
      · subst ex; exact ⟨k, hw, rfl, fput_same _ _ _⟩
      · rename_i hne
        have hi' : i < es.toList.length := by simpa using hi
        have hxm : x ∈ es.toList := ex ▸ List.getElem_mem hi'
        obtain ⟨k', hw', hk', hf'⟩ := h1 x hxm
        refine ⟨k', hw', hk', ?_⟩
        rw [fput_other _ _ (fun e => hoth i x (by rw [List.getElem?_eq_getElem hi', ex]) (fun e1 => hne e1.symm) (by rw [hk', e]; rfl))]; exact hf'
    · intro k' v' hv'
      by_cases e : k' = k
      · subst e
        exact ⟨{ e0 with key := .int .i64 k', val := v }, by rw [hlist]; exact List.mem_iff_getElem.2 ⟨j, by simpa using hjl, by simp⟩, rfl⟩
      · rw [fput_other _ _ e] at hv'
        obtain ⟨x, hx, hxk⟩ := h2 k' v' hv'
        refine ⟨x, ?_, hxk⟩
        rw [hlist]
        obtain ⟨i, hi, ex⟩ := List.getElem_of_mem hx
        have hne : j ≠ i := by
          intro e2
          subst e2
          have e0' : es.toList[j] = e0 := (List.getElem?_eq_some_iff.1 f2).2
          rw [e0'] at ex
          rw [← ex, f3] at hxk
          exact e (ikey_inj hxk).symm
        exact List.mem_iff_getElem.2 ⟨i, by simpa using hi, by rw [List.getElem_set, if_neg hne]; exact ex⟩
/-- delete(m, k) -/
theorem Mp.del (h : Mp w b N f) (ht : P.underlying t = some (.map kt et)) (hk : P.underlying kt = some (.int .i64)) (k : Int) (hw : (Lit.int .i64 k).wf = true) (ty : TypeId) :
    ∃ w', (Builtin.delete_ #[t, kt] ty #[.map (some b), .int .i64 k]).run P w = .ok (.tuple #[]) w' ∧ Mp w' b N (fdel f k) ∧ Kept (fun j => j = b) w w' ∧ w'.heap.size = w.heap.size := by
  obtain ⟨es, clock, hb, hs, hn, h1, h2⟩ := h
  have K := Maps.int_keyed hk
  have hkey := Maps.keyOf_int_mk hk hw
  have hkept : ∀ o : Obj, Kept (fun j => j = b) w (setBlock w b o) ∧ (setBlock w b o).heap.size = w.heap.size := fun o =>
    ⟨⟨rfl, rfl, rfl, by simp [setBlock], fun j _ hj => heap_setBlock_other hb _ hj⟩, by simp [setBlock]⟩
  rcases K.find w hkey es.toList (Mp.keys hk h1) with ⟨f1, f2⟩ | ⟨j, e0, f1, f2, f3⟩
  · refine ⟨setBlock w b (.map es clock), ?_, ⟨_, _, heap_setBlock_same hb _, hs, hn, ?_, ?_⟩, (hkept _).1, (hkept _).2⟩
    · simp [Builtin.delete_, run_underlying ht, MapKept.run_getObj_map hb, K.check w _ hkey, f1, MapKept.run_setObj_map _ hb, Result.andThen, setBlock]
    · intro x hx
      obtain ⟨k', hw', hk', hf'⟩ := h1 x hx
      refine ⟨k', hw', hk', ?_⟩
      rw [fdel_other _ (fun e => f2 x hx (by rw [hk', e]; rfl))]; exact hf'
    · intro k' v' hv'
      by_cases e : k' = k
      · rw [e, fdel_same] at hv'; cases hv'
      · rw [fdel_other _ e] at hv'; exact h2 k' v' hv'
  · have hjl : j < es.toList.length := (List.getElem?_eq_some_iff.1 f2).1
    have hjs : j < es.size := by simpa using hjl
    have hsub : (es.eraseIdxIfInBounds j).toList = es.toList.eraseIdx j := by
      unfold Array.eraseIdxIfInBounds
      rw [dif_pos hjs]
      simp
    have hnd : es.toList.Pairwise (fun x y => x.key ≠ y.key) := ((stamped_iff es clock).1 hs).2.2
    have hoth : ∀ i e1, es.toList[i]? = some e1 → i ≠ j → e1.key ≠ .int .i64 k := by
      intro i e1 hi hne e
      have hil : i < es.toList.length := (List.getElem?_eq_some_iff.1 hi).1
      have e1' : es.toList[i] = e1 := (List.getElem?_eq_some_iff.1 hi).2
      have e0' : es.toList[j] = e0 := (List.getElem?_eq_some_iff.1 f2).2
      rcases Nat.lt_or_gt_of_ne hne with hlt | hgt
      · exact List.pairwise_iff_getElem.1 hnd i j hil hjl hlt (by rw [e1', e0', e, f3])
      · exact List.pairwise_iff_getElem.1 hnd j i hjl hil hgt (by rw [e1', e0', e, f3])
    have hmem : ∀ x, x ∈ (es.eraseIdxIfInBounds j).toList → x ∈ es.toList ∧ x.key ≠ .int .i64 k := by
      intro x hx
      rw [hsub, List.mem_eraseIdx_iff_getElem?] at hx
      obtain ⟨i, hne, hi⟩ := hx
      exact ⟨List.mem_of_getElem? hi, hoth i x hi hne⟩
    refine ⟨setBlock w b (.map (es.eraseIdxIfInBounds j) clock), ?_, ⟨_, _, heap_setBlock_same hb _, stamped_erase hs j, Nat.le_trans (MapFrom.size_erase es j) hn, ?_, ?_⟩, (hkept _).1, (hkept _).2⟩
    · simp [Builtin.delete_, run_underlying ht, MapKept.run_getObj_map hb, K.check w _ hkey, f1, MapKept.run_setObj_map _ hb, Result.andThen, setBlock]
    · intro x hx
      obtain ⟨hx1, hx2⟩ := hmem x hx
      obtain ⟨k', hw', hk', hf'⟩ := h1 x hx1
      refine ⟨k', hw', hk', ?_⟩
      rw [fdel_other _ (fun e => hx2 (by rw [hk', e]; rfl))]; exact hf'
    · intro k' v' hv'
      by_cases hne : k' = k
      · rw [hne, fdel_same] at hv'; cases hv'
      · rw [fdel_other _ hne] at hv'
        obtain ⟨x, hx, hxk⟩ := h2 k' v' hv'
        refine ⟨x, ?_, hxk⟩
        rw [hsub, List.mem_eraseIdx_iff_getElem?]
        obtain ⟨i, hi⟩ := List.getElem?_of_mem hx
        refine ⟨i, fun e => hne ?_, hi⟩
        subst e
        rw [hi] at f2
        cases f2
        rw [hxk] at f3
        exact ikey_inj f3
/-- clear(m) -/
theorem Mp.clear (h : Mp w b N f) (ht : P.underlying t = some (.map kt et)) (ty : TypeId) :
    ∃ w', (Builtin.clear_ #[t] ty #[.map (some b)]).run P w = .ok (.tuple #[]) w' ∧ Mp w' b 0 (fun _ => none) ∧ Kept (fun j => j = b) w w' ∧ w'.heap.size = w.heap.size := by
  obtain ⟨es, clock, hb, hs, hn, h1, h2⟩ := h
  refine ⟨setBlock w b (.map #[] clock), ?_, ⟨#[], clock, heap_setBlock_same hb _, stamped_empty clock, Nat.le_refl _, by simp, fun k v h => by cases h⟩, ⟨rfl, rfl, rfl, by simp [setBlock], fun j _ hj => heap_setBlock_other hb _ hj⟩, by simp [setBlock]⟩
  simp [Builtin.clear_, run_underlying ht, MapKept.run_getObj_map hb, MapKept.run_setObj_map _ hb, Result.andThen, setBlock]
/-- len(m) -/
theorem Mp.len (h : Mp w b N f) (ht : P.underlying t = some (.map kt et)) (ty : TypeId) : ∃ n : Nat, n ≤ N ∧ (Builtin.len_ #[t] ty #[.map (some b)]).run P w = .ok (.int .i64 (n : Int)) w := by
  obtain ⟨es, clock, hb, hs, hn, h1, h2⟩ := h
  exact ⟨es.size, hn, by simp [Builtin.len_, run_underlying ht, MapKept.run_getObj_map hb, goInt]⟩
/-- a range over a map is under way: left k says whether key k is still to come; cnt: how many are -/
def Rg (w : World) (r b N : Nat) (f : Int → Option Value) (left : Int → Bool) (cnt : Nat) : Prop :=
  ∃ es clock since seen c0, w.heap[b]? = some (.map es clock) ∧ Stamped es clock ∧ es.size ≤ N ∧ (∀ x ∈ es.toList, ∃ k : Int, (Lit.int .i64 k).wf = true ∧ x.key = ikey k ∧ f k = some x.val) ∧ (∀ k v, f k = some v → ∃ x ∈ es.toList, x.key = ikey k) ∧
    w.heap[r]? = some (.mapIter (some b) since seen c0) ∧ (∀ x ∈ es.toList, x.born < since) ∧ (leftOf es seen).size = cnt ∧
    (∀ x ∈ es.toList, ∀ k, x.key = ikey k → left k = !seen.contains x.born) ∧ (∀ k, left k = true → ∃ x ∈ es.toList, x.key = ikey k) ∧ since ≤ c0 ∧ since ≤ clock
variable {r cnt : Nat} {left : Int → Bool}
theorem Rg.mp (h : Rg w r b N f left cnt) : Mp w b N f := by
  obtain ⟨es, clock, since, seen, c0, hb, hs, hn, h1, h2, _⟩ := h
  exact ⟨es, clock, hb, hs, hn, h1, h2⟩
theorem Rg.ne (h : Rg w r b N f left cnt) : r ≠ b := by
  obtain ⟨es, clock, since, seen, c0, hb, _, _, _, _, hr, _⟩ := h
  intro e
  rw [e, hb] at hr
  cases hr
theorem Rg.lt (h : Rg w r b N f left cnt) : r < w.heap.size := by
  obtain ⟨es, clock, since, seen, c0, _, _, _, _, _, hr, _⟩ := h
  exact (Array.getElem?_eq_some_iff.1 hr).1
theorem Rg.left_eq (h : Rg w r b N f left cnt) : w.rangeLeft b r = cnt := by
  obtain ⟨es, clock, since, seen, c0, hb, _, _, _, _, hr, _, hc, _⟩ := h
  simp only [World.rangeLeft, hb, hr]
  exact hc
theorem Rg.kept {S : Nat → Prop} {w' : World} (h : Rg w r b N f left cnt) (hk : Kept S w w') (hb' : ¬ S b) (hr' : ¬ S r) : Rg w' r b N f left cnt := by
  obtain ⟨es, clock, since, seen, c0, hb, hs, hn, h1, h2, hr, rest⟩ := h
  exact ⟨es, clock, since, seen, c0, hk.heap hb hb', hs, hn, h1, h2, hk.heap hr hr', rest⟩
/-- range m -/
theorem Mp.range (h : Mp w b N f) (ht : P.underlying t = some (.map kt et)) :
    ∃ w', (Instr.range t (.map (some b))).run P w = .ok (.pointer (some ⟨w.heap.size, 0, none⟩)) w' ∧ (∃ cnt, Rg w' w.heap.size b N f (fun k => (f k).isSome) cnt) ∧ Kept (fun _ => False) w w' ∧ w'.heap.size = w.heap.size + 1 := by
  have hlt := h.lt
  obtain ⟨es, clock, hb, hs, hn, h1, h2⟩ := h
  refine ⟨_, run_range_map w t kt et b es clock ht hb, ⟨_, es, clock, clock, #[], clock, ((MapKept.heap_alloc w _).2 b hlt).trans hb, hs, hn, h1, h2, (MapKept.heap_alloc w _).1, hs.1, rfl, ?_, ?_, Nat.le_refl _, Nat.le_refl _⟩, (Kept.refl _ w).alloc _, by simp⟩
  · intro x hx k hxk
    obtain ⟨k', _, hk', hf'⟩ := h1 x hx
    rw [hxk] at hk'
    obtain rfl := ikey_inj hk'
    simp [hf']
  · intro k hk
    obtain ⟨v, hv⟩ := Option.isSome_iff_exists.1 hk
    exact h2 k v hv
theorem entry_eq {es : Array MapEntry} {clock : Nat} (hs : Stamped es clock) {x y : MapEntry} (hx : x ∈ es.toList) (hy : y ∈ es.toList) (h : x.key = y.key) : x = y := entry_eq_of_key ((stamped_iff es clock).1 hs).2.2 hx hy h
/-- the step -/
theorem Rg.next (h : Rg w r b N f left cnt) (ty : TypeId) :
    ((∀ k, left k = false) ∧ (Instr.next (.pointer (some ⟨r, 0, none⟩)) false ty).run P w = .ok (.tuple #[.bool false]) w) ∨
    ∃ (k : Int) (v : Value) (w' : World) (cnt' : Nat), left k = true ∧ f k = some v ∧ (Instr.next (.pointer (some ⟨r, 0, none⟩)) false ty).run P w = .ok (.tuple #[.bool true, .int .i64 k, v]) w' ∧
      Rg w' r b N f (fun j => left j && !decide (j = k)) cnt' ∧ cnt' < cnt ∧ Kept (fun j => j = r) w w' ∧ w'.heap.size = w.heap.size ∧ (Instr.entry (.pointer (some ⟨r, 0, none⟩))).run P w' = .ok (.tuple #[.int .i64 k, v]) w' := by
  have hne := h.ne
  obtain ⟨es, clock, since, seen, c0, hb, hs, hn, h1, h2, hr, hold, rfl, hl1, hl2, hsc, hsk⟩ := h
  rcases run_next_at (P := P) w ty r b since c0 seen es clock hr hb hold hsc with ⟨h0, hrun⟩ | ⟨e, he, w1, hal, hrun⟩
  · refine Or.inl ⟨fun k => ?_, hrun⟩
    cases hk : left k
    · rfl
    · obtain ⟨x, hx, hxk⟩ := hl2 k hk
      rw [hl1 x hx k hxk, all_seen es seen h0 x hx] at hk
      cases hk
  · obtain ⟨hem, hes⟩ := mem_left he
    obtain ⟨k, hw, hek, hfk⟩ := h1 e hem
    have hr1 : w1.heap[r]? = some (.mapIter (some b) since seen c0) := by rcases hal with rfl | rfl <;> exact hr
    have hb1 : w1.heap[b]? = some (.map es clock) := by rcases hal with rfl | rfl <;> exact hb
    have hset := heap_set (o' := .mapIter (some b) since (seen.push e.born) clock) hr1
    have hb' : (setBlock w1 r (.mapIter (some b) since (seen.push e.born) clock)).heap[b]? = some (.map es clock) := (hset.2 b (fun e1 => hne e1.symm)).trans hb1
    have hen := run_entry_at (P := P) _ r b since seen es clock e hset.1 hb' hem ((stamped_iff es clock).1 hs).2.1
    rw [hek] at hrun hen
    refine Or.inr ⟨k, e.val, _, _, by rw [hl1 e hem k hek, hes]; rfl, hfk, hrun,
      ⟨es, clock, since, seen.push e.born, clock, hb', hs, hn, h1, h2, hset.1, hold, rfl, fun x hx j hxj => ?_, fun j hj => hl2 j (by simp at hj; exact hj.1), hsk, hsk⟩, left_shrinks es seen e he, ?_, ?_, hen⟩
    · show (left j && !decide (j = k)) = _
      rw [hl1 x hx j hxj, contains_push]
      by_cases hjk : j = k
      · subst hjk
        have : x = e := entry_eq hs hx hem (hxj.trans hek.symm)
        subst this
        simp
      · have hxe : x.born ≠ e.born := by
          intro hbe
          have := born_inj ((stamped_iff es clock).1 hs).2.1 hx hem hbe
          subst this
          rw [hek] at hxj
          exact hjk (ikey_inj hxj).symm
        have : (x.born == e.born) = false := by simp [hxe]
        rw [this]
        simp [hjk]
    · rcases hal with rfl | rfl <;> exact ⟨rfl, rfl, rfl, by simp [setBlock], fun i _ hi => hset.2 i hi⟩
    · rcases hal with rfl | rfl <;> simp [setBlock]
end
end Go.Proofs.Ytbnodhcgdgcebaa

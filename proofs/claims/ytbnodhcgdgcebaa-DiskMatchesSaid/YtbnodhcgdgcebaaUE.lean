/-
  Slices of slices of bytes in memory.
-/
import Derived.Test.YtbnodhcgdgcebaaUD
namespace Go.Proofs.Ytbnodhcgdgcebaa
open Go.RowKit
set_option linter.unusedSimpArgs false
set_option linter.unusedVariables false
/-- a row of one's own, of things of one cell, from any place of its block on -/
def Rw (w : World) (e : TypeId) (k : Option Nat) (v : Value) (n : Nat) (xs : List Value) : Prop :=
  xs.length = n ∧ ((k = none ∧ v = .slice none 0 0 ∧ n = 0) ∨
    ∃ g off cap cur, k = some g ∧ v = .slice (some ⟨g, off, none⟩) n cap ∧ w.heap[g]? = some (.cells cur e (0, 0)) ∧ n ≤ cap ∧ cap ≤ maxLen ∧ off + cap = cur.size ∧ (cur.toList.drop off).take n = xs)
theorem Rw.nil (w : World) (e : TypeId) : Rw w e none (.slice none 0 0) 0 [] := ⟨rfl, .inl ⟨rfl, rfl, rfl⟩⟩
theorem Rw.lt {w : World} {e : TypeId} {k : Option Nat} {v : Value} {n : Nat} {xs : List Value} (h : Rw w e k v n xs) : ∀ j, k = some j → j < w.heap.size := by
  intro j hj
  rcases h.2 with ⟨rfl, _⟩ | ⟨g, off, cap, cur, rfl, _, hg, _⟩
  · cases hj
  · cases hj; exact (Array.getElem?_eq_some_iff.1 hg).1
theorem Rw.kept {S : Nat → Prop} {w w' : World} {e : TypeId} {k : Option Nat} {v : Value} {n : Nat} {xs : List Value} (h : Rw w e k v n xs) (hk : Kept S w w') (hs : ∀ j, k = some j → ¬ S j) : Rw w' e k v n xs := by
  refine ⟨h.1, ?_⟩
  rcases h.2 with hn | ⟨g, off, cap, cur, rfl, rfl, hg, rest⟩
  · exact .inl hn
  · exact .inr ⟨g, off, cap, cur, rfl, rfl, hk.heap hg (hs g rfl), rest⟩
/-- it reads as its cells -/
theorem Rw.at {w : World} {e : TypeId} {k : Option Nat} {v : Value} {n : Nat} {xs : List Value} (h : Rw w e k v n xs) (hp : 0 < n) : ∃ g off cap, k = some g ∧ v = .slice (some ⟨g, off, none⟩) n cap ∧ n ≤ cap ∧ cap ≤ 9223372036854775807 ∧ g < w.heap.size ∧ ∀ j (hj : j < xs.length), w.cell? ⟨g, off + j, none⟩ = some xs[j] := by
  obtain ⟨hl, h⟩ := h
  rcases h with ⟨_, _, rfl⟩ | ⟨g, off, cap, cur, rfl, rfl, hg, h1, h2, h3, h4⟩
  · omega
  · refine ⟨g, off, cap, rfl, rfl, h1, h2, (Array.getElem?_eq_some_iff.1 hg).1, fun j hj => ?_⟩
    have hlen : j < n := by omega
    rw [show cur = cur.toList.toArray by simp] at hg
    rw [cell_of_row w g (off + j) _ _ _ hg]
    have e2 : xs[j]? = some xs[j] := List.getElem?_eq_getElem hj
    rw [← e2, ← h4, List.getElem?_take, if_pos hlen, List.getElem?_drop]
    simp
theorem Rw.one (w : World) (e : TypeId) (x : Value) : Rw (w.alloc (.cells #[x] e)) e (some w.heap.size) (.slice (some ⟨w.heap.size, 0, none⟩) 1 1) 1 [x] :=
  ⟨rfl, .inr ⟨w.heap.size, 0, 1, #[x], rfl, rfl, heap_new rfl, Nat.le_refl _, by decide, rfl, rfl⟩⟩
/-- cut short -/
theorem Rw.upto {w : World} {e : TypeId} {k : Option Nat} {a : Option Addr} {n c : Nat} {xs : List Value} (h : Rw w e k (.slice a n c) n xs) (m : Nat) (hm : m ≤ n) : Rw w e k (.slice a m c) m (xs.take m) := by
  obtain ⟨hl, h⟩ := h
  refine ⟨by rw [List.length_take]; omega, ?_⟩
  rcases h with ⟨rfl, e1, rfl⟩ | ⟨g, off, cap, cur, rfl, e1, hg, h1, h2, h3, h4⟩
  · cases e1
    obtain rfl : m = 0 := by omega
    exact .inl ⟨rfl, rfl, rfl⟩
  · cases e1
    refine .inr ⟨g, off, c, cur, rfl, rfl, hg, by omega, h2, h3, ?_⟩
    rw [← h4, List.take_take, Nat.min_eq_left hm]
/-- from a later place on -/
theorem Rw.from {w : World} {e : TypeId} {k : Option Nat} {g off n c : Nat} {xs : List Value} (h : Rw w e k (.slice (some ⟨g, off, none⟩) n c) n xs) (m : Nat) (hm : m ≤ n) : Rw w e k (.slice (some ⟨g, off + m, none⟩) (n - m) (c - m)) (n - m) (xs.drop m) := by
  obtain ⟨hl, h⟩ := h
  refine ⟨by rw [List.length_drop]; omega, ?_⟩
  rcases h with ⟨rfl, e1, rfl⟩ | ⟨g, off, cap, cur, rfl, e1, hg, h1, h2, h3, h4⟩
  · cases e1
  · cases e1
    refine .inr ⟨_, off + m, c - m, cur, rfl, rfl, hg, by omega, by omega, by omega, ?_⟩
    rw [← h4, List.drop_take, List.drop_drop]
section
variable {P : Program} (w : World)
theorem run_append_roomO (t tx ty e : TypeId) (i : TypeInfo) (ht : P.underlying t = some (.slice e)) (hi : P.info? e = some i) (hz : i.size = 1)
    (g off sLen sCap : Nat) (cur : Array Value) (hg : w.heap[g]? = some (.cells cur e (0, 0)))
    (x : Value) (m : Nat) (news : List Value) (hs : Src P 1 tx x m news w) (hroom : sLen + m ≤ sCap) (hfit : off + sLen + news.length ≤ cur.size) :
    (Builtin.append_ #[t, tx] ty #[.slice (some ⟨g, off, none⟩) sLen sCap, x]).run P w =
      .ok (.slice (some ⟨g, off, none⟩) (sLen + m) sCap) (w.setRow g (cur.toList.take (off + sLen) ++ news ++ cur.toList.drop (off + sLen + news.length)).toArray) := by
  have hst := run_storeCells_at P g (off + sLen) e news 0 cur w hg (by simpa using hfit) hs.one
  simp only [Nat.add_zero] at hst
  rcases hs.kind with ⟨e', hk⟩ | hk <;> simp [Builtin.append_, run_underlying ht, run_underlying hk, sizeOf, typeInfo, hi, hz, hs.len, hroom, hs.cells, Addr.add_mid, hst]
/-- append onto such a row -/
theorem run_append_rw (t tx ty e : TypeId) (i : TypeInfo) (z : Value) (bytes : Nat) (ht : P.underlying t = some (.slice e)) (hi : P.info? e = some i) (hz : i.zero = some z)
    (hsize : i.size = 1) (hby : i.bytes = bytes) (hzs : z.cells.size = 1) (k : Option Nat) (v : Value) (n : Nat) (xs : List Value) (hown : Rw w e k v n xs)
    (x : Value) (m : Nat) (news : List Value) (hs : Src P 1 tx x m news w) (h63 : n + m ≤ maxLen) (hbytes : (n + m) * bytes ≤ 140737488355328) :
    ∃ k' v' w', (Builtin.append_ #[t, tx] ty #[v, x]).run P w = .ok v' w' ∧ Rw w' e k' v' (n + m) (xs ++ news) ∧ (∀ j, k' = some j → k = some j ∨ w.heap.size ≤ j) ∧ Kept (fun j => k = some j) w w' := by
  subst hby
  have hsmall : n + m ≤ 9223372036854775807 := by simp only [maxLen] at h63; omega
  have hnl : news.length = m := by have := hs.newsLen; omega
  have hlen : (xs ++ news).length = n + m := by rw [List.length_append, hown.1, hnl]
  have grows : ∀ (b : Option Addr) (old : Nat), v = .slice b n old → old < n + m → (Builtin.firstCells i.size n (.slice b n old)).run P w.drew = .ok xs.toArray w.drew → ∃ k' v' w', (Builtin.append_ #[t, tx] ty #[v, x]).run P w = .ok v' w' ∧ Rw w' e k' v' (n + m) (xs ++ news) ∧ (∀ j, k' = some j → k = some j ∨ w.heap.size ≤ j) ∧ Kept (fun j => k = some j) w w' := by
    intro b old hv ho hf
    subst hv
    have hr := run_append_grow_src (P := P) w t tx ty e i z ht hi hz b n old xs hf x m news (hsize ▸ hs) ho (by omega) (growslice_fits (by omega) hbytes)
    have hge := grownCap_ge w (n + m) old e
    have hcm : grownCap w (n + m) old e ≤ maxLen := grownCap_le_maxLen w (n + m) old e h63
    refine ⟨some w.heap.size, _, _, hr, ⟨hlen, .inr ⟨w.heap.size, 0, _, _, rfl, rfl, heap_alloc_new w.drew _, hge, hcm, ?_, ?_⟩⟩, ?_, ?_⟩
    · simp only [Array.size_append, List.size_toArray, size_zeroCells, hzs, hlen]
      omega
    · simp only [Array.toList_append, List.drop_zero]
      rw [← hlen]
      exact List.take_left
    · intro j hj; cases hj; exact .inr (Nat.le_refl _)
    · exact (Kept.refl _ w).drew.alloc _
  have hown2 := hown
  rcases hown.2 with ⟨rfl, rfl, rfl⟩ | ⟨g, off, cap, cur, rfl, rfl, hg, hnc, hcm, hcs, htake⟩
  · have hx : xs = [] := List.eq_nil_of_length_eq_zero hown.1
    subst hx
    by_cases hm : m = 0
    · subst hm
      have hn : news = [] := List.eq_nil_of_length_eq_zero hnl
      subst hn
      refine ⟨none, .slice none 0 0, w, ?_, Rw.nil w e, (fun _ h => by cases h), Kept.refl _ _⟩
      have hc := hs.cells
      rcases hs.kind with ⟨e', hk⟩ | hk <;> simp [Builtin.append_, run_underlying ht, run_underlying hk, sizeOf, typeInfo, hi, hsize, hs.len, hc]
    · exact grows none 0 rfl (by omega) (run_firstCells_none w.drew i.size 0 0 0)
  · by_cases hroom : n + m ≤ cap
    · have hfit : off + n + news.length ≤ cur.size := by omega
      have hr := run_append_roomO (P := P) w t tx ty e i ht hi hsize g off n cap cur hg x m news hs hroom hfit
      have hcl : cur.toList.length = cur.size := by simp
      refine ⟨some g, _, _, hr, ⟨hlen, .inr ⟨g, off, cap, _, rfl, rfl, setRow_heap w g cur _ e _ hg, hroom, hcm, ?_, ?_⟩⟩, ?_, ?_⟩
      · simp only [List.size_toArray, List.length_append, List.length_take, List.length_drop, Array.length_toList]
        omega
      · have e1 : (cur.toList.take (off + n)).drop off = xs := by rw [List.drop_take, ← htake, show off + n - off = n by omega]
        simp only [List.append_assoc]
        rw [List.drop_append_of_le_length (by rw [List.length_take]; omega), e1, ← List.append_assoc, ← hlen]
        exact List.take_left
      · intro j hj; cases hj; exact .inl rfl
      · exact (Kept.refl (fun j => some g = some j) w).setRow (fun _ => rfl) _
    · refine grows _ cap rfl (by omega) (run_firstCells_some w.drew i.size n ⟨g, off, none⟩ n cap xs (by rw [hsize, hown.1]; omega) ?_)
      intro j u hu
      have hj : j < xs.length := (List.getElem?_eq_some_iff.1 hu).1
      obtain ⟨g', off', cap', e1, e2, _, _, _, hc⟩ := hown2.at (by have := hown.1; omega)
      cases e2
      rw [Addr.add_mid]
      have := hc j hj
      rw [List.getElem?_eq_getElem hj] at hu
      rw [← Option.some.inj hu]
      exact this
theorem wpList_append_rw {ops : Array Oper} {rest : List Oper} {o : Oper} {a : Act} {Q : Exit → Act → World → Prop} (hgd : o.guard = none) (s x : Operand) (t tx : TypeId)
    (ho : o.op = .call { callee := .builtin .append, args := #[s, x], argTypes := #[t, tx] })
    (e : TypeId) (i : TypeInfo) (z : Value) (bytes : Nat) (ht : P.underlying t = some (.slice e)) (hi : P.info? e = some i) (hz : i.zero = some z)
    (hsize : i.size = 1) (hby : i.bytes = bytes) (hzs : z.cells.size = 1) (k : Option Nat) (v : Value) (n : Nat) (xs : List Value) (hv : a.eval s = v) (hown : Rw w e k v n xs)
    (m : Nat) (news : List Value) (hs : Src P 1 tx (a.eval x) m news w) (h63 : n + m ≤ maxLen) (hbytes : (n + m) * bytes ≤ 140737488355328)
    (h : ∀ k' v' w', Rw w' e k' v' (n + m) (xs ++ news) → (∀ j, k' = some j → k = some j ∨ w.heap.size ≤ j) → Kept (fun j => k = some j) w w' → wpList P ops Q rest (a.put o.dst v') w') : wpList P ops Q (o :: rest) a w := by
  obtain ⟨k', v', w', hr, h2, h3, h4⟩ := run_append_rw (P := P) w t tx o.type e i z bytes ht hi hz hsize hby hzs k v n xs hown (a.eval x) m news hs h63 hbytes
  refine wpList_plain hgd fun K hK => ?_
  unfold Oper.wp execOp
  simp only [ho, resolve, invoke, builtin, Sem.run_bind, Sem.run_pure, Result.andThen_ok, List.map_toArray, List.map_cons, List.map_nil, hv, hr]
  exact hK _ _ (h k' v' w' h2 h3 h4)
end
/-- an element of it is stored -/
theorem Rw.set {w : World} {e : TypeId} {g off n c : Nat} {xs : List Value} (h : Rw w e (some g) (.slice (some ⟨g, off, none⟩) n c) n xs) (k : Nat) (hk : k < n) (u : Value) : Rw (w.setCell ⟨g, off + k, none⟩ u) e (some g) (.slice (some ⟨g, off, none⟩) n c) n (xs.set k u) := by
  obtain ⟨hl, h⟩ := h
  refine ⟨by rw [List.length_set]; exact hl, ?_⟩
  rcases h with ⟨e0, _⟩ | ⟨g', off', cap, cur, e0, e1, hg, h1, h2, h3, h4⟩
  · cases e0
  · cases e0; cases e1
    refine .inr ⟨_, off, c, _, rfl, rfl, heap_setCell_same w g (off + k) _ _ _ hg, h1, h2, by simpa using h3, ?_⟩
    apply List.ext_getElem?
    intro j
    rw [← h4]
    simp only [List.getElem?_take, List.getElem?_drop, List.getElem?_set]
    by_cases hj : j < n
    · simp only [if_pos hj]
      by_cases e : k = j
      · subst e
        have : off + k < cur.size := by omega
        simp [Array.getElem?_setIfInBounds, this, hj, List.length_take, List.length_drop]
        omega
      · rw [if_neg e]
        simp [Array.getElem?_setIfInBounds, e, hj]
    · simp only [if_neg hj]
      split
      · rename_i e; subst e
        exact absurd hk hj
      · rfl
end Go.Proofs.Ytbnodhcgdgcebaa

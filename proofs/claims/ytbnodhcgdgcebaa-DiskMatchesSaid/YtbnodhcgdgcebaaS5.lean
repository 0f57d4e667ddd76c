/-
  A disk in memory after a write; a slice of one sector.
-/
import Derived.Test.YtbnodhcgdgcebaaS4
namespace Go.Proofs.Ytbnodhcgdgcebaa
open Go.RowKit
set_option linter.unusedSimpArgs false
set_option linter.unusedVariables false
theorem fill_all (cs z : Array Value) (h : z.size = cs.size) : cs.zipIdx.foldl (fun r (c, j) => r.setIfInBounds (0 + j) c) z = cs := by
  have key := Array.foldl_induction («as» := cs.zipIdx) (motive := fun (k : Nat) (r : Array Value) => r.size = cs.size ∧ ∀ j, j < k → r[j]? = cs[j]?) (init := z) ⟨h, fun j hj => absurd hj (by omega)⟩ (f := fun r (c, j) => r.setIfInBounds (0 + j) c) (by
      rintro ⟨i, hi⟩ r ⟨h1, h2⟩
      have hi2 : i < cs.size := by simpa using hi
      have e : cs.zipIdx[i] = (cs[i], i) := by simp
      simp only [Fin.getElem_fin, e]
      refine ⟨by simpa using h1, fun j hj => ?_⟩
      rw [Nat.zero_add, Array.getElem?_setIfInBounds]
      split
      · rename_i hij
        subst hij
        rw [if_pos (by rw [h1]; exact hi2), Array.getElem?_eq_getElem hi2]
      · rename_i hij
        exact h2 j (by simp only at hj hij ⊢; omega))
  obtain ⟨h1, h2⟩ := key
  apply Array.ext_getElem?
  intro j
  by_cases hj : j < cs.size
  · exact h2 j (by simpa using hj)
  · rw [Array.getElem?_eq_none (by omega), Array.getElem?_eq_none (by omega)]
theorem run_build94 (cs : Array Value) (h : cs.size = 64) (W : World) :
    (Instr.buildSlice 89 1 #[(0, .agg cs)]).run Try.prog W = .ok (.slice (some ⟨W.heap.size, 0, none⟩) 1 1) (W.alloc (.cells cs 94)) := by
  obtain ⟨i0, hi, hz0, hz1, hz2⟩ := info_parts info94
  have hfold := fill_all cs ((Array.range 64).map (Z64[· % Z64.size]!)) (by simp [h])
  have hs : (sizeOf 94).run Try.prog W = .ok 64 W := by rw [run_sizeOf W hi]; simp [Program.cellsOf, hi, hz1]
  have hz : (zeroValue 94).run Try.prog W = .ok (.agg Z64) W := by simp [zeroValue, run_typeInfo W hi, hz0, Result.andThen]
  have hf : Instr.fill (fun i => some (i * 64, 64)) ((Array.range 64).map (Z64[· % Z64.size]!)) [(0, .agg cs)] = some cs := by
    unfold Instr.fill
    simp only [Value.cells, h, cells64, Array.size_map, Array.size_range, Nat.zero_mul, Nat.zero_add, ne_eq, not_true_eq_false, Nat.lt_irrefl, or_self, decide_false, Bool.or_self, if_false, Instr.fill]
    simp only [cells64, Nat.zero_add] at hfold
    simp only [Array.size_zipIdx] at hfold
    simp [hfold]
  unfold Instr.buildSlice
  simp only [run_underlying Try.underlying89, hs, hz, Sem.run_bind, Sem.run_pure, Result.andThen_ok, Nat.one_mul, Value.cells]
  simp [hs, hz, hf, Result.andThen, newRow, Value.cells]
theorem Dk.g_ne {w : World} {g gd gm : Nat} {row : Nat → Option Nat} {N : Nat} {d : DM} (h : Dk w g gd gm row N d) : g ≠ gd ∧ g ≠ gm ∧ gd ≠ gm ∧ ∀ k j, row k = some j → j ≠ g ∧ j ≠ gm := by
  obtain ⟨cap, cur, h1, h2, _⟩ := h.self
  obtain ⟨M, f, hm, _, hr⟩ := h.map
  obtain ⟨es, cl, hb, _⟩ := hm
  refine ⟨?_, ?_, ?_, fun k j hk => ?_⟩
  · rintro rfl; rw [h1] at h2; simp at h2
  · rintro rfl; rw [h1] at hb; cases hb
  · rintro rfl; rw [h2] at hb; cases hb
  · rcases hr k (h.dom k j hk) with ⟨_, _, h0⟩ | ⟨_, gk, v, hg, _, ho⟩
    · rw [h0] at hk; cases hk
    · rw [hg] at hk; cases hk
      rcases ho.2 with ⟨hn, _⟩ | ⟨g', _, _, hg', _, hh, _⟩
      · cases hn
      · cases hg'
        refine ⟨?_, ?_⟩
        · rintro rfl; rw [h1] at hh; simp at hh
        · rintro rfl; rw [hb] at hh; cases hh
def rowSet (row : Nat → Option Nat) (k : Nat) (x : Option Nat) : Nat → Option Nat := fun j => if j = k then x else row j
theorem rowSet_same (row : Nat → Option Nat) (k : Nat) (x : Option Nat) : rowSet row k x k = x := if_pos rfl
theorem rowSet_other (row : Nat → Option Nat) {k j : Nat} (x : Option Nat) (h : j ≠ k) : rowSet row k x j = row j := if_neg h
/-- behind m[k] = append(m[k], s) -/
theorem Dk.wrote {w p : World} {g gd gm : Nat} {row : Nat → Option Nat} {N : Nat} {d : DM} (h : Dk w g gd gm row N d) {k : Nat} (hk : k < d.S.length) {l : List UInt8} (hl : l.length = 64) {k' : Nat} {v' : Value}
    (hK : Kept (fun j => row k = some j) w p) (ho : Own p 94 64 (some k') v' (d.S[k].tail.length + 1) (scells (d.S[k].tail ++ [l]))) (hf : row k = some k' ∨ w.heap.size ≤ k') :
    ∃ p2, (Instr.mapUpdate 90 (.map (some gm)) (.int .i64 (k : Int)) v').run Try.prog p = .ok () p2 ∧ Dk p2 g gd gm (rowSet row k (some k')) (N + 1) ⟨d.S.modify k (· ++ [l]), d.on, d.fuse⟩ ∧ Kept (fun j => row k = some j ∨ j = gm) w p2 ∧ p2.heap.size = p.heap.size := by
  obtain ⟨n1, n2, n3, n4⟩ := h.g_ne
  have hlt := h.lt
  obtain ⟨hok, ⟨cap, cur, h1, h2, h3, h4, h5, h6⟩, ⟨M, f, hm, hfd, hr⟩, hdom, hinj, hap⟩ := h
  have hn4 := hok.2.1
  have hgm : ¬ row k = some gm := fun e => (n4 k gm e).2 rfl
  have hgm2 := hlt gm (.inr (.inr (.inl rfl)))
  obtain ⟨p2, hrun, hm2, hk2, hs2⟩ := (hm.kept hK hgm).put (P := Try.prog) Try.underlying90 Try.underlying3 (k : Int) (WalkArith.wf_i64 (by omega)) v'
  have hK2 : Kept (fun j => row k = some j ∨ j = gm) w p2 := (hK.mono fun j _ hj => .inl hj).trans hk2 (fun j _ hj => .inr hj)
  have hkgm : k' ≠ gm := by
    rcases hf with e | e
    · exact (n4 k k' e).2
    · omega
  have hkg : k' ≠ g ∧ k' ≠ gd := by
    rcases hf with e | e
    · exact ⟨(n4 k k' e).1, hap k k' e⟩
    · have := hlt g (.inl rfl)
      have := hlt gd (.inr (.inl rfl))
      omega
  have hlen : (d.S.modify k (· ++ [l])).length = d.S.length := by simp
  have hold : ∀ i j, row i = some j → i ≠ k → j ≠ k' := by
    intro i j hi hne e
    subst e
    rcases hf with e2 | e2
    · exact hne (hinj i k j hi e2)
    · have := hlt j (.inr (.inr (.inr ⟨i, hi⟩)))
      omega
  have hdm : (d.S.modify k (· ++ [l])).map dur = d.S.map dur := by
    apply List.ext_getElem (by simp)
    intro i hi hi2
    simp only [List.getElem_map, List.getElem_modify]
    split
    · rename_i e
      subst e
      obtain ⟨hne, _⟩ := hok.2.2.2 _ (List.getElem_mem hk)
      unfold dur
      cases hS : d.S[k] with
      | nil => exact absurd hS hne
      | cons x r => rfl
    · rfl
  refine ⟨p2, hrun, ⟨?_, ⟨cap, cur, ?_, ?_, ?_, h4, h5, ?_⟩, ⟨_, _, hm2, ?_, ?_⟩, ?_, ?_, ?_⟩, hK2, hs2⟩
  · have := DM.write_ok hok (k := k) hl
    unfold DM.write at this
    have e := this
    refine ⟨?_, ?_, hok.2.2.1, ?_⟩
    · simpa [DM.burn_S] using this.1
    · simpa [DM.burn_S] using this.2.1
    · simpa [DM.burn_S] using this.2.2.2
  · rw [hlen]
    exact hK2.heap h1 (fun e => by rcases e with e | e; exact (n4 k g e).1 rfl; exact n2 e)
  · exact hK2.heap h2 (fun e => by rcases e with e | e; exact hap k gd e rfl; exact n3 e)
  · rw [hlen]; exact h3
  · rw [hlen, h6, hdm]
  · intro j hj
    rw [hlen]
    by_cases e : j = (k : Int)
    · subst e; omega
    · rw [fput_other _ _ e] at hj; exact hfd j hj
  · intro j hj
    have hj' : j < d.S.length := by rw [hlen] at hj; exact hj
    by_cases e : j = k
    · subst e
      refine .inr ?_
      obtain ⟨hne, _⟩ := hok.2.2.2 _ (List.getElem_mem hj')
      have et : ((d.S.modify j (· ++ [l]))[j]).tail = d.S[j].tail ++ [l] := by
        rw [List.getElem_modify, if_pos rfl]
        cases hS : d.S[j] with
        | nil => exact absurd hS hne
        | cons x r => rfl
      simp only [et]
      refine ⟨by simp, k', v', rowSet_same _ _ _, fput_same _ _ _, ?_⟩
      rw [List.length_append]
      exact ho.kept hk2 (fun j hj e => hkgm (by cases hj; exact e))
    · have et : (d.S.modify k (· ++ [l]))[j] = d.S[j] := by rw [List.getElem_modify, if_neg (fun e2 => e e2.symm)]
      simp only [et, rowSet_other _ _ e, fput_other f v' (show (j : Int) ≠ (k : Int) by omega)]
      rcases hr j hj' with h0 | ⟨h0, gk, v, hg, hv, hoo⟩
      · exact .inl h0
      · refine .inr ⟨h0, gk, v, hg, hv, hoo.kept hK2 (fun j2 hj2 e2 => ?_)⟩
        cases hj2
        rcases e2 with e2 | e2
        · exact e (hinj j k gk hg e2)
        · exact (n4 j gk hg).2 e2
  · intro i j hi
    rw [hlen]
    by_cases e : i = k
    · omega
    · rw [rowSet_other _ _ e] at hi; exact hdom i j hi
  · intro i j g' hi hj
    by_cases e : i = k
    · by_cases e2 : j = k
      · omega
      · subst e
        rw [rowSet_same] at hi
        rw [rowSet_other _ _ e2] at hj
        cases hi
        exact absurd rfl (hold j _ hj e2)
    · rw [rowSet_other _ _ e] at hi
      by_cases e2 : j = k
      · subst e2
        rw [rowSet_same] at hj
        cases hj
        exact absurd rfl (hold i _ hi e)
      · rw [rowSet_other _ _ e2] at hj
        exact hinj i j g' hi hj
  · intro i g' hi
    by_cases e : i = k
    · subst e
      rw [rowSet_same] at hi
      cases hi
      exact hkg.2
    · rw [rowSet_other _ _ e] at hi
      exact hap i g' hi
end Go.Proofs.Ytbnodhcgdgcebaa

/-
  One more sector; operations of drawn regions on such slices.
-/
import Derived.Test.YtbnodhcgdgcebaaUF
import Derived.Test.YtbnodhcgdgcebaaU2
namespace Go.Proofs.Ytbnodhcgdgcebaa
open Go.RowKit
set_option linter.unusedSimpArgs false
set_option linter.unusedVariables false
theorem Bs.small {D : Nat → Prop} {w : World} {a : Option Addr} {n c : Nat} {l : List UInt8} (h : Bs D w a n c l) : Bs (fun x => D x ∧ x < w.heap.size) w a n c l := by
  obtain ⟨h1, h2, h3, h4, h5, h6⟩ := h
  refine ⟨h1, h2, h3, h4, h5, fun hn => ?_⟩
  obtain ⟨b, off, hD, ha, hr⟩ := h6 hn
  exact ⟨b, off, ⟨hD, range_lt hr (by rw [h2]; omega)⟩, ha, hr⟩
/-- a sector more -/
theorem Trk.push {w : World} {ty : TypeId} {ext : List Value} {g : Nat} {gso : Option Nat} {vo : Value} {row : Nat → Nat} {Bf : Nat → Prop} {S : List (List (List UInt8))} (h : Trk w ty ext g gso vo row Bf S) {xs : List Value} (hx : Rw w 56 gso vo S.length xs) (hin : ∀ k (hk : k < S.length), ∃ v, xs[k]? = some v ∧ InR w Bf (row k) v S[k])
    {w' : World} {gso' : Option Nat} {vo' v' : Value} {r : Nat} {s : List (List UInt8)} {Bf' : Nat → Prop}
    (hself : w'.heap[g]? = some (.cells (vo' :: ext).toArray ty (0, 0))) (hK : Kept (fun j => j = g ∨ gso = some j) w w')
    (hO : Rw w' 56 gso' vo' (S.length + 1) (xs ++ [v'])) (hI : InR w' Bf' r v' s)
    (hgs : ∀ j, gso' = some j → gso = some j ∨ w.heap.size ≤ j) (hr : w.heap.size ≤ r) (hgr : gso' ≠ some r)
    (hB : ∀ x, Bf x → Bf' x) (hB2 : ∀ x, Bf' x → Bf x ∨ (w.heap.size ≤ x ∧ x ≠ r ∧ gso' ≠ some x)) (hBl : ∀ x, Bf' x → x < w'.heap.size) :
    Trk w' ty ext g gso' vo' (fun i => if i = S.length then r else row i) Bf' (S ++ [s]) := by
  have hlt := h.blk_lt
  have hg : g < w.heap.size := hlt g (.inl rfl)
  have hrow : ∀ i, i < S.length → row i < w.heap.size := fun i hi => hlt _ (.inr (.inr (.inl ⟨i, hi, rfl⟩)))
  have hxl := hx.1
  have nb : ∀ x, x < w.heap.size → (Bf' x → Bf x) := fun x hx hb => (hB2 x hb).resolve_right (fun e => by omega)
  refine ⟨hself, ⟨xs ++ [v'], by rw [List.length_append]; exact hO, fun i hi => ?_⟩, fun i j hi hj e => ?_, fun e => ?_, fun i hi => ?_, ⟨fun hb => h.bf.1 (nb g hg hb), fun x hx2 hb => ?_, fun i hi hb => ?_⟩, hBl⟩
  · by_cases e : i = S.length
    · subst e
      refine ⟨v', ?_, ?_⟩
      · rw [List.getElem?_append_right (by omega), hxl, Nat.sub_self]; rfl
      · simp only [if_true, List.getElem_concat_length]
        exact hI
    · have hi2 : i < S.length := by rw [List.length_append, List.length_singleton] at hi; omega
      obtain ⟨v, h3, h4⟩ := hin i hi2
      refine ⟨v, by rw [List.getElem?_append_left (by omega)]; exact h3, ?_⟩
      rw [if_neg e, List.getElem_append_left hi2]
      refine (h4.kept hK ?_ ?_).dom hB
      · rintro (e2 | e2)
        · exact (h.ap2 i hi2).1 e2
        · exact (h.ap2 i hi2).2 e2
      · rintro x _ hx2 (e2 | e2)
        · subst e2; exact h.bf.1 hx2
        · exact h.bf.2.1 x e2 hx2
  · rw [List.length_append, List.length_singleton] at hi hj
    by_cases e1 : i = S.length
    · by_cases e2 : j = S.length
      · rw [e1, e2]
      · simp only [if_pos e1, if_neg e2] at e
        have := hrow j (by omega); omega
    · by_cases e2 : j = S.length
      · simp only [if_neg e1, if_pos e2] at e
        have := hrow i (by omega); omega
      · simp only [if_neg e1, if_neg e2] at e
        exact h.inj i j (by omega) (by omega) e
  · rcases hgs _ e with e | e
    · exact h.ap1 e
    · omega
  · rw [List.length_append, List.length_singleton] at hi
    by_cases e : i = S.length
    · simp only [if_pos e]
      exact ⟨by omega, hgr⟩
    · simp only [if_neg e]
      refine ⟨(h.ap2 i (by omega)).1, fun e2 => ?_⟩
      rcases hgs _ e2 with e2 | e2
      · exact (h.ap2 i (by omega)).2 e2
      · have := hrow i (by omega); omega
  · rcases hB2 x hb with hb | ⟨_, _, e⟩
    · rcases hgs _ hx2 with e | e
      · exact h.bf.2.1 x e hb
      · have := h.lt x hb; omega
    · exact e hx2
  · rw [List.length_append, List.length_singleton] at hi
    by_cases e : i = S.length
    · simp only [if_pos e] at hb
      rcases hB2 _ hb with hb | hb
      · have := h.lt _ hb; omega
      · exact hb.2.1 rfl
    · simp only [if_neg e] at hb
      exact h.bf.2.2 i (by omega) (nb _ (hrow i (by omega)) hb)
theorem run_bs56 (a : Option Addr) (n c : Nat) (W : World) : (Instr.buildSlice 56 1 #[(0, .slice a n c)]).run Try.prog W = .ok (.slice (some ⟨W.heap.size, 0, none⟩) 1 1) (W.alloc (.cells #[.slice a n c] 32)) := by kernel_rfl
theorem run_bs53 (a : Option Addr) (n c : Nat) (W : World) : (Instr.buildSlice 53 1 #[(0, .slice a n c)]).run Try.prog W = .ok (.slice (some ⟨W.heap.size, 0, none⟩) 1 1) (W.alloc (.cells #[.slice a n c] 56)) := by kernel_rfl
theorem src_one {w : World} {g : Nat} {t tx e' : TypeId} {a : Option Addr} {n c : Nat} (hk : Try.prog.underlying tx = some (.slice e')) (hg : w.heap[g]? = some (.cells #[.slice a n c] t (0, 0))) : Src Try.prog 1 tx (.slice (some ⟨g, 0, none⟩) 1 1) 1 [.slice a n c] w :=
  Src.ofSlice w hk ⟨g, 0, none⟩ 1 1 [.slice a n c] rfl (fun j u hu => by rw [Addr.add_mid, Nat.zero_add, cell_of_row w g j _ _ _ hg]; simpa using hu) (by simp [Value.oneCell'])
section
variable {P : Program}
theorem goes_append_rw {o : Oper} {a1 : Act} {w : World} {T : Value → World → Prop} (hgd : o.guard = none) (s x : Operand) (t tx : TypeId)
    (ho : o.op = .call { callee := .builtin .append, args := #[s, x], argTypes := #[t, tx] })
    (e : TypeId) (i : TypeInfo) (z : Value) (bytes : Nat) (ht : P.underlying t = some (.slice e)) (hi : P.info? e = some i) (hz : i.zero = some z)
    (hsize : i.size = 1) (hby : i.bytes = bytes) (hzs : z.cells.size = 1) (k : Option Nat) (v : Value) (n : Nat) (xs : List Value) (hv : a1.eval s = v) (hown : Rw w e k v n xs)
    (X : Value) (hx : a1.eval x = X) (m : Nat) (news : List Value) (hs : Src P 1 tx X m news w) (h63 : n + m ≤ maxLen) (hbytes : (n + m) * bytes ≤ 140737488355328)
    (h : ∀ k' v' w', Rw w' e k' v' (n + m) (xs ++ news) → (∀ j, k' = some j → k = some j ∨ w.heap.size ≤ j) → Kept (fun j => k = some j) w w' → T v' w') : wpList P #[] (Roll.Post a1 o.dst T) [o] a1 w := by
  obtain ⟨k', v', w', hr, h2, h3, h4⟩ := run_append_rw (P := P) w t tx o.type e i z bytes ht hi hz hsize hby hzs k v n xs hown X m news hs h63 hbytes
  refine Roll.goes_val v' hgd ?_ (h k' v' w' h2 h3 h4)
  unfold execOp
  simp only [ho, resolve, invoke, builtin, Sem.run_bind, Sem.run_pure, Result.andThen_ok, List.map_toArray, List.map_cons, List.map_nil, hv, hx, hr]
end
end Go.Proofs.Ytbnodhcgdgcebaa

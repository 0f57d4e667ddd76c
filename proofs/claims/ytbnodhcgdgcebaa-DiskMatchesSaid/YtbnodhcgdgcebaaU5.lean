/-
  Slices of elements that grow; slices cut short.
-/
import Derived.Test.YtbnodhcgdgcebaaU4
namespace Go.Proofs.Ytbnodhcgdgcebaa
open Go.RowKit
set_option linter.unusedSimpArgs false
set_option linter.unusedVariables false
theorem tcells_app (l m : List TM) : tcells (l ++ m) = tcells l ++ tcells m := by simp [tcells]
theorem tcells_one (l : List TM) : ∀ u ∈ tcells l, u.oneCell' = true := by
  intro u hu
  obtain ⟨t, _, ht⟩ := List.mem_flatMap.1 hu
  simp only [List.mem_cons, List.not_mem_nil, or_false] at ht
  rcases ht with rfl | rfl | rfl <;> rfl
theorem info67 : (Try.prog.info? 67).map (fun i => (i.zero, i.size, i.bytes)) = some (some (.agg #[.int .i64 0, .int .i64 0, .int .i64 0]), 3, 24) := by kernel_rfl
theorem tsize67 : (Value.agg #[.int .i64 0, .int .i64 0, .int .i64 0]).cells.size = 3 := rfl
/-- a slice of elements of one's own -/
def accO (v : Value) (ts : List TM) : Obj := ⟨fun B w => ∃ k, Own w 67 3 k v ts.length (tcells ts) ∧ (∀ j, k = some j → B j) ∧ ∀ t ∈ ts, TOk t, fun {B S w w'} h hk hs => by
  obtain ⟨k, h1, h2, h3⟩ := h
  exact ⟨k, h1.kept hk (fun j hj => hs j (h1.lt j hj) (h2 j hj)), h2, h3⟩⟩
theorem Lv.acc0 {w0 w : World} {L : List Obj} (h : Lv w0 w L) : Lv w0 w (accO (.slice none 0 0) [] :: L) :=
  h.cons (Below.refl _ _) (B := fun _ => False) ⟨none, Own.nil _ _ _, (fun _ h => by cases h), fun _ h => (by cases h)⟩ (fun _ h => h.elim)
theorem Lv.accTorn {w0 w : World} {L : List Obj} (h : Lv w0 w L) {i : Nat} {v : Value} {ts : List TM} (hi : L[i]? = some (accO v ts)) : Lv w0 w (L.set i (tornO v ts)) := by
  refine h.weaken hi (fun B hB => ?_)
  obtain ⟨k, h1, h2, h3⟩ := hB
  obtain ⟨a, c, hv, hs⟩ := h1.sl
  exact ⟨a, c, hv, rfl, hs.dom (fun b hb => h2 b hb), h3⟩
theorem wpList_acc {w0 w : World} {L : List Obj} (h : Lv w0 w L) {i : Nat} {v : Value} {ts : List TM} (hi : L[i]? = some (accO v ts)) {ops : Array Oper} {rest : List Oper} {o : Oper} {a : Act} {Q : Exit → Act → World → Prop} (hgd : o.guard = none) (s x : Operand)
    (ho : o.op = .call { callee := .builtin .append, args := #[s, x], argTypes := #[33, 33] }) (hs : a.eval s = v) (us : List TM) (hus : ∀ t ∈ us, TOk t) (hx : Src Try.prog 3 33 (a.eval x) us.length (tcells us) w) (hb : ts.length + us.length ≤ 1000000)
    (K : ∀ v' w', Lv w0 w' (L.set i (accO v' (ts ++ us))) → wpList Try.prog ops Q rest (a.put o.dst v') w') : wpList Try.prog ops Q (o :: rest) a w := by
  obtain ⟨i0, hi0, hz0, hz1, hz2⟩ := info_parts info67
  obtain ⟨B, ⟨k, h1, h2, h3⟩, hlt, _, hset⟩ := h.get hi
  refine wpList_append_any w hgd s x _ _ ho 67 i0 _ 3 24 Try.underlying33 hi0 hz0 hz1 hz2 tsize67 k v ts.length (tcells ts) hs h1 us.length (tcells us) hx (by unfold maxLen; omega) (by omega) ?_
  intro k' v' w' ho' hf' hK' hn'
  refine K v' w' (hset w' _ (fun j => k' = some j) ⟨k', ?_, fun _ h => h, fun t ht => ?_⟩ (hK'.mono (fun j _ hj => h2 j hj)) (fun j hj => (hf' j hj).imp (fun e => h2 j e) id) (fun j hj => ho'.lt j hj))
  · rw [List.length_append, tcells_app]; exact ho'
  · rcases List.mem_append.1 ht with ht | ht
    · exact h3 t ht
    · exact hus t ht
theorem run_bld67 (x y z : Value) (W : World) : (Instr.buildSlice 33 1 #[(0, .agg #[x, y, z])]).run Try.prog W = .ok (.slice (some ⟨W.heap.size, 0, none⟩) 1 1) (W.alloc (.cells #[x, y, z] 67)) := by kernel_rfl
theorem src_new {w : World} {g : Nat} {us : List TM} (hg : w.heap[g]? = some (.cells (tcells us).toArray 67 (0, 0))) : Src Try.prog 3 33 (.slice (some ⟨g, 0, none⟩) us.length us.length) us.length (tcells us) w :=
  Src.ofSlice w Try.underlying33 ⟨g, 0, none⟩ us.length us.length (tcells us) (tcells_len us) (fun j u hu => by rw [Addr.add_mid, Nat.zero_add, cell_of_row w g j _ _ _ hg]; simpa using hu) (tcells_one us)
theorem tcells_take (ts : List TM) (n : Nat) : tcells (ts.take n) = (tcells ts).take (n * 3) := by
  unfold tcells
  induction ts generalizing n with
  | nil => simp
  | cons t r ih =>
    cases n with
    | zero => simp
    | succ n =>
      rw [List.take_succ_cons, List.flatMap_cons, List.flatMap_cons, ih, show (n + 1) * 3 = n * 3 + 1 + 1 + 1 by omega]
      rfl
theorem Ts.upto {D : Nat → Prop} {w : World} {a : Option Addr} {n c : Nat} {ts : List TM} (h : Ts D w a n c ts) (F : Nat) (hF : F ≤ n) : Ts D w a F c (ts.take F) := by
  obtain ⟨h1, ⟨h2, h3, h4, h5, h6⟩, h7⟩ := h
  refine ⟨by rw [List.length_take]; omega, ⟨by rw [tcells_len, List.length_take]; omega, by omega, h4, h5, fun hp => ?_⟩, fun t ht => h7 t (List.mem_of_mem_take ht)⟩
  obtain ⟨b, off, hD, ha, hr⟩ := h6 (by omega)
  refine ⟨b, off, hD, ha, fun j v hv => hr j v ?_⟩
  rw [tcells_take, List.getElem?_take] at hv
  split at hv
  · exact hv
  · cases hv
/-- what Restart leaves of a sector -/
theorem restart_get (d : DM) (ts : List TM) (k : Nat) (hk : k < d.S.length) (hk2 : k < (d.restart ts).S.length) : lastB ((d.restart ts).S[k]'hk2) = match firstOf ts k with | some t => surv d.S[k] t.writes t.bytes | none => dur d.S[k] := by
  have e : (d.restart ts).S[k]'hk2 = [dur ((DM.torn d.S ts)[k]'(by rw [DM.torn_len]; exact hk))] := by
    simp only [DM.restart, List.getElem_map]
  rw [e, torn_get d.S ts k hk]
  cases firstOf ts k <;> rfl
theorem restart_len (d : DM) (ts : List TM) : (d.restart ts).S.length = d.S.length := by simp [DM.restart, DM.torn_len]
theorem restart_last (d : DM) (ts us : List TM) (h : ∀ k, k < d.S.length → firstOf ts k = firstOf us k) : (d.restart ts).S.map lastB = (d.restart us).S.map lastB := by
  apply List.ext_getElem (by simp [restart_len])
  intro k h1 h2
  have hk : k < d.S.length := by simpa [restart_len] using h1
  rw [List.getElem_map, List.getElem_map, restart_get d ts k hk, restart_get d us k hk, h k hk]
end Go.Proofs.Ytbnodhcgdgcebaa

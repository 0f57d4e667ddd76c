/-
  Slices of ints: what they read as; append; slicing.
-/
import Derived.Test.YtdfpjhpkkhdpoaaDoorE1
namespace Go.Proofs.YtdfpjhpkkhdpoaaDoor
open Go.RowKit
def ivals (l : List Int) : List Value := l.map fun x => Value.int .i64 x
theorem ivals_len (l : List Int) : (ivals l).length = l.length := by simp [ivals]
theorem ivals_app (l m : List Int) : ivals (l ++ m) = ivals l ++ ivals m := by simp [ivals]
theorem ivals_one (l : List Int) : ∀ u ∈ ivals l, u.oneCell' = true := by simp [ivals, Value.oneCell']
theorem ivals_get (l : List Int) (j : Nat) (u : Value) (h : (ivals l)[j]? = some u) : j < l.length ∧ u = .int .i64 (l.getD j 0) := by
  have hl : j < l.length := by have := (List.getElem?_eq_some_iff.1 h).1; simpa [ivals] using this
  refine ⟨hl, ?_⟩
  simp [ivals, hl] at h
  simp [hl, ← h]
theorem info3 : (Tryd.prog.info? 3).map (fun i => (i.zero, i.size, i.bytes)) = some (some (.int .i64 0), 1, 8) := by kernel_rfl
def Is (w : World) (a : Option Addr) (n c : Nat) (l : List Int) : Prop :=
  l.length = n ∧ n ≤ c ∧ c ≤ maxLen ∧ (a = none → c = 0) ∧ (0 < n → ∃ b off, a = some ⟨b, off, none⟩ ∧ ∀ i, i < n → w.cell? ⟨b, off + i, none⟩ = some (.int .i64 (l.getD i 0)))
theorem Is.below {w w' : World} {a : Option Addr} {n c : Nat} {l : List Int} (h : Is w a n c l) (hb : Below w.heap.size w w') : Is w' a n c l := by
  obtain ⟨h1, h2, h3, h4, h5⟩ := h
  refine ⟨h1, h2, h3, h4, fun hn => ?_⟩
  obtain ⟨b, off, ha, hc⟩ := h5 hn
  have hbl : b < w.heap.size := block_lt_of_cell (hc 0 hn)
  exact ⟨b, off, ha, fun i hi => (hb.cell (p := ⟨b, off + i, none⟩) hbl).trans (hc i hi)⟩
theorem Is_empty (w : World) (a : Option Addr) (c : Nat) (hc : c ≤ maxLen) (ha : a = none → c = 0) : Is w a 0 c [] :=
  ⟨rfl, Nat.zero_le _, hc, ha, fun h => absurd h (by omega)⟩
theorem Is_of_own {w : World} {base : Nat} {v : Value} {l : List Int} (h : w.ownsRow base 3 1 v l.length (ivals l)) :
    ∃ a c, v = .slice a l.length c ∧ Is w a l.length c l := by
  obtain ⟨_, ⟨rfl, hn⟩ | ⟨g, cap, cur, rfl, hb, hg, hnc, hcm, hcs, htk⟩⟩ := h
  · have : l = [] := List.eq_nil_of_length_eq_zero hn
    subst this
    exact ⟨none, 0, rfl, Is_empty _ _ _ (Nat.zero_le _) (fun _ => rfl)⟩
  · refine ⟨some ⟨g, 0, none⟩, cap, rfl, rfl, hnc, hcm, fun h => (by cases h), fun _ => ⟨g, 0, rfl, fun i hi => ?_⟩⟩
    rw [Nat.zero_add, cell_of_row w g i cur _ _ hg]
    have h1 : (cur.toList.take (l.length * 1))[i]? = (ivals l)[i]? := by rw [htk]
    rw [List.getElem?_take, if_pos (by omega)] at h1
    rw [← Array.getElem?_toList, h1]
    simp [ivals, hi]
theorem Is_take {w : World} {a : Option Addr} {n c : Nat} {l : List Int} (h : Is w a n c l) (F : Nat) (hF : F ≤ n) : Is w a F c (l.take F) := by
  obtain ⟨h1, h2, h3, h4, h5⟩ := h
  refine ⟨by rw [List.length_take]; omega, by omega, h3, h4, fun hp => ?_⟩
  obtain ⟨b, off, ha, hc⟩ := h5 (by omega)
  exact ⟨b, off, ha, fun i hi => by rw [hc i (by omega)]; simp only [List.getD_eq_getElem?_getD, List.getElem?_take, if_pos hi]⟩
theorem Is_from {w3 : World} {a : Option Addr} {n c : Nat} {m : List Int} (h : Is w3 a n c m) (F : Nat) (hF : F ≤ n) :
    Is w3 (if c = F then a else a.map (fun x => x.add F)) (n - F) (c - F) (m.drop F) := by
  obtain ⟨h1, h2, h3, h4, h5⟩ := h
  have hc : c ≤ 9223372036854775807 := h3
  refine ⟨by rw [List.length_drop, h1], by omega, by unfold maxLen; omega, ?_, fun hp => ?_⟩
  · intro ha
    by_cases hcF : c = F
    · omega
    · rw [if_neg hcF] at ha
      cases a with
      | none => have := h4 rfl; omega
      | some x => cases ha
  · obtain ⟨b, off, hab, hcell⟩ := h5 (by omega)
    subst hab
    rw [if_neg (by omega)]
    refine ⟨b, off + F, ?_, fun i hi => ?_⟩
    · show some (Addr.add ⟨b, off, none⟩ F) = _
      rw [Addr.add_mid]
    · rw [Nat.add_assoc, hcell (F + i) (by omega)]; simp only [List.getD_eq_getElem?_getD, List.getElem?_drop]
/-- append of a slice of ints onto a row of the call's own -/
theorem append_is {w : World} {ops : Array Oper} {rest : List Oper} {o : Oper} {act : Act} {Q : Exit → Act → World → Prop} (hgd : o.guard = none) (s x : Operand)
    (ho : o.op = .call { callee := .builtin .append, args := #[s, x], argTypes := #[43, 43] }) (base : Nat)
    (v : Value) (n : Nat) (xs : List Value) (hs : act.eval s = v) (hown : w.ownsRow base 3 1 v n xs)
    (a : Option Addr) (m c : Nat) (l : List Int) (hx : act.eval x = .slice a m c) (hB : Is w a m c l) (hn : n + m ≤ 17592186044416) (hbase : base ≤ w.heap.size)
    (h : ∀ v' w', w'.ownsRow base 3 1 v' (n + m) (xs ++ ivals l) → w.grownBy w' v.ownBlock → wpList Tryd.prog ops Q rest (act.put o.dst v') w') :
    wpList Tryd.prog ops Q (o :: rest) act w := by
  obtain ⟨i0, hi, hz0, hz1, hz2⟩ := info_parts info3
  obtain ⟨h1, h2, h3, h4, h5⟩ := hB
  cases a with
  | none =>
    have hc := h4 rfl
    subst hc
    have hm : m = 0 := by omega
    subst hm
    have hl : l = [] := List.eq_nil_of_length_eq_zero h1
    subst hl
    refine wpList_append_own_none hgd s x 43 ho base 3 i0 1 Tryd.underlying43 hi v n xs hs hown hx (h v w ?_ (World.grownBy.refl _ _))
    simpa [ivals] using hown
  | some ad =>
    refine wpList_append_own w hgd s x 43 ho base 3 i0 (.int .i64 0) 1 8 Tryd.underlying43 hi hz0 hz1 hz2 rfl (by decide) v n xs hs hown ad m c (ivals l) hx (by rw [ivals_len, h1]; omega) ?_ (ivals_one l) (by unfold maxLen; omega) (by omega) hbase (fun v' w' a1 a2 _ => h v' w' a1 a2)
    intro j u hu
    obtain ⟨hj, rfl⟩ := ivals_get l j u hu
    obtain ⟨b, off, hab, hc⟩ := h5 (by omega)
    cases hab
    rw [show (⟨b, off, none⟩ : Addr).add j = ⟨b, off + j, none⟩ by unfold Addr.add; split <;> simp_all]
    exact hc j (by omega)
theorem iown_nil (w : World) (base : Nat) : w.ownsRow base 3 1 (.slice none 0 0) 0 [] := ⟨by simp, .inl ⟨rfl, rfl⟩⟩
theorem iown_below {B : Nat} {a w w' : World} {v : Value} {n : Nat} {xs : List Value} (h : Below B a w) (hown : w.ownsRow B 3 1 v n xs) (hg : w.grownBy w' v.ownBlock) (hB : B ≤ w.heap.size) : Below B a w' :=
  h.grown hg hB (fun k hk => (hown.lt k hk).1)
def isliceF (v lo : Value) : Sem Next := do pure (.value (← Instr.sliceAt 43 v (some lo) none none))
def isliceT (v hi : Value) : Sem Next := do pure (.value (← Instr.sliceAt 43 v none (some hi) none))
theorem exec_isliceF (ρ : Operand → Value) (d : Option Tmp) (x y : Operand) (ty : TypeId) (pos : String) (af : Array Edge) (gd : Option (Nat × Bool)) :
    execOp ρ { dst := d, op := .slice 43 x (some y) none none, type := ty, pos := pos, after := af, guard := gd } = isliceF (ρ x) (ρ y) := rfl
theorem exec_isliceT (ρ : Operand → Value) (d : Option Tmp) (x y : Operand) (ty : TypeId) (pos : String) (af : Array Edge) (gd : Option (Nat × Bool)) :
    execOp ρ { dst := d, op := .slice 43 x none (some y) none, type := ty, pos := pos, after := af, guard := gd } = isliceT (ρ x) (ρ y) := rfl
theorem run_isliceF {w3 : World} {a : Option Addr} {n c : Nat} {m : List Int} (h : Is w3 a n c m) (F : Nat) (hF : F ≤ n) :
    ∃ a' c', (∀ w, (isliceF (.slice a n c) (.int .i64 (F : Int))).run Tryd.prog w = .ok (.value (.slice a' (n - F) c')) w) ∧ Is w3 a' (n - F) c' (m.drop F) := by
  refine ⟨if c = F then a else a.map (fun x => x.add F), c - F, fun w => ?_, Is_from h F hF⟩
  have h2 := h.2.1
  have hc : c ≤ 9223372036854775807 := h.2.2.1
  have z0 : (0 : Int) ≤ (F : Int) := by omega
  have z1 : (F : Int) ≤ (n : Int) := by omega
  clear h
  unfold isliceF
  go_simp
theorem run_isliceT {w3 : World} {a : Option Addr} {n c : Nat} {m : List Int} (h : Is w3 a n c m) (F : Nat) (hF : F ≤ n) :
    (∀ w, (isliceT (.slice a n c) (.int .i64 (F : Int))).run Tryd.prog w = .ok (.value (.slice a F c)) w) ∧ Is w3 a F c (m.take F) := by
  refine ⟨fun w => ?_, Is_take h F hF⟩
  have h2 := h.2.1
  have hc : c ≤ 9223372036854775807 := h.2.2.1
  have z0 : (0 : Int) ≤ (F : Int) := by omega
  have z1 : (F : Int) ≤ (c : Int) := by omega
  clear h
  unfold isliceT
  go_simp
/-- a sorted list with a number put behind all that are smaller -/
def insAt (x : Int) (l : List Int) (k : Nat) : List Int := l.take k ++ [x] ++ l.drop k
theorem insAt_len (x : Int) (l : List Int) (k : Nat) (h : k ≤ l.length) : (insAt x l k).length = l.length + 1 := by simp [insAt]; omega
theorem insAt_mem (x : Int) (l : List Int) (k : Nat) : ∀ y ∈ insAt x l k, y = x ∨ y ∈ l := by
  intro y hy
  simp only [insAt, List.mem_append, List.mem_singleton] at hy
  rcases hy with (h | h) | h
  · exact .inr (List.mem_of_mem_take h)
  · exact .inl h
  · exact .inr (List.mem_of_mem_drop h)
theorem insAt_sorted (x : Int) (l : List Int) (k : Nat) (hs : l.Pairwise (· ≤ ·)) (h1 : ∀ y ∈ l.take k, y ≤ x) (h2 : ∀ y ∈ l.drop k, x ≤ y) : (insAt x l k).Pairwise (· ≤ ·) := by
  have ht := List.Pairwise.sublist (List.take_sublist k l) hs
  have hd := List.Pairwise.sublist (List.drop_sublist k l) hs
  have hx : ∀ a ∈ l.take k, ∀ b ∈ l.drop k, a ≤ b := fun a ha b hb => by have := h1 a ha; have := h2 b hb; omega
  rw [insAt, List.append_assoc, List.pairwise_append]
  refine ⟨ht, ?_, ?_⟩
  · rw [List.singleton_append, List.pairwise_cons]
    exact ⟨h2, hd⟩
  · intro a ha b hb
    rw [List.singleton_append, List.mem_cons] at hb
    rcases hb with rfl | hb
    · exact h1 a ha
    · exact hx a ha b hb
end Go.Proofs.YtdfpjhpkkhdpoaaDoor

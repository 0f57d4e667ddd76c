/-
  Walks over the digest seat: slices of bytes; slices.Grow and slices.Concat.
-/
import Derived.Test.YtdfpjhpkkhdpoaaDoorA5
import Derived.Laws.AppendOwnNone
import Derived.Lib.AppendZerosOnto
namespace Go.Proofs.YtdfpjhpkkhdpoaaDoor
open Go.RowKit
/-- a slice that reads as bytes -/
def Bs (w : World) (a : Option Addr) (n c : Nat) (l : List UInt8) : Prop :=
  l.length = n ∧ n ≤ c ∧ c ≤ maxLen ∧ (a = none → c = 0) ∧ (0 < n → ∃ b off, a = some ⟨b, off, none⟩ ∧ ∀ i, i < n → w.cell? ⟨b, off + i, none⟩ = some (.int .u8 (bi (byteAt l i))))
theorem Bs.below {w w' : World} {a : Option Addr} {n c : Nat} {l : List UInt8} (h : Bs w a n c l) (hb : Below w.heap.size w w') : Bs w' a n c l := by
  obtain ⟨h1, h2, h3, h4, h5⟩ := h
  refine ⟨h1, h2, h3, h4, fun hn => ?_⟩
  obtain ⟨b, off, ha, hc⟩ := h5 hn
  have hbl : b < w.heap.size := block_lt_of_cell (hc 0 hn)
  exact ⟨b, off, ha, fun i hi => (hb.cell (p := ⟨b, off + i, none⟩) hbl).trans (hc i hi)⟩
theorem Bs.drewN {w : World} {a : Option Addr} {n c : Nat} {l : List UInt8} (h : Bs w a n c l) (k : Nat) : Bs (w.drewN k) a n c l := h
theorem Bs.alloc {w : World} {a : Option Addr} {n c : Nat} {l : List UInt8} (h : Bs w a n c l) (o : Obj) : Bs (w.alloc o) a n c l :=
  h.below ((Below.refl _ _).alloc (Nat.le_refl _) _)
/-- the nil slice, an empty slice -/
theorem Bs_empty (w : World) (a : Option Addr) (c : Nat) (hc : c ≤ maxLen) (ha : a = none → c = 0) : Bs w a 0 c [] :=
  ⟨rfl, Nat.zero_le _, hc, ha, fun h => absurd h (by omega)⟩
theorem byteAt_lt (l : List UInt8) (i : Nat) (h : i < l.length) : byteAt l i = l[i] := by simp [byteAt, h]
theorem byteAt_take (l : List UInt8) (k i : Nat) (h : i < k) : byteAt (l.take k) i = byteAt l i := by
  simp only [byteAt, List.getD_eq_getElem?_getD, List.getElem?_take, if_pos h]
theorem byteAt_drop (l : List UInt8) (k i : Nat) : byteAt (l.drop k) i = byteAt l (k + i) := by
  simp only [byteAt, List.getD_eq_getElem?_getD, List.getElem?_drop]
/-- what a row of the call's own reads as -/
theorem Bs_of_own {w : World} {base : Nat} {v : Value} {l : List UInt8} (h : w.ownsRow base 5 1 v l.length (vals l)) :
    ∃ a c, v = .slice a l.length c ∧ Bs w a l.length c l := by
  obtain ⟨_, ⟨rfl, hn⟩ | ⟨g, cap, cur, rfl, hb, hg, hnc, hcm, hcs, htk⟩⟩ := h
  · have : l = [] := List.eq_nil_of_length_eq_zero hn
    subst this
    exact ⟨none, 0, rfl, Bs_empty _ _ _ (Nat.zero_le _) (fun _ => rfl)⟩
  · refine ⟨some ⟨g, 0, none⟩, cap, rfl, rfl, hnc, hcm, fun h => (by cases h), fun _ => ⟨g, 0, rfl, fun i hi => ?_⟩⟩
    rw [Nat.zero_add, cell_of_row w g i cur _ _ hg]
    have h1 : (cur.toList.take (l.length * 1))[i]? = (vals l)[i]? := by rw [htk]
    rw [List.getElem?_take, if_pos (by omega)] at h1
    rw [← Array.getElem?_toList, h1]
    simp [vals, byteAt, hi]
/-- append of a slice of bytes onto a row of the call's own -/
theorem append_bs {w : World} {ops : Array Oper} {rest : List Oper} {o : Oper} {act : Act} {Q : Exit → Act → World → Prop} (hgd : o.guard = none) (s x : Operand)
    (ho : o.op = .call { callee := .builtin .append, args := #[s, x], argTypes := #[22, 22] }) (base : Nat)
    (v : Value) (n : Nat) (xs : List Value) (hs : act.eval s = v) (hown : w.ownsRow base 5 1 v n xs)
    (a : Option Addr) (m c : Nat) (l : List UInt8) (hx : act.eval x = .slice a m c) (hB : Bs w a m c l) (hn : n + m ≤ 140737488355328) (hbase : base ≤ w.heap.size)
    (h : ∀ v' w', w'.ownsRow base 5 1 v' (n + m) (xs ++ vals l) → w.grownBy w' v.ownBlock → wpList Tryd.prog ops Q rest (act.put o.dst v') w') :
    wpList Tryd.prog ops Q (o :: rest) act w := by
  obtain ⟨i0, hi, hz0, hz1, hz2⟩ := info_parts info5
  obtain ⟨h1, h2, h3, h4, h5⟩ := hB
  cases a with
  | none =>
    have hc := h4 rfl
    subst hc
    have hm : m = 0 := by omega
    subst hm
    have hl : l = [] := List.eq_nil_of_length_eq_zero h1
    subst hl
    refine wpList_append_own_none hgd s x 22 ho base 5 i0 1 Tryd.underlying22 hi v n xs hs hown hx (h v w ?_ (World.grownBy.refl _ _))
    simpa [vals] using hown
  | some ad =>
    refine wpList_append_own w hgd s x 22 ho base 5 i0 (.int .u8 0) 1 1 Tryd.underlying22 hi hz0 hz1 hz2 rfl (by decide) v n xs hs hown ad m c (vals l) hx (by rw [vals_len, h1]; omega) ?_ (vals_one l) (by unfold maxLen; omega) (by omega) hbase (fun v' w' a1 a2 _ => h v' w' a1 a2)
    intro j u hu
    obtain ⟨hj, rfl⟩ := vals_get l j u hu
    obtain ⟨b, off, hab, hc⟩ := h5 (by omega)
    cases hab
    rw [show (⟨b, off, none⟩ : Addr).add j = ⟨b, off + j, none⟩ by unfold Addr.add; split <;> simp_all]
    exact hc j (by omega)
theorem own_below {B : Nat} {a w w' : World} {v : Value} {n : Nat} {xs : List Value} (h : Below B a w) (hown : w.ownsRow B 5 1 v n xs) (hg : w.grownBy w' v.ownBlock) (hB : B ≤ w.heap.size) : Below B a w' :=
  h.grown hg hB (fun k hk => (hown.lt k hk).1)
/-- append of n zero bytes onto the nil slice -/
theorem append_zeros {w : World} {ops : Array Oper} {rest : List Oper} {o : Oper} {act : Act} {Q : Exit → Act → World → Prop} (hgd : o.guard = none) (s x : Operand)
    (ho : o.op = .call { callee := .builtin .append, args := #[s, x], argTypes := #[22, 3] }) (n : Nat) (h0 : 0 < n) (hn : n ≤ 140737488355328)
    (hs : act.eval s = .slice none 0 0) (hx : act.eval x = .int .i64 n)
    (hh : ∀ (G : Nat) (cs : Array Value), n ≤ G → G ≤ maxLen → cs.size = G → wpList Tryd.prog ops Q rest (act.put o.dst (.slice (some ⟨w.heap.size, 0, none⟩) n G)) (w.drew.alloc (.cells cs 5))) :
    wpList Tryd.prog ops Q (o :: rest) act w := by
  obtain ⟨i0, hi, hz0, hz1, hz2⟩ := info_parts info5
  have h := Lib.run_append_grow_zeros (P := Tryd.prog) w 22 3 o.type 5 i0 (.int .u8 0) .i64 .i64 Tryd.underlying22 Tryd.underlying3 hi hz0 none 0 0 [] (run_firstCells_none w.drew i0.size 0 0 0) n h0 (by omega) (by omega) (by omega) (by rw [hz2]; omega)
    (by rw [hz2]; exact growslice_fits (by omega) (by omega))
  rw [Nat.zero_add] at h
  have hG := grownCap_ge w n 0 5
  have hG2 := grownCap_le_maxLen w n 0 5 (by unfold maxLen; omega)
  refine wpList_plain hgd fun K hK => ?_
  unfold Oper.wp
  simp only [execOp, ho, resolve, invoke, builtin, hs, hx, List.map_cons, List.map_nil, List.map_toArray, Sem.run_bind, Sem.run_pure, Result.andThen_ok, h]
  refine hK _ _ (hh _ _ hG hG2 ?_)
  simp only [Array.size_append, size_zeroCells, List.size_toArray, List.length_nil, Value.cells]
  simp
  omega
set_option maxRecDepth 100000 in
set_option maxHeartbeats 400000 in
/-- slices.Grow of the nil slice -/
theorem grow_any (n : Nat) (w : World) (hn : n ≤ 140737488355328) :
    Calls Tryd.prog 45 #[.slice none 0 0, .int .i64 n] w fun e w' => ∃ v, e = .returned v ∧ w'.ownsRow w.heap.size 5 1 v 0 [] ∧ Below w.heap.size w w' := by
  by_cases h0 : n = 0
  · subst h0
    go_enter Tryd.func45, Tryd.ntmps45
    go_wp2
    go_ret
    exact ⟨_, rfl, World.ownsRow_nil _ _ _ _, Below.refl _ _⟩
  · have n1 : ¬ ((n : Int) < 0) := by omega
    have n2 : (0 : Int) < (n : Int) := by omega
    have n3 : 0 < n := by omega
    go_enter Tryd.func45, Tryd.ntmps45
    go_wp2_with (at_builtin; refine append_zeros rfl (.tmp 20) (.tmp 21) rfl n n3 hn rfl rfl ?_)
    intro G cs hG hG2 hcs
    have hm : G ≤ 9223372036854775807 := hG2
    have Hcs := Lib.hid hcs
    clear hcs
    go_wp2
    go_ret
    refine ⟨_, rfl, ⟨rfl, .inr ⟨w.heap.size, G, cs, rfl, Nat.le_refl _, ?_, Nat.zero_le _, hG2, by rw [Hcs.out, Nat.mul_one], rfl⟩⟩, ?_⟩
    · exact heap_new rfl
    · exact ((Below.refl _ _).alloc (Nat.le_refl _) _).drew
end Go.Proofs.YtdfpjhpkkhdpoaaDoor

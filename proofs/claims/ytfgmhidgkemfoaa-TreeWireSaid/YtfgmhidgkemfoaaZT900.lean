/-
  Texts K0, WiM1, WiA0, WiA1, WiA2, WiA3, WiA4, WiA5, WiA6, WiA7, WiM2, WiA8, WiA9, WiM3, M1, A0, N0, N1, N2, N3, N4, N5, N6, N7, N8, one behind the other.
-/
import Derived.Laws.AppendOwn
import Derived.Laws.OwnMore
import Derived.Deep.AppendSrc
import Derived.Deep.MidRow
import Derived.Lib.Hide
import GoSem.Claim
import Derived.WalkKit
import Derived.WalkSpells
import Derived.WalkLawsBesides
import Derived.Laws.BytesString
import Derived.Laws.AppendOwnNone
import Derived.Laws.ShiftsVarLaws
import Derived.Laws.BitsAllLaws
import Derived.Lib.Bytealg
import Derived.Laws.Externs
import Derived.Deep.QuietTactic
import Derived.BigQuiet
import Derived.Deep.CutBlock
import Derived.OwnWalk
import Derived.Deep.DrawnRows
import Derived.Deep.CutRange
import Derived.Deep.LoopGhost
import Derived.Laws.Tables
import Derived.Laws.ResultCell
import Derived.Deep.WholeRow
import Derived.Lib.Strings
import Derived.Test.YtfgmhidgkemfoaaRows
namespace Go.Proofs.Ytfgmhidgkemfoaa
open Go.RowKit
/-- only blocks in S have changed -/
structure Kept (S : Nat → Prop) (w w' : World) : Prop where
  os : w'.os = w.os
  tape : w'.tape = w.tape
  output : w'.output = w.output
  size : w.heap.size ≤ w'.heap.size
  block : ∀ k, k < w.heap.size → ¬ S k → w'.heap[k]? = w.heap[k]?
theorem Kept.refl (S : Nat → Prop) (w : World) : Kept S w w := ⟨rfl, rfl, rfl, Nat.le_refl _, fun _ _ _ => rfl⟩
theorem Kept.trans {S T : Nat → Prop} {a b c : World} (h : Kept S a b) (k : Kept T b c) (hT : ∀ j, j < a.heap.size → T j → S j) : Kept S a c :=
  ⟨k.os.trans h.os, k.tape.trans h.tape, k.output.trans h.output, Nat.le_trans h.size k.size, fun i hi hs => (k.block i (Nat.lt_of_lt_of_le hi h.size) (fun ht => hs (hT i hi ht))).trans (h.block i hi hs)⟩
theorem Kept.mono {S T : Nat → Prop} {w w' : World} (h : Kept S w w') (hT : ∀ j, j < w.heap.size → S j → T j) : Kept T w w' :=
  ⟨h.os, h.tape, h.output, h.size, fun i hi ht => h.block i hi (fun hs => ht (hT i hi hs))⟩
theorem Kept.below {S : Nat → Prop} {w w' : World} {B : Nat} (h : Kept S w w') (hB : B ≤ w.heap.size) (hS : ∀ j, j < B → ¬ S j) : Below B w w' :=
  ⟨h.os, h.tape, h.output, h.size, fun k hk => h.block k (by omega) (hS k hk)⟩
theorem Kept.of_below {w w' : World} (S : Nat → Prop) (h : Below w.heap.size w w') : Kept S w w' := ⟨h.os, h.tape, h.output, h.size, fun k hk _ => h.block k hk⟩
theorem Kept.drew {S : Nat → Prop} {a w : World} (h : Kept S a w) : Kept S a w.drew := ⟨h.os, h.tape, h.output, h.size, h.block⟩
theorem Kept.alloc {S : Nat → Prop} {a w : World} (h : Kept S a w) (o : Obj) : Kept S a (w.alloc o) :=
  h.trans (T := S) ⟨rfl, rfl, rfl, by simp, fun k hk _ => Below.heap_alloc _ _ _ hk⟩ (fun _ _ h => h)
theorem Kept.setCell {S : Nat → Prop} {a w : World} (h : Kept S a w) {p : Addr} (hp : p.block < a.heap.size → S p.block) (u : Value) : Kept S a (w.setCell p u) :=
  ⟨h.os, h.tape, h.output, by simpa [World.setCell] using h.size, fun k hk hs => (Below.heap_setCell _ _ _ _ (fun e => hs (by rw [e]; exact hp (by rw [← e]; exact hk)))).trans (h.block k hk hs)⟩
theorem Kept.setRow {S : Nat → Prop} {a w : World} (h : Kept S a w) {g : Nat} (hp : g < a.heap.size → S g) (cs : Array Value) : Kept S a (w.setRow g cs) :=
  ⟨h.os, h.tape, h.output, by simpa [World.setRow] using h.size, fun k hk hs => (setRow_other w g k _ (fun e => hs (by rw [e]; exact hp (by rw [← e]; exact hk)))).trans (h.block k hk hs)⟩
theorem Kept.grown {w w' : World} {k : Option Nat} (h : w.grownBy w' k) : Kept (fun j => k = some j) w w' :=
  ⟨h.os, h.tape, h.output, h.size, fun j hj hs => h.block j hj (fun e => hs e.symm)⟩
theorem Kept.cell {S : Nat → Prop} {w w' : World} (h : Kept S w w') {p : Addr} (hp : p.block < w.heap.size) (hs : ¬ S p.block) : w'.cell? p = w.cell? p := World.cell?_of_block (w := w) (h.block p.block hp hs)
theorem Kept.frozen {S : Nat → Prop} {w w' : World} (h : Kept S w w') {p : Addr} (hp : p.block < w.heap.size) (hs : ¬ S p.block) : w'.frozen? p = w.frozen? p := World.frozen?_of_block (w := w) (h.block p.block hp hs)
theorem Kept.heap {S : Nat → Prop} {w w' : World} (h : Kept S w w') {g : Nat} {o : Obj} (hg : w.heap[g]? = some o) (hs : ¬ S g) : w'.heap[g]? = some o :=
  (h.block g (Array.getElem?_eq_some_iff.1 hg).1 hs).trans hg
/-- a row of one's own in block k: the nil slice, or the head of a block whose first cells are xs -/
def Own (w : World) (e : TypeId) (size : Nat) (k : Option Nat) (v : Value) (n : Nat) (xs : List Value) : Prop :=
  xs.length = n * size ∧ ((k = none ∧ v = .slice none 0 0 ∧ n = 0) ∨
    ∃ g cap cur, k = some g ∧ v = .slice (some ⟨g, 0, none⟩) n cap ∧ w.heap[g]? = some (.cells cur e (0, 0)) ∧ n ≤ cap ∧ cap ≤ maxLen ∧ cur.size = cap * size ∧ cur.toList.take (n * size) = xs)
theorem Own.nil (w : World) (e : TypeId) (size : Nat) : Own w e size none (.slice none 0 0) 0 [] := ⟨by simp, .inl ⟨rfl, rfl, rfl⟩⟩
theorem Own.made (w : World) (e : TypeId) (size : Nat) (cur : Array Value) (n : Nat) (hm : n ≤ maxLen) (hs : cur.size = n * size) :
    Own (w.alloc (.cells cur e)) e size (some w.heap.size) (.slice (some ⟨w.heap.size, 0, none⟩) n n) n cur.toList :=
  ⟨by simpa using hs, .inr ⟨w.heap.size, n, cur, rfl, rfl, heap_alloc_new w _, Nat.le_refl _, hm, hs, List.take_of_length_le (by simp [hs])⟩⟩
theorem Own.lt {w : World} {e : TypeId} {size : Nat} {k : Option Nat} {v : Value} {n : Nat} {xs : List Value} (h : Own w e size k v n xs) : ∀ j, k = some j → j < w.heap.size := by
  intro j hj
  rcases h.2 with ⟨rfl, _⟩ | ⟨g, cap, cur, rfl, _, hg, _⟩
  · cases hj
  · cases hj; exact (Array.getElem?_eq_some_iff.1 hg).1
theorem Own.kept {S : Nat → Prop} {w w' : World} {e : TypeId} {size : Nat} {k : Option Nat} {v : Value} {n : Nat} {xs : List Value} (h : Own w e size k v n xs) (hk : Kept S w w') (hs : ∀ j, k = some j → ¬ S j) : Own w' e size k v n xs := by
  refine ⟨h.1, ?_⟩
  rcases h.2 with hn | ⟨g, cap, cur, rfl, rfl, hg, rest⟩
  · exact .inl hn
  · exact .inr ⟨g, cap, cur, rfl, rfl, hk.heap hg (hs g rfl), rest⟩
/-- a slice that reads as these cells; its block lies in D -/
def Sl (D : Nat → Prop) (w : World) (a : Option Addr) (n c : Nat) (xs : List Value) (size : Nat) : Prop :=
  xs.length = n * size ∧ n ≤ c ∧ c ≤ maxLen ∧ (a = none → c = 0) ∧ (0 < n → ∃ b off, D b ∧ a = some ⟨b, off, none⟩ ∧ w.rangeAt b off xs)
theorem range_lt {w : World} {b off : Nat} {xs : List Value} (h : w.rangeAt b off xs) (hx : 0 < xs.length) : b < w.heap.size :=
  block_lt_of_cell (h 0 _ (List.getElem?_eq_getElem hx))
theorem Sl.kept {D S : Nat → Prop} {w w' : World} {a : Option Addr} {n c : Nat} {xs : List Value} {size : Nat} (h : Sl D w a n c xs size) (hz : 0 < size) (hk : Kept S w w') (hd : ∀ b, b < w.heap.size → D b → ¬ S b) : Sl D w' a n c xs size := by
  obtain ⟨h1, h2, h3, h4, h5⟩ := h
  refine ⟨h1, h2, h3, h4, fun hn => ?_⟩
  obtain ⟨b, off, hD, ha, hr⟩ := h5 hn
  have hb := range_lt hr (by rw [h1]; exact Nat.mul_pos hn hz)
  exact ⟨b, off, hD, ha, fun j v hv => (hk.cell hb (hd b hb hD)).trans (hr j v hv)⟩
theorem Sl.dom {D D' : Nat → Prop} {w : World} {a : Option Addr} {n c : Nat} {xs : List Value} {size : Nat} (h : Sl D w a n c xs size) (hd : ∀ b, D b → D' b) : Sl D' w a n c xs size := by
  obtain ⟨h1, h2, h3, h4, h5⟩ := h
  refine ⟨h1, h2, h3, h4, fun hn => ?_⟩
  obtain ⟨b, off, hD, ha, hr⟩ := h5 hn
  exact ⟨b, off, hd b hD, ha, hr⟩
theorem Sl.empty (D : Nat → Prop) (w : World) (a : Option Addr) (c : Nat) (size : Nat) (hc : c ≤ maxLen) (ha : a = none → c = 0) : Sl D w a 0 c [] size :=
  ⟨by simp, Nat.zero_le _, hc, ha, fun h => absurd h (by omega)⟩
theorem Own.sl {w : World} {e : TypeId} {size : Nat} {k : Option Nat} {v : Value} {n : Nat} {xs : List Value} (h : Own w e size k v n xs) : ∃ a c, v = .slice a n c ∧ Sl (fun b => k = some b) w a n c xs size := by
  rcases h.2 with ⟨rfl, rfl, rfl⟩ | ⟨g, cap, cur, rfl, rfl, hg, hn, hm, hsz, htk⟩
  · have : xs = [] := List.eq_nil_of_length_eq_zero (by simpa using h.1)
    subst this
    exact ⟨none, 0, rfl, Sl.empty _ _ _ _ _ (Nat.zero_le _) (fun _ => rfl)⟩
  · refine ⟨_, cap, rfl, h.1, hn, hm, (fun hh => by cases hh), fun hp => ⟨g, 0, rfl, rfl, fun j u hu => ?_⟩⟩
    rw [Nat.zero_add, cell_of_row w g j cur _ _ hg]
    rw [← htk, List.getElem?_take] at hu
    split at hu
    · simpa using hu
    · cases hu
theorem Sl.src {P : Program} {D : Nat → Prop} {w : World} {a : Option Addr} {n c : Nat} {xs : List Value} {size : Nat} {tx e' : TypeId} (h : Sl D w a n c xs size) (hk : P.underlying tx = some (.slice e')) (h1 : ∀ u ∈ xs, u.oneCell' = true) :
    Src P size tx (.slice a n c) n xs w := by
  obtain ⟨hl, hn, hm, ha, hr⟩ := h
  cases a with
  | none =>
    have := ha rfl
    subst this
    obtain rfl : n = 0 := by omega
    obtain rfl : xs = [] := List.eq_nil_of_length_eq_zero (by simpa using hl)
    exact Src.ofNil w hk 0
  | some ad =>
    refine Src.ofSlice w hk ad n c xs hl (fun j u hu => ?_) h1
    by_cases h0 : n = 0
    · subst h0
      obtain rfl : xs = [] := List.eq_nil_of_length_eq_zero (by simpa using hl)
      simp at hu
    · obtain ⟨b, off, _, hab, hcell⟩ := hr (by omega)
      cases hab
      rw [Addr.add_mid]
      exact hcell j u hu
section
variable {P : Program} (w : World)
theorem run_append_room2 (t tx ty e : TypeId) (i : TypeInfo) (ht : P.underlying t = some (.slice e)) (hi : P.info? e = some i)
    (g sLen sCap : Nat) (cur : Array Value) (hg : w.heap[g]? = some (.cells cur e (0, 0)))
    (x : Value) (m : Nat) (news : List Value) (hs : Src P i.size tx x m news w) (hroom : sLen + m ≤ sCap) (hfit : sLen * i.size + news.length ≤ cur.size) :
    (Builtin.append_ #[t, tx] ty #[.slice (some ⟨g, 0, none⟩) sLen sCap, x]).run P w =
      .ok (.slice (some ⟨g, 0, none⟩) (sLen + m) sCap) (w.setRow g (cur.toList.take (sLen * i.size) ++ news ++ cur.toList.drop (sLen * i.size + news.length)).toArray) := by
  have hst := run_storeCells_at P g (sLen * i.size) e news 0 cur w hg (by simpa using hfit) hs.one
  simp only [Nat.add_zero] at hst
  rcases hs.kind with ⟨e', hk⟩ | hk <;> simp [Builtin.append_, run_underlying ht, run_underlying hk, sizeOf, typeInfo, hi, hs.len, hroom, hs.cells, Addr.add_lit, hst]
/-- append onto a row of one's own, of whatever source: the row stays in its block or moves to a new one -/
theorem run_append_any (t tx ty e : TypeId) (i : TypeInfo) (z : Value) (size bytes : Nat) (ht : P.underlying t = some (.slice e)) (hi : P.info? e = some i) (hz : i.zero = some z)
    (hsize : i.size = size) (hby : i.bytes = bytes) (hzs : z.cells.size = size) (k : Option Nat) (v : Value) (n : Nat) (xs : List Value) (hown : Own w e size k v n xs)
    (x : Value) (m : Nat) (news : List Value) (hs : Src P size tx x m news w) (h63 : n + m ≤ maxLen) (hbytes : (n + m) * bytes ≤ 140737488355328) :
    ∃ k' v' w', (Builtin.append_ #[t, tx] ty #[v, x]).run P w = .ok v' w' ∧ Own w' e size k' v' (n + m) (xs ++ news) ∧ (∀ j, k' = some j → k = some j ∨ w.heap.size ≤ j) ∧ Kept (fun j => k = some j) w w' ∧ (0 < m → k' ≠ none) := by
  subst hsize
  subst hby
  have hsmall : n + m ≤ 9223372036854775807 := by simp only [maxLen] at h63; omega
  have hlen : (xs ++ news).length = (n + m) * i.size := by rw [List.length_append, hown.1, hs.newsLen, Nat.add_mul]
  have grows : ∀ (b : Option Addr) (old : Nat), v = .slice b n old → old < n + m → (Builtin.firstCells i.size n (.slice b n old)).run P w.drew = .ok xs.toArray w.drew → ∃ k' v' w', (Builtin.append_ #[t, tx] ty #[v, x]).run P w = .ok v' w' ∧ Own w' e i.size k' v' (n + m) (xs ++ news) ∧ (∀ j, k' = some j → k = some j ∨ w.heap.size ≤ j) ∧ Kept (fun j => k = some j) w w' ∧ (0 < m → k' ≠ none) := by
    intro b old hv ho hf
    subst hv
    have hr := run_append_grow_src (P := P) w t tx ty e i z ht hi hz b n old xs hf x m news hs ho (by omega) (growslice_fits (by omega) hbytes)
    have hge := grownCap_ge w (n + m) old e
    have hcm : grownCap w (n + m) old e ≤ maxLen := grownCap_le_maxLen w (n + m) old e h63
    refine ⟨some w.heap.size, _, _, hr, ⟨hlen, .inr ⟨w.heap.size, _, _, rfl, rfl, heap_alloc_new w.drew _, hge, hcm, ?_, ?_⟩⟩, ?_, ?_, ?_⟩
    · simp only [Array.size_append, List.size_toArray, size_zeroCells, hzs, hlen, ← Nat.add_mul]
      congr 1
      omega
    · simp only [Array.toList_append]
      rw [← hlen]
      exact List.take_left
    · intro j hj; cases hj; exact .inr (Nat.le_refl _)
    · exact (Kept.refl _ w).drew.alloc _
    · intro _ h; cases h
  rcases hown.2 with ⟨rfl, rfl, rfl⟩ | ⟨g, cap, cur, rfl, rfl, hg, hnc, hcm, hcs, htake⟩
  · have hx : xs = [] := List.eq_nil_of_length_eq_zero (by simpa using hown.1)
    subst hx
    by_cases hm : m = 0
    · subst hm
      have hn : news = [] := List.eq_nil_of_length_eq_zero (by simpa using hs.newsLen)
      subst hn
      refine ⟨none, .slice none 0 0, w, ?_, Own.nil w e i.size, (fun _ h => by cases h), Kept.refl _ _, fun h => absurd h (by omega)⟩
      have hc := hs.cells
      rcases hs.kind with ⟨e', hk⟩ | hk <;> simp [Builtin.append_, run_underlying ht, run_underlying hk, sizeOf, typeInfo, hi, hs.len, hc]
    · exact grows none 0 rfl (by omega) (run_firstCells_none w.drew i.size 0 0 0)
  · by_cases hroom : n + m ≤ cap
    · have hfit : n * i.size + news.length ≤ cur.size := by rw [hs.newsLen, hcs, ← Nat.add_mul]; exact Nat.mul_le_mul_right _ hroom
      have hr := run_append_room2 (P := P) w t tx ty e i ht hi g n cap cur hg x m news hs hroom hfit
      refine ⟨some g, _, _, hr, ⟨hlen, .inr ⟨g, cap, _, rfl, rfl, setRow_heap w g cur _ e _ hg, hroom, hcm, ?_, ?_⟩⟩, ?_, ?_, ?_⟩
      · simp only [List.size_toArray, List.length_append, List.length_take, List.length_drop, Array.length_toList]
        omega
      · rw [htake, ← hlen]
        exact List.take_left
      · intro j hj; cases hj; exact .inl rfl
      · exact (Kept.refl (fun j => some g = some j) w).setRow (fun _ => rfl) _
      · intro _ h; cases h
    · obtain ⟨a, c, hv, hsl⟩ := hown.sl
      cases hv
      refine grows _ cap rfl (by omega) (run_firstCells_some w.drew i.size n ⟨g, 0, none⟩ n cap xs hown.1 ?_)
      intro j u hu
      have h0 : 0 < n := by
        rcases Nat.eq_zero_or_pos n with rfl | h
        · have := hown.1
          have := (List.getElem?_eq_some_iff.1 hu).1
          omega
        · exact h
      obtain ⟨b, off, _, hab, hcell⟩ := hsl.2.2.2.2 h0
      cases hab
      rw [Addr.add_mid]
      exact hcell j u hu
theorem wpList_append_any {ops : Array Oper} {rest : List Oper} {o : Oper} {a : Act} {Q : Exit → Act → World → Prop} (hgd : o.guard = none) (s x : Operand) (t tx : TypeId)
    (ho : o.op = .call { callee := .builtin .append, args := #[s, x], argTypes := #[t, tx] })
    (e : TypeId) (i : TypeInfo) (z : Value) (size bytes : Nat) (ht : P.underlying t = some (.slice e)) (hi : P.info? e = some i) (hz : i.zero = some z)
    (hsize : i.size = size) (hby : i.bytes = bytes) (hzs : z.cells.size = size) (k : Option Nat) (v : Value) (n : Nat) (xs : List Value) (hv : a.eval s = v) (hown : Own w e size k v n xs)
    (m : Nat) (news : List Value) (hs : Src P size tx (a.eval x) m news w) (h63 : n + m ≤ maxLen) (hbytes : (n + m) * bytes ≤ 140737488355328)
    (h : ∀ k' v' w', Own w' e size k' v' (n + m) (xs ++ news) → (∀ j, k' = some j → k = some j ∨ w.heap.size ≤ j) → Kept (fun j => k = some j) w w' → (0 < m → k' ≠ none) → wpList P ops Q rest (a.put o.dst v') w') : wpList P ops Q (o :: rest) a w := by
  obtain ⟨k', v', w', hr, h2, h3, h4, h5⟩ := run_append_any (P := P) w t tx o.type e i z size bytes ht hi hz hsize hby hzs k v n xs hown (a.eval x) m news hs h63 hbytes
  refine wpList_plain hgd fun K hK => ?_
  unfold Oper.wp execOp
  simp only [ho, resolve, invoke, builtin, Sem.run_bind, Sem.run_pure, Result.andThen_ok, List.map_toArray, List.map_cons, List.map_nil, hv, hr]
  exact hK _ _ (h k' v' w' h2 h3 h4 h5)
end
end Go.Proofs.Ytfgmhidgkemfoaa
namespace Go.Proofs.Ytfgmhidgkemfoaa.Wi
set_option linter.unusedSimpArgs false
set_option linter.unusedVariables false
/-- the groups of 7 bits of an unsigned number -/
def encU (n : Nat) : List UInt8 := if h : n < 128 then [UInt8.ofNat n] else UInt8.ofNat (128 + n % 128) :: encU (n / 128)
termination_by n
decreasing_by omega
theorem encU_small {n : Nat} (h : n < 128) : encU n = [UInt8.ofNat n] := by rw [encU, dif_pos h]
theorem encU_big {n : Nat} (h : ¬ n < 128) : encU n = UInt8.ofNat (128 + n % 128) :: encU (n / 128) := by rw [encU, dif_neg h]
theorem encU_len_pos (n : Nat) : 0 < (encU n).length := by
  by_cases h : n < 128
  · rw [encU_small h]; simp
  · rw [encU_big h]; simp
theorem encU_len (i : Nat) : ∀ n : Nat, n < 128 ^ (i + 1) → (encU n).length ≤ i + 1 := by
  induction i with
  | zero => intro n h; rw [encU_small (by simpa using h)]; simp
  | succ i ih =>
    intro n h
    by_cases hn : n < 128
    · rw [encU_small hn]; simp
    · rw [encU_big hn, List.length_cons]
      have := ih (n / 128) (by rw [Nat.div_lt_iff_lt_mul (by omega)]; rw [Nat.pow_succ] at h; exact h)
      omega
theorem encU_len10 (n : Nat) (h : n < 18446744073709551616) : (encU n).length ≤ 10 := encU_len 9 n (Nat.lt_of_lt_of_le h (by decide))
/-- what reading a number from some bytes gives, i groups having been read with the value acc: the value, the size, the error -/
def fnum : List UInt8 → Nat → Nat → Nat × Nat × Nat
  | [], _, _ => (0, 0, 6)
  | b :: r, i, acc =>
    if i = 9 ∧ 1 < b.toNat then (0, 0, 7)
    else if 128 ≤ b.toNat then fnum r (i + 1) (acc + b.toNat % 128 * 128 ^ i)
    else if b.toNat = 0 ∧ 0 < i then (0, 0, 7)
    else (acc + b.toNat % 128 * 128 ^ i, i + 1, 0)
theorem toNat_ofNat (n : Nat) (h : n < 256) : (UInt8.ofNat n).toNat = n := by simp; omega
theorem pow_le_pow128 {i j : Nat} (h : i ≤ j) : 128 ^ i ≤ 128 ^ j := Nat.pow_le_pow_right (by omega) h
theorem pow9 : 128 ^ 9 = 9223372036854775808 := by decide
theorem fnum_enc : ∀ (n : Nat) (r : List UInt8) (i acc : Nat), n * 128 ^ i < 18446744073709551616 → (0 < i → 0 < n) → i ≤ 9 → fnum (encU n ++ r) i acc = (acc + n * 128 ^ i, i + (encU n).length, 0) := by
  intro n
  induction n using Nat.strongRecOn with
  | _ n ih =>
    intro r i acc hb hp hi
    by_cases hn : n < 128
    · rw [encU_small hn, List.singleton_append, fnum, toNat_ofNat n (by omega)]
      have h1 : ¬ (i = 9 ∧ 1 < n) := by
        rintro ⟨rfl, h⟩
        rw [pow9] at hb
        omega
      rw [if_neg h1, if_neg (by omega), if_neg (by omega), Nat.mod_eq_of_lt hn]
      rfl
    · rw [encU_big hn, List.cons_append, fnum, toNat_ofNat _ (by omega)]
      have h1 : ¬ (i = 9 ∧ 1 < 128 + n % 128) := by
        rintro ⟨rfl, h⟩
        rw [pow9] at hb
        omega
      have e : n / 128 * 128 ^ (i + 1) + n % 128 * 128 ^ i = n * 128 ^ i := by
        rw [Nat.pow_succ, ← Nat.mul_assoc, Nat.mul_right_comm, ← Nat.add_mul, Nat.div_add_mod']
      have hi2 : i + 1 ≤ 9 := by
        rcases Nat.lt_or_ge i 9 with h | h
        · exact h
        · exfalso
          have := pow_le_pow128 h
          rw [pow9] at this
          have : 128 * 9223372036854775808 ≤ n * 128 ^ i := Nat.mul_le_mul (by omega) this
          omega
      have h2 : (128 + n % 128) % 128 = n % 128 := by omega
      rw [if_neg h1, if_pos (by omega), h2, ih (n / 128) (by omega) r (i + 1) _ (by omega) (fun _ => by omega) hi2]
      rw [List.length_cons, Nat.add_assoc acc, Nat.add_comm (n % 128 * 128 ^ i), e, Nat.add_right_comm i, Nat.add_assoc i]
/-- what is read without an error is an encoding -/
theorem fnum_ok : ∀ (l : List UInt8) (i acc v k : Nat), fnum l i acc = (v, k, 0) → i ≤ 9 → ∃ n r, l = encU n ++ r ∧ v = acc + n * 128 ^ i ∧ k = i + (encU n).length ∧ n * 128 ^ i < 18446744073709551616 ∧ (0 < i → 0 < n) := by
  intro l
  induction l with
  | nil => intro i acc v k h; simp [fnum] at h
  | cons b r ih =>
    intro i acc v k h hi
    rw [fnum] at h
    have hb := b.toNat_lt
    by_cases h1 : i = 9 ∧ 1 < b.toNat
    · rw [if_pos h1] at h; simp at h
    rw [if_neg h1] at h
    by_cases h2 : 128 ≤ b.toNat
    · rw [if_pos h2] at h
      have hi2 : i + 1 ≤ 9 := by omega
      obtain ⟨n, r', rfl, rfl, rfl, hn, hp⟩ := ih (i + 1) _ v k h hi2
      have hp' := hp (by omega)
      have e : (b.toNat % 128 + n * 128) * 128 ^ i = b.toNat % 128 * 128 ^ i + n * 128 ^ (i + 1) := by
        rw [Nat.add_mul, Nat.pow_succ, Nat.mul_assoc, Nat.mul_comm 128]
      refine ⟨b.toNat % 128 + n * 128, r', ?_, ?_, ?_, ?_, fun _ => by omega⟩
      · rw [encU_big (n := b.toNat % 128 + n * 128) (by omega), show (b.toNat % 128 + n * 128) / 128 = n by omega, show 128 + (b.toNat % 128 + n * 128) % 128 = b.toNat by omega]
        simp
      · rw [e, Nat.add_assoc]
      · rw [encU_big (n := b.toNat % 128 + n * 128) (by omega), show (b.toNat % 128 + n * 128) / 128 = n by omega, List.length_cons]
        omega
      · have hm : b.toNat % 128 * 128 ^ i < 128 ^ (i + 1) := by
          rw [Nat.pow_succ, Nat.mul_comm (128 ^ i)]
          exact Nat.mul_lt_mul_of_pos_right (by omega) (Nat.pow_pos (by omega))
        rw [e]
        have hd : (18446744073709551616 : Nat) = 2 ^ (64 - 7 * (i + 1)) * 128 ^ (i + 1) := by
          rw [show (128 : Nat) = 2 ^ 7 by rfl, ← Nat.pow_mul, ← Nat.pow_add, show 64 - 7 * (i + 1) + 7 * (i + 1) = 64 by omega]
        rw [hd] at hn ⊢
        have hn2 := Nat.lt_of_mul_lt_mul_right hn
        calc  b.toNat % 128 * 128 ^ i + n * 128 ^ (i + 1) < 128 ^ (i + 1) + n * 128 ^ (i + 1) := by omega
          _ = (n + 1) * 128 ^ (i + 1) := by rw [Nat.add_mul, Nat.one_mul, Nat.add_comm]
          _ ≤ 2 ^ (64 - 7 * (i + 1)) * 128 ^ (i + 1) := Nat.mul_le_mul_right _ hn2
    · rw [if_neg h2] at h
      by_cases h3 : b.toNat = 0 ∧ 0 < i
      · rw [if_pos h3] at h; simp at h
      rw [if_neg h3] at h
      simp only [Prod.mk.injEq, and_true] at h
      obtain ⟨rfl, rfl⟩ := h
      refine ⟨b.toNat, r, ?_, ?_, ?_, ?_, fun _ => by omega⟩
      · rw [encU_small (by omega)]; simp
      · rw [Nat.mod_eq_of_lt (by omega)]
      · rw [encU_small (by omega)]; rfl
      · rcases Nat.lt_or_ge i 9 with h | h
        · have h8 : 128 ^ i ≤ 128 ^ 8 := pow_le_pow128 (by omega)
          have : b.toNat * 128 ^ i ≤ 127 * 128 ^ 8 := Nat.mul_le_mul (by omega) h8
          have e8 : (127 : Nat) * 128 ^ 8 < 18446744073709551616 := by decide
          omega
        · obtain rfl : i = 9 := by omega
          rw [pow9]
          omega
/-- of a proper prefix of an encoding nothing is read -/
theorem fnum_cut : ∀ (n : Nat) (p : List UInt8) (i acc : Nat), n * 128 ^ i < 18446744073709551616 → i ≤ 9 → (∃ q, q ≠ [] ∧ encU n = p ++ q) → fnum p i acc = (0, 0, 6) := by
  intro n
  induction n using Nat.strongRecOn with
  | _ n ih =>
    intro p i acc hb hi hq
    obtain ⟨q, hq, he⟩ := hq
    cases p with
    | nil => rfl
    | cons x p =>
      by_cases hn : n < 128
      · rw [encU_small hn] at he
        simp at he
        exact (hq he.2.2).elim
      · rw [encU_big hn] at he
        simp only [List.cons_append, List.cons.injEq] at he
        obtain ⟨rfl, he⟩ := he
        have hi2 : i + 1 ≤ 9 := by
          rcases Nat.lt_or_ge i 9 with h | h
          · exact h
          · exfalso
            have := pow_le_pow128 h
            rw [pow9] at this
            have : 128 * 9223372036854775808 ≤ n * 128 ^ i := Nat.mul_le_mul (by omega) this
            omega
        have e : n / 128 * 128 ^ (i + 1) ≤ n * 128 ^ i := by
          rw [Nat.pow_succ, ← Nat.mul_assoc, Nat.mul_right_comm]
          exact Nat.mul_le_mul_right _ (by omega)
        rw [fnum, toNat_ofNat _ (by omega), if_neg (by omega), if_pos (by omega)]
        exact ih (n / 128) (by omega) p (i + 1) _ (by omega) hi2 ⟨q, hq, he⟩
theorem fnum_err (l : List UInt8) : ∀ i acc : Nat, (fnum l i acc).2.2 = 0 ∨ (fnum l i acc = (0, 0, 6)) ∨ fnum l i acc = (0, 0, 7) := by
  induction l with
  | nil => intro i acc; exact .inr (.inl rfl)
  | cons b r ih =>
    intro i acc
    rw [fnum]
    split
    · exact .inr (.inr rfl)
    · split
      · exact ih _ _
      · split
        · exact .inr (.inr rfl)
        · exact .inl rfl
/-- the number for which an unsigned number stands, and back -/
def zig (n : Int) : Nat := if n < 0 then (2 * (-(n + 1)) + 1).toNat else (2 * n).toNat
def zag (u : Nat) : Int := if u % 2 = 0 then ((u / 2 : Nat) : Int) else -((u / 2 : Nat) : Int) - 1
theorem zag_zig (n : Int) : zag (zig n) = n := by unfold zag zig; split <;> split <;> omega
theorem zig_zag (u : Nat) : zig (zag u) = u := by unfold zag zig; split <;> split <;> omega
theorem zig_lt (n : Int) (h1 : -9223372036854775808 ≤ n) (h2 : n ≤ 9223372036854775807) : zig n < 18446744073709551616 := by unfold zig; split <;> omega
theorem zag_bd (u : Nat) (h : u < 18446744073709551616) : -9223372036854775808 ≤ zag u ∧ zag u ≤ 9223372036854775807 := by unfold zag; split <;> omega
def encI (n : Int) : List UInt8 := encU (zig n)
def encB (b : Bool) : List UInt8 := if b then [1] else [0]
def encT (s : List UInt8) : List UInt8 := encU s.length ++ s
def encL (l : List Int) : List UInt8 := encU l.length ++ l.flatMap encI
end Go.Proofs.Ytfgmhidgkemfoaa.Wi
namespace Go.Proofs.Ytfgmhidgkemfoaa.Wi
set_option linter.unusedSimpArgs false
set_option linter.unusedVariables false
open Go.RowKit
theorem heap_alloc_if (w : World) (o : Obj) (i : Nat) : (w.alloc o).heap[i]? = if i = w.heap.size then some o else w.heap[i]? := by
  show (w.heap.push o)[i]? = _
  rw [Array.getElem?_push]
theorem size_alloc1 (w : World) (o : Obj) : (w.alloc o).heap.size = w.heap.size + 1 := by
  show (w.heap.push o).size = _
  simp
theorem heap_new {w : World} {o : Obj} {g : Nat} (h : g = w.heap.size) : (w.alloc o).heap[g]? = some o := by
  rw [heap_alloc_if, if_pos h]
theorem heap_old {w : World} {o o' : Obj} {g : Nat} (h : w.heap[g]? = some o) : (w.alloc o').heap[g]? = some o := by
  have hl : g < w.heap.size := by
    by_cases hl : g < w.heap.size
    · exact hl
    · rw [Array.getElem?_eq_none (by omega)] at h; cases h
  rw [heap_alloc_if, if_neg (by omega), h]
theorem heap_lt {w : World} {o : Obj} {g : Nat} (h : w.heap[g]? = some o) : g < w.heap.size := by
  by_cases hl : g < w.heap.size
  · exact hl
  · rw [Array.getElem?_eq_none (by omega)] at h; cases h
def vals (l : List UInt8) : List Value := l.map fun x => Value.int .u8 (x.toNat : Int)
theorem vals_len (l : List UInt8) : (vals l).length = l.length := by simp [vals]
theorem vals_app (l m : List UInt8) : vals (l ++ m) = vals l ++ vals m := by simp [vals]
theorem vals_one (l : List UInt8) : ∀ u ∈ vals l, u.oneCell' = true := by simp [vals, Value.oneCell']
theorem vals_str (s : ByteArray) : byteCells s = vals s.data.toList := rfl
def ivals (l : List Int) : List Value := l.map (Value.int .i64)
theorem ivals_len (l : List Int) : (ivals l).length = l.length := by simp [ivals]
theorem ivals_app (l m : List Int) : ivals (l ++ m) = ivals l ++ ivals m := by simp [ivals]
theorem ivals_one (l : List Int) : ∀ u ∈ ivals l, u.oneCell' = true := by simp [ivals, Value.oneCell']
theorem info5 : (Try.prog.info? 5).map (fun i => (i.zero, i.size, i.bytes)) = some (some (.int .u8 0), 1, 1) := by kernel_rfl
theorem info3 : (Try.prog.info? 3).map (fun i => (i.zero, i.size, i.bytes)) = some (some (.int .i64 0), 1, 8) := by kernel_rfl
theorem i64_id (n : Int) (h0 : -9223372036854775808 ≤ n) (h1 : n ≤ 9223372036854775807) : IntKind.i64.wrap n = n := by
  rw [IntKind.wrap_i64]; omega
/-- a slice of bytes -/
def Bs (D : Nat → Prop) (w : World) (a : Option Addr) (n c : Nat) (l : List UInt8) : Prop := l.length = n ∧ Sl D w a n c (vals l) 1
/-- a slice of numbers -/
def Is (D : Nat → Prop) (w : World) (a : Option Addr) (n c : Nat) (l : List Int) : Prop := l.length = n ∧ Sl D w a n c (ivals l) 1
theorem Bs.kept {D S : Nat → Prop} {w w' : World} {a : Option Addr} {n c : Nat} {l : List UInt8} (h : Bs D w a n c l) (hk : Kept S w w') (hd : ∀ b, b < w.heap.size → D b → ¬ S b) : Bs D w' a n c l := ⟨h.1, h.2.kept (by decide) hk hd⟩
theorem Is.kept {D S : Nat → Prop} {w w' : World} {a : Option Addr} {n c : Nat} {l : List Int} (h : Is D w a n c l) (hk : Kept S w w') (hd : ∀ b, b < w.heap.size → D b → ¬ S b) : Is D w' a n c l := ⟨h.1, h.2.kept (by decide) hk hd⟩
theorem Bs.dom {D D' : Nat → Prop} {w : World} {a : Option Addr} {n c : Nat} {l : List UInt8} (h : Bs D w a n c l) (hd : ∀ b, D b → D' b) : Bs D' w a n c l := ⟨h.1, h.2.dom hd⟩
theorem Is.dom {D D' : Nat → Prop} {w : World} {a : Option Addr} {n c : Nat} {l : List Int} (h : Is D w a n c l) (hd : ∀ b, D b → D' b) : Is D' w a n c l := ⟨h.1, h.2.dom hd⟩
/-- a writer in block g has collected l, in block k -/
def Wr (w : World) (g : Nat) (k : Option Nat) (l : List UInt8) : Prop :=
  ∃ v, w.heap[g]? = some (.cells #[v] 75 (0, 0)) ∧ Own w 5 1 k v l.length (vals l) ∧ k ≠ some g
/-- from one world of a writer to a later one: nothing but its own blocks has changed, and its row moves to new blocks only -/
structure Link (g : Nat) (k : Option Nat) (w : World) (k' : Option Nat) (w' : World) : Prop where
  fresh : ∀ j, k' = some j → k = some j ∨ w.heap.size ≤ j
  kept : Kept (fun j => j = g ∨ k = some j) w w'
theorem Link.trans {g : Nat} {k k1 k2 : Option Nat} {w w1 w2 : World} (h : Link g k w k1 w1) (h2 : Link g k1 w1 k2 w2) : Link g k w k2 w2 := by
  refine ⟨fun j hj => ?_, h.kept.trans h2.kept (fun j hj ht => ?_)⟩
  · rcases h2.fresh j hj with e | e
    · exact h.fresh j e
    · exact .inr (Nat.le_trans h.kept.size e)
  · rcases ht with e | e
    · exact .inl e
    · rcases h.fresh j e with e | e
      · exact .inr e
      · omega
theorem Link.refl (g : Nat) (k : Option Nat) (w : World) : Link g k w k w := ⟨fun _ h => .inl h, Kept.refl _ _⟩
theorem Link.of_below {g : Nat} {k : Option Nat} {w w' : World} (h : Below w.heap.size w w') : Link g k w k w' := ⟨fun _ h => .inl h, Kept.of_below _ h⟩
/-- what a method of a writer does -/
def Wrote (g : Nat) (k : Option Nat) (w : World) (l' : List UInt8) (w' : World) : Prop := ∃ k', Wr w' g k' l' ∧ Link g k w k' w'
theorem Wr.lt {w : World} {g : Nat} {k : Option Nat} {l : List UInt8} (h : Wr w g k l) : g < w.heap.size := by
  obtain ⟨v, hg, _⟩ := h
  exact (Array.getElem?_eq_some_iff.1 hg).1
theorem Wr.kept {S : Nat → Prop} {w w' : World} {g : Nat} {k : Option Nat} {l : List UInt8} (h : Wr w g k l) (hk : Kept S w w') (hg : ¬ S g) (hs : ∀ j, k = some j → ¬ S j) : Wr w' g k l := by
  obtain ⟨v, h1, h2, h3⟩ := h
  exact ⟨v, hk.heap h1 hg, h2.kept hk hs, h3⟩
theorem Wrote.refl {w : World} {g : Nat} {k : Option Nat} {l : List UInt8} (h : Wr w g k l) : Wrote g k w l w := ⟨k, h, Link.refl _ _ _⟩
theorem Wrote.after {g : Nat} {k k1 : Option Nat} {w w1 w2 : World} {l2 : List UInt8} (h : Link g k w k1 w1) (h2 : Wrote g k1 w1 l2 w2) : Wrote g k w l2 w2 := by
  obtain ⟨k2, hw2, hl2⟩ := h2
  exact ⟨k2, hw2, h.trans hl2⟩
theorem one_set {w : World} {g : Nat} {v u : Value} {t : TypeId} (hg : w.heap[g]? = some (.cells #[v] t (0, 0))) : (w.setCell ⟨g, 0, none⟩ u).heap[g]? = some (.cells #[u] t (0, 0)) := by
  rw [heap_setCell_same w g 0 _ _ _ hg]
  rfl
end Go.Proofs.Ytfgmhidgkemfoaa.Wi
namespace Go.Proofs.Ytfgmhidgkemfoaa.Wi
set_option linter.unusedSimpArgs false
set_option linter.unusedVariables false
open Go.RowKit
set_option maxRecDepth 100000 in
set_option maxHeartbeats 400000 in
theorem put_any (g : Nat) (k : Option Nat) (l : List UInt8) (x : UInt8) (X : Int) (w : World) (hW : Wr w g k l) (hl : l.length ≤ 1000000000000) (hX : X = (x.toNat : Int)) :
    Calls Try.prog 60 #[.pointer (some ⟨g, 0, none⟩), .int .u8 X] w fun e w' => e = .returned (.tuple #[]) ∧ Wrote g k w (l ++ [x]) w' := by
  obtain ⟨i0, hi, hz0, hz1, hz2⟩ := info_parts info5
  obtain ⟨v, hg, hO, hk⟩ := hW
  have h0 : w.cell? ⟨g, 0, none⟩ = some v := by rw [cell_of_row w g 0 _ _ _ hg]; rfl
  have hb : g < w.heap.size := (Array.getElem?_eq_some_iff.1 hg).1
  have HX := Lib.hid hX
  have HG := Lib.hid hg
  have HO := Lib.hid hO
  have HK := Lib.hid hk
  clear hX hg hO hk
  go_enter Try.func60, Try.ntmps60
  go_wp2_with (at_builtin; refine wpList_append_any _ rfl (.tmp 8) (.tmp 10) 71 71 rfl 5 i0 (.int .u8 0) 1 1 Try.underlying71 hi hz0 hz1 hz2 rfl k v l.length (vals l) rfl (HO.out.kept ((Kept.refl (fun _ => False) w).alloc _) (fun _ _ h => h)) 1 [.int .u8 X] (Src.ofSlice _ Try.underlying71 ⟨w.heap.size, 0, none⟩ 1 1 _ rfl ?c1 ?c2) (by unfold maxLen; omega) (by omega) ?_)
  case c1 => intro j u hj; match j, hj with | 0, hj => simp at hj; subst hj; simp [Addr.add]
  case c2 => intro u hu; simp at hu; subst hu; rfl
  intro k' v' w' ho hf hK hn
  obtain ⟨a, c, rfl, -⟩ := ho.sl
  have hK2 : Kept (fun j => k = some j) w w' := ((Kept.refl (fun j => k = some j) w).alloc _).trans hK (fun _ _ h => h)
  have hg' := hK2.heap HG.out HK.out
  have c0 : w'.cell? ⟨g, 0, none⟩ = some v := by rw [cell_of_row w' g 0 _ _ _ hg']; rfl
  have f0 : w'.frozen? ⟨g, 0, none⟩ = false := frozen_of_row w' g 0 _ _ hg'
  have R : Wrote g k w (l ++ [x]) (w'.setCell ⟨g, 0, none⟩ (.slice a (l.length + 1) c)) := by
    refine ⟨k', ⟨_, one_set hg', ?_, ?_⟩, ?_, (hK2.mono (fun _ _ h => .inr h)).setCell (fun _ => .inl rfl) _⟩
    · rw [vals_app, List.length_append]
      rw [HX.out] at ho
      exact ho.kept ((Kept.refl (fun j => j = g) w').setCell (fun _ => rfl) _) (fun j hj e => by
        subst e
        rcases hf _ hj with h | h
        · exact HK.out h
        · omega)
    · intro e
      rcases hf _ e with h | h
      · exact HK.out h
      · omega
    · intro j hj
      rcases hf j hj with h | h
      · exact .inl h
      · exact .inr (by omega)
  have HR := Lib.hid R
  clear R hg' hK2 hn hK hf ho h0
  go_wp2
  go_end0
  exact ⟨rfl, HR.out⟩
set_option maxRecDepth 100000 in
set_option maxHeartbeats 400000 in
theorem putText_any (g : Nat) (k : Option Nat) (l : List UInt8) (s : ByteArray) (w : World) (hW : Wr w g k l) (hl : l.length ≤ 1000000000000) (hs : s.size ≤ 100000000000000) :
    Calls Try.prog 61 #[.pointer (some ⟨g, 0, none⟩), .string s] w fun e w' => e = .returned (.tuple #[]) ∧ Wrote g k w (l ++ s.data.toList) w' := by
  obtain ⟨i0, hi, hz0, hz1, hz2⟩ := info_parts info5
  obtain ⟨v, hg, hO, hk⟩ := hW
  have h0 : w.cell? ⟨g, 0, none⟩ = some v := by rw [cell_of_row w g 0 _ _ _ hg]; rfl
  have HG := Lib.hid hg
  have HO := Lib.hid hO
  have HK := Lib.hid hk
  clear hg hO hk
  go_enter Try.func61, Try.ntmps61
  go_wp2_with (at_builtin; refine wpList_append_any _ rfl (.tmp 8) (.tmp 9) 71 9 rfl 5 i0 (.int .u8 0) 1 1 Try.underlying71 hi hz0 hz1 hz2 rfl k v l.length (vals l) rfl HO.out s.size (byteCells s) (Src.ofString _ Try.underlying9 s) (by unfold maxLen; omega) (by omega) ?_)
  intro k' v' w' ho hf hK hn
  obtain ⟨a, c, rfl, -⟩ := ho.sl
  have hg' := hK.heap HG.out HK.out
  have c0 : w'.cell? ⟨g, 0, none⟩ = some v := by rw [cell_of_row w' g 0 _ _ _ hg']; rfl
  have f0 : w'.frozen? ⟨g, 0, none⟩ = false := frozen_of_row w' g 0 _ _ hg'
  have R : Wrote g k w (l ++ s.data.toList) (w'.setCell ⟨g, 0, none⟩ (.slice a (l.length + s.size) c)) := by
    have hg2 := HG.out
    have hl2 := heap_lt hg2
    refine ⟨k', ⟨_, one_set hg', ?_, ?_⟩, hf, (hK.mono (fun _ _ h => .inr h)).setCell (fun _ => .inl rfl) _⟩
    · rw [vals_app, List.length_append, Array.length_toList]
      rw [vals_str] at ho
      exact ho.kept ((Kept.refl (fun j => j = g) w').setCell (fun _ => rfl) _) (fun j hj e => by
        subst e
        rcases hf _ hj with h | h
        · exact HK.out h
        · omega)
    · intro e
      rcases hf _ e with h | h
      · exact HK.out h
      · omega
  have HR := Lib.hid R
  clear R hg' hn hK hf ho h0
  go_wp2
  go_end0
  exact ⟨rfl, HR.out⟩
end Go.Proofs.Ytfgmhidgkemfoaa.Wi
namespace Go.Proofs.Ytfgmhidgkemfoaa.Wi
set_option linter.unusedSimpArgs false
set_option linter.unusedVariables false
open Go.RowKit
theorem vals_u8 (n : Nat) (h : n < 256) : (n : Int) = ((UInt8.ofNat n).toNat : Int) := by rw [toNat_ofNat n h]
theorem encU_tail (l : List UInt8) (m : Nat) (h : ¬ m < 128) : (l ++ [UInt8.ofNat (128 + m % 128)]) ++ encU (m / 128) = l ++ encU m := by
  rw [encU_big h]; simp
theorem encU_end (l : List UInt8) (m : Nat) (h : m < 128) : l ++ [UInt8.ofNat m] = l ++ encU m := by rw [encU_small h]
/-- where the loop of Uint stands -/
def AtU (g : Nat) (k : Option Nat) (w : World) (L : List UInt8) (m : Nat) (wr : World) : Prop := ∃ l1, l1 ++ encU m = L ∧ Wrote g k w l1 wr
set_option maxRecDepth 100000 in
set_option maxHeartbeats 400000 in
theorem wuint_any (g : Nat) (k : Option Nat) (l : List UInt8) (n : Nat) (N : Int) (w : World) (hW : Wr w g k l) (hl : l.length ≤ 500000000000) (hn : n < 18446744073709551616) (hN : N = (n : Int)) :
    Calls Try.prog 37 #[.pointer (some ⟨g, 0, none⟩), .int .u64 N] w fun e w' => e = .returned (.tuple #[]) ∧ Wrote g k w (l ++ encU n) w' := by
  subst hN
  have HW := Lib.hid (Wrote.refl hW)
  have Hlen := Lib.hid (encU_len10 n hn)
  clear hW
  go_enter Try.func37, Try.ntmps37
  go_wp2
  go_loopw [1] (fun t wr => ∃ m : Nat, m < 18446744073709551616 ∧ t = .int .u64 (m : Int) ∧ AtU g k w (l ++ encU n) m wr) (fun t _ => (intOf t).toNat)
  case atStart => exact ⟨n, hn, rfl, l, rfl, HW.out⟩
  case round =>
    obtain ⟨m, hm, rfl, hA⟩ := hrel
    have HA := Lib.hid hA
    clear hA HW hn
    obtain ⟨l1, e1, hw1⟩ := HA.out
    have hlen1 : l1.length ≤ 1000000000000 := by
      have := congrArg List.length e1
      simp only [List.length_append] at this
      have := Hlen.out
      omega
    have He := Lib.hid e1
    have Hw := Lib.hid hw1
    clear e1 hw1 HA
    by_cases hlt : m < 128
    · obtain ⟨k1, hW1, hl1⟩ := Hw.out
      have HW1 := Lib.hid hW1
      have HL1 := Lib.hid hl1
      have Hm := Lib.hid (vals_u8 m (by omega))
      clear hW1 hl1
      go_wp2_with (go_at_call 60; refine (put_any g k1 l1 (UInt8.ofNat m) _ _ HW1.out hlen1 Hm.out).mono ?_; rintro e w2 ⟨rfl, hw2⟩; have H2 := Lib.hid hw2; clear hw2)
      go_end0
      refine ⟨rfl, ?_⟩
      have h2 := H2.out
      rw [encU_end l1 m hlt, He.out] at h2
      exact h2.after HL1.out
    · obtain ⟨k1, hW1, hl1⟩ := Hw.out
      have HW1 := Lib.hid hW1
      have HL1 := Lib.hid hl1
      have Hm := Lib.hid (vals_u8 (128 + m % 128) (by omega))
      clear hW1 hl1
      go_wp2_with (go_at_call 60; refine (put_any g k1 l1 (UInt8.ofNat (128 + m % 128)) _ _ HW1.out hlen1 (by rw [← Hm.out]; omega)).mono ?_; rintro e w2 ⟨rfl, hw2⟩; have H2 := Lib.hid hw2; clear hw2)
      go_roundw
      case rel => exact ⟨m / 128, by omega, by go_num, _, (encU_tail l1 m hlt).trans He.out, H2.out.after HL1.out⟩
      case measure => simp [intOf]; omega
end Go.Proofs.Ytfgmhidgkemfoaa.Wi
namespace Go.Proofs.Ytfgmhidgkemfoaa.Wi
set_option linter.unusedSimpArgs false
set_option linter.unusedVariables false
open Go.RowKit
theorem zig_pos (n : Int) (h : 0 ≤ n) : 2 * n = ((zig n : Nat) : Int) := by unfold zig; rw [if_neg (by omega)]; omega
theorem zig_neg (n : Int) (h : n < 0) : 2 * (-(n + 1)) + 1 = ((zig n : Nat) : Int) := by unfold zig; rw [if_pos h]; omega
set_option maxRecDepth 100000 in
set_option maxHeartbeats 400000 in
theorem wtext_any (g : Nat) (k : Option Nat) (l : List UInt8) (s : ByteArray) (w : World) (hW : Wr w g k l) (hl : l.length ≤ 400000000000) (hs : s.size ≤ 100000000000000) :
    Calls Try.prog 38 #[.pointer (some ⟨g, 0, none⟩), .string s] w fun e w' => e = .returned (.tuple #[]) ∧ Wrote g k w (l ++ encT s.data.toList) w' := by
  have HW := Lib.hid hW
  have HL := Lib.hid (encU_len10 s.size (by omega))
  clear hW
  go_enter Try.func38, Try.ntmps38
  go_wp2_with (first
    | (go_at_call 61; refine (putText_any g _ _ s _ W1.out (by have := HL.out; simp; omega) hs).mono ?_; rintro e w2 ⟨rfl, hw2⟩; have H2 := Lib.hid hw2; clear hw2)
    | (go_at_call 37; refine (wuint_any g k l s.size _ _ HW.out (by omega) (by omega) (by first | rfl | omega | (simp only [IntKind.wrap_u64]; omega))).mono ?_; rintro e w1 ⟨rfl, k1, hw1, hl1⟩; have W1 := Lib.hid hw1; have L1 := Lib.hid hl1; clear hw1 hl1))
  go_end0
  refine ⟨rfl, ?_⟩
  have h := H2.out.after L1.out
  rw [List.append_assoc] at h
  exact h
def Ok64 (l : List Int) : Prop := ∀ x ∈ l, -9223372036854775808 ≤ x ∧ x ≤ 9223372036854775807
theorem Is.cells {D : Nat → Prop} {w : World} {a : Option Addr} {n c : Nat} {l : List Int} (h : Is D w a n c l) (hn : 0 < n) : ∃ b off, D b ∧ b < w.heap.size ∧ a = some ⟨b, off, none⟩ ∧ ∀ i (hi : i < l.length), w.cell? ⟨b, off + i, none⟩ = some (.int .i64 l[i]) := by
  obtain ⟨h1, h2, h3, h4, h5, h6⟩ := h
  obtain ⟨b, off, hD, ha, hr⟩ := h6 hn
  exact ⟨b, off, hD, range_lt hr (by rw [ivals_len]; omega), ha, fun i hi => hr i _ (by simp [ivals, hi])⟩
theorem encI_len (n : Int) (h1 : -9223372036854775808 ≤ n) (h2 : n ≤ 9223372036854775807) : (encI n).length ≤ 10 := encU_len10 _ (zig_lt n h1 h2)
theorem encIs_len (l : List Int) (h : Ok64 l) : (l.flatMap encI).length ≤ 10 * l.length := by
  induction l with
  | nil => simp
  | cons x r ih =>
    have h1 := encI_len x (h x (by simp)).1 (h x (by simp)).2
    have h2 := ih (fun y hy => h y (by simp [hy]))
    simp only [List.flatMap_cons, List.length_append, List.length_cons]
    omega
theorem Ok64.take {l : List Int} (h : Ok64 l) (i : Nat) : Ok64 (l.take i) := fun x hx => h x (List.mem_of_mem_take hx)
theorem take_enc (l : List Int) (i : Nat) (h : i < l.length) : (l.take (i + 1)).flatMap encI = (l.take i).flatMap encI ++ encI l[i] := by
  rw [List.take_succ_eq_append_getElem h, List.flatMap_append]; simp
end Go.Proofs.Ytfgmhidgkemfoaa.Wi
namespace Go.Proofs.Ytfgmhidgkemfoaa.Wi
set_option linter.unusedSimpArgs false
set_option linter.unusedVariables false
open Go.RowKit
set_option linter.unusedSimpArgs false
set_option linter.unusedVariables false
/-- a Value: its fields; of the list where it lies and what it reads as -/
structure VM where
  k : Nat
  u : Nat
  n : Int
  b : Bool
  s : ByteArray
  a : Option Addr
  ln : Nat
  c : Nat
  l : List Int
def VM.cells (m : VM) : List Value := [.int .u8 (m.k : Int), .int .u64 (m.u : Int), .int .i64 m.n, .bool m.b, .string m.s, .slice m.a m.ln m.c]
def VM.val (m : VM) : Value := .agg #[.int .u8 (m.k : Int), .int .u64 (m.u : Int), .int .i64 m.n, .bool m.b, .string m.s, .slice m.a m.ln m.c]
structure VOk (D : Nat → Prop) (w : World) (m : VM) : Prop where
  k : m.k < 256
  u : m.u < 18446744073709551616
  n1 : -9223372036854775808 ≤ m.n
  n2 : m.n ≤ 9223372036854775807
  s : m.s.size ≤ 9223372036854775807
  l : Is D w m.a m.ln m.c m.l
  l64 : Ok64 m.l
/-- short strings and lists -/
def VShort (m : VM) : Prop := m.s.size ≤ 1000000 ∧ m.ln ≤ 1000000
/-- the encoding of a Value -/
def encV (m : VM) : List UInt8 := if m.k % 5 = 0 then encU m.u else if m.k % 5 = 1 then encI m.n else if m.k % 5 = 2 then encB m.b else if m.k % 5 = 3 then encT m.s.data.toList else encL m.l
theorem VOk.kept {D S : Nat → Prop} {w w' : World} {m : VM} (h : VOk D w m) (hk : Kept S w w') (hd : ∀ b, b < w.heap.size → D b → ¬ S b) : VOk D w' m := ⟨h.k, h.u, h.n1, h.n2, h.s, h.l.kept hk hd, h.l64⟩
theorem VOk.dom {D D' : Nat → Prop} {w : World} {m : VM} (h : VOk D w m) (hd : ∀ b, D b → D' b) : VOk D' w m := ⟨h.k, h.u, h.n1, h.n2, h.s, h.l.dom hd, h.l64⟩
theorem kind_of (k : Nat) : ((k : Int) % 5 == 0) = decide (k % 5 = 0) := by
  rw [Bool.eq_iff_iff]; simp; omega
end Go.Proofs.Ytfgmhidgkemfoaa.Wi
namespace Go.Proofs.Ytfgmhidgkemfoaa.Wi
set_option linter.unusedSimpArgs false
set_option linter.unusedVariables false
open Go.RowKit
set_option linter.unusedSimpArgs false
set_option linter.unusedVariables false
theorem Bs.cells {D : Nat → Prop} {w : World} {a : Option Addr} {n c : Nat} {l : List UInt8} (h : Bs D w a n c l) (hn : 0 < n) : ∃ b off, D b ∧ b < w.heap.size ∧ a = some ⟨b, off, none⟩ ∧ ∀ i (hi : i < l.length), w.cell? ⟨b, off + i, none⟩ = some (.int .u8 (l[i].toNat : Int)) := by
  obtain ⟨h1, h2, h3, h4, h5, h6⟩ := h
  obtain ⟨b, off, hD, ha, hr⟩ := h6 hn
  exact ⟨b, off, hD, range_lt hr (by rw [vals_len]; omega), ha, fun i hi => hr i _ (by simp [vals, hi])⟩
theorem u8_under : Try.prog.underlying 5 = some (.int .u8) := Try.underlying5
theorem str_under : Try.prog.underlying 9 = some .string := Try.underlying9
/-- a slice of bytes as a string -/
theorem run_str {D : Nat → Prop} {w : World} {a : Option Addr} {n c : Nat} {l : List UInt8} (h : Bs D w a n c l) :
    (convert 71 9 (.slice a n c)).run Try.prog w = .ok (.string ⟨l.toArray⟩) w := by
  obtain ⟨h1, h2, h3, h4, h5, h6⟩ := h
  subst h1
  cases a with
  | none =>
    have := h5 rfl
    have hl : l = [] := List.eq_nil_of_length_eq_zero (by omega)
    subst hl
    exact run_convert_bytes_nil w 71 5 Try.underlying71 u8_under _ _ _ str_under
  | some ad =>
    refine run_convert_bytes_back w 71 9 5 ad c l Try.underlying71 u8_under str_under (fun j hj => ?_)
    obtain ⟨b, off, _, ha, hc⟩ := h6 (by omega)
    obtain rfl : ad = ⟨b, off, none⟩ := Option.some.inj ha
    rw [Addr.add_mid, hc j (.int .u8 (l[j].toNat : Int)) (by simp [vals, hj])]
/-- new bytes: nobody else's -/
def Made (w : World) (v : Value) (l : List UInt8) (w' : World) : Prop :=
  ∃ k, Own w' 5 1 k v l.length (vals l) ∧ (∀ j, k = some j → w.heap.size ≤ j) ∧ Below w.heap.size w w'
theorem _root_.Go.Proofs.Ytfgmhidgkemfoaa.Own.bs {w : World} {k : Option Nat} {v : Value} {l : List UInt8} (h : Own w 5 1 k v l.length (vals l)) : ∃ a c, v = .slice a l.length c ∧ Bs (fun b => k = some b) w a l.length c l := by
  obtain ⟨a, c, hv, hs⟩ := h.sl
  exact ⟨a, c, hv, rfl, hs⟩
theorem Bs.src {P : Program} {D : Nat → Prop} {w : World} {a : Option Addr} {n c : Nat} {l : List UInt8} {tx e' : TypeId} (h : Bs D w a n c l) (hk : P.underlying tx = some (.slice e')) : Src P 1 tx (.slice a n c) n (vals l) w := h.2.src hk (vals_one l)
theorem Own.empty (w : World) : Own (w.alloc (.cells #[] 5)) 5 1 (some w.heap.size) (.slice (some ⟨w.heap.size, 0, none⟩) 0 0) 0 [] := Own.made w 5 1 #[] 0 (Nat.zero_le _) rfl
set_option maxRecDepth 100000 in
set_option maxHeartbeats 400000 in
theorem clone_any (D : Nat → Prop) (a : Option Addr) (n c : Nat) (l : List UInt8) (w : World) (hB : Bs D w a n c l) (hn : n ≤ 100000000000000) :
    Calls Try.prog 62 #[.slice a n c] w fun e w' => ∃ v, e = .returned v ∧ Made w v l w' := by
  obtain ⟨i0, hi, hz0, hz1, hz2⟩ := info_parts info5
  cases a with
  | none =>
    have ke := fun (w : World) => Lib.run_eql_slice_nil (P := Try.prog) w 71 5 none n c 0 0 Try.underlying71
    have h0 := hB.2.2.2.2.1 rfl
    have h1 := hB.2.2.1
    subst h0
    obtain rfl : n = 0 := by omega
    obtain rfl : l = [] := List.eq_nil_of_length_eq_zero hB.1
    clear hB
    go_enter Try.func62, Try.ntmps62
    go_wp2
    go_ret
    exact ⟨_, rfl, none, Own.nil _ _ _, (fun _ h => by cases h), Below.refl _ _⟩
  | some ad =>
    have HB := Lib.hid hB
    have HL := Lib.hid hB.1
    have ke := fun (w : World) => Lib.run_eql_slice_nil (P := Try.prog) w 71 5 (some ad) n c 0 0 Try.underlying71
    clear hB
    go_enter Try.func62, Try.ntmps62
    go_wp2_with (at_builtin; refine wpList_append_any _ rfl (.tmp 5) (.tmp 6) 71 71 rfl 5 i0 (.int .u8 0) 1 1 Try.underlying71 hi hz0 hz1 hz2 rfl (some w.heap.size) _ 0 [] rfl (Own.empty w) n (vals l) ((HB.out.kept ((Kept.refl (fun _ => False) w).alloc _) (fun _ _ _ h => h)).src Try.underlying71) (by unfold maxLen; omega) (by omega) ?_)
    intro k' v' w' ho hf hK hn
    have R : Made w v' l w' := ⟨k', by rw [HL.out]; exact ho, fun j hj => by
      rcases hf j hj with h | h
      · cases h; exact Nat.le_refl _
      · omega, ((Below.refl w.heap.size w).alloc (Nat.le_refl _) _).trans (hK.below (by simp) (fun j hj h => by cases h; omega))⟩
    have HR := Lib.hid R
    clear R ho hf hK hn
    go_wp2
    go_ret
    exact ⟨_, rfl, HR.out⟩
theorem Made.bs {w w' : World} {v : Value} {l : List UInt8} (h : Made w v l w') : ∃ a c, v = .slice a l.length c ∧ Bs (fun b => w.heap.size ≤ b) w' a l.length c l := by
  obtain ⟨k, ho, hf, hb⟩ := h
  obtain ⟨a, c, hv, hs⟩ := ho.bs
  exact ⟨a, c, hv, hs.dom hf⟩
set_option maxRecDepth 100000 in
set_option maxHeartbeats 400000 in
theorem copied_any (g : Nat) (k : Option Nat) (l : List UInt8) (w : World) (hW : Wr w g k l) (hl : l.length ≤ 100000000000000) :
    Calls Try.prog 63 #[.pointer (some ⟨g, 0, none⟩)] w fun e w' => ∃ v, e = .returned v ∧ Made w v l w' := by
  obtain ⟨v, hg, hO, hk⟩ := hW
  have h0 : w.cell? ⟨g, 0, none⟩ = some v := by rw [cell_of_row w g 0 _ _ _ hg]; rfl
  obtain ⟨a, c, rfl, hB⟩ := hO.bs
  have HB := Lib.hid hB
  clear hg hO hk hB
  go_enter Try.func63, Try.ntmps63
  go_wp2_with (go_at_call 62; refine (clone_any _ a _ c l _ HB.out hl).mono ?_; rintro e w2 ⟨v, rfl, hw2⟩; have H2 := Lib.hid hw2; clear hw2)
  go_ret
  exact ⟨_, rfl, H2.out⟩
set_option maxRecDepth 100000 in
set_option maxHeartbeats 400000 in
theorem done_any (g : Nat) (k : Option Nat) (l : List UInt8) (w : World) (hW : Wr w g k l) (hl : l.length ≤ 100000000000000) :
    Calls Try.prog 40 #[.pointer (some ⟨g, 0, none⟩)] w fun e w' => ∃ v, e = .returned v ∧ Made w v l w' := by
  have HW := Lib.hid hW
  clear hW
  go_enter Try.func40, Try.ntmps40
  go_wp2_with (go_at_call 63; refine (copied_any g k l _ HW.out hl).mono ?_; rintro e w2 ⟨v, rfl, hw2⟩; have H2 := Lib.hid hw2; clear hw2)
  go_ret
  exact ⟨_, rfl, H2.out⟩
/-- a reader in block g has the bytes l left, in block k, and the error e -/
def Rd (w : World) (g : Nat) (k : Option Nat) (l : List UInt8) (e : Nat) : Prop :=
  ∃ a c, w.heap[g]? = some (.cells #[.slice a l.length c, .int .i64 (e : Int)] 113 (0, 0)) ∧ Bs (fun b => k = some b) w a l.length c l ∧ k ≠ some g
theorem Rd.kept {S : Nat → Prop} {w w' : World} {g : Nat} {k : Option Nat} {l : List UInt8} {e : Nat} (h : Rd w g k l e) (hk : Kept S w w') (hg : ¬ S g) (hs : ∀ j, k = some j → ¬ S j) : Rd w' g k l e := by
  obtain ⟨a, c, h1, h2, h3⟩ := h
  exact ⟨a, c, hk.heap h1 hg, h2.kept hk (fun b _ hb => hs b hb), h3⟩
theorem Rd.lt {w : World} {g : Nat} {k : Option Nat} {l : List UInt8} {e : Nat} (h : Rd w g k l e) : g < w.heap.size := by
  obtain ⟨a, c, h1, h2⟩ := h
  exact heap_lt h1
/-- a new reader -/
def NewRd (w : World) (g : Nat) (l : List UInt8) (w' : World) : Prop :=
  ∃ k, Rd w' g k l 0 ∧ w.heap.size ≤ g ∧ (∀ j, k = some j → w.heap.size ≤ j ∧ j < w'.heap.size) ∧ Below w.heap.size w w'
set_option maxRecDepth 100000 in
set_option maxHeartbeats 400000 in
theorem newReader_any (D : Nat → Prop) (a : Option Addr) (n c : Nat) (l : List UInt8) (w : World) (hB : Bs D w a n c l) (hn : n ≤ 100000000000000) :
    Calls Try.prog 39 #[.slice a n c] w fun e w' => ∃ g, e = .returned (.pointer (some ⟨g, 0, none⟩)) ∧ NewRd w g l w' := by
  have HB := Lib.hid hB
  clear hB
  go_enter Try.func39, Try.ntmps39
  go_wp2_with (go_at_call 62; refine (clone_any _ a _ c l _ HB.out hn).mono ?_; rintro e w2 ⟨v, rfl, k, ho, hf, hb⟩; obtain ⟨a2, c2, rfl, hs⟩ := ho.bs; have HO := Lib.hid ho; have HS := Lib.hid hs; have HF := Lib.hid hf; have HBe := Lib.hid hb; clear ho hs hf hb)
  go_ret
  refine ⟨w2.heap.size, rfl, k, ⟨a2, c2, heap_new rfl, HS.out.kept ((Kept.refl (fun _ => False) w2).alloc _) (fun _ _ _ h => h), fun e => ?_⟩, HBe.out.size, fun j hj => ⟨HF.out j hj, by have := HO.out.lt j hj; rw [size_alloc1]; omega⟩, HBe.out.trans ((Below.refl _ _).alloc HBe.out.size _)⟩
  have := HO.out.lt _ e
  omega
end Go.Proofs.Ytfgmhidgkemfoaa.Wi
namespace Go.Proofs.Ytfgmhidgkemfoaa.Wi
set_option linter.unusedSimpArgs false
set_option linter.unusedVariables false
open Go.RowKit
set_option linter.unusedSimpArgs false
set_option linter.unusedVariables false
theorem pow128 (k : Nat) : 128 ^ k = 2 ^ (7 * k) := by rw [Nat.pow_mul]
/-- a group is laid behind those that were read -/
theorem or_step (acc x k : Nat) (ha : acc < 128 ^ k) (hx : x % 128 * 128 ^ k < 18446744073709551616) (h64 : acc < 18446744073709551616) :
    bits .or .u64 (acc : Int) (IntKind.u64.wrap ((x : Int) % 128 * 2 ^ (7 * k))) = ((acc + x % 128 * 128 ^ k : Nat) : Int) := by
  rw [pow128] at ha hx ⊢
  have e : (x : Int) % 128 * 2 ^ (7 * k) = ((x % 128 * 2 ^ (7 * k) : Nat) : Int) := by simp
  have e2 : IntKind.u64.wrap ((x % 128 * 2 ^ (7 * k) : Nat) : Int) = ((x % 128 * 2 ^ (7 * k) : Nat) : Int) := by rw [IntKind.wrap_u64]; omega
  rw [e, e2, u64_or_nat _ _ h64 hx, Nat.or_comm, ← Nat.shiftLeft_eq, ← Nat.shiftLeft_add_eq_or_of_lt ha, Nat.shiftLeft_eq, Nat.add_comm]
theorem acc_next (acc x k : Nat) (ha : acc < 128 ^ k) : acc + x % 128 * 128 ^ k < 128 ^ (k + 1) := by
  rw [Nat.pow_succ, Nat.mul_comm (128 ^ k)]
  have : x % 128 * 128 ^ k ≤ 127 * 128 ^ k := Nat.mul_le_mul_right _ (by omega)
  omega
theorem pow_lt9 {k : Nat} (h : k ≤ 9) : 128 ^ k ≤ 9223372036854775808 := by have := pow_le_pow128 h; rw [pow9] at this; exact this
theorem grp_fits {k : Nat} (x : Nat) (h : k < 9) : x % 128 * 128 ^ k < 18446744073709551616 := by
  have h8 : 128 ^ k ≤ 128 ^ 8 := pow_le_pow128 (by omega)
  have : x % 128 * 128 ^ k ≤ 127 * 128 ^ 8 := Nat.mul_le_mul (by omega) h8
  have e8 : (127 : Nat) * 128 ^ 8 < 18446744073709551616 := by decide
  omega
theorem ret3 {a a' : Int} {b b' c c' : Nat} (h : a = a') (h2 : b = b') (h3 : c = c') : Ending.returned (.tuple #[.int .u64 a, .int .i64 (b : Int), .int .i64 (c : Int)]) = .returned (.tuple #[.int .u64 a', .int .i64 (b' : Int), .int .i64 (c' : Int)]) := by rw [h, h2, h3]
set_option maxRecDepth 100000 in
set_option maxHeartbeats 1000000 in
theorem firstNumber_any (D : Nat → Prop) (a : Option Addr) (n c : Nat) (l : List UInt8) (w : World) (hB : Bs D w a n c l) (hn : n ≤ 100000000000000) :
    Calls Try.prog 64 #[.slice a n c] w fun e w' => e = .returned (.tuple #[.int .u64 ((fnum l 0 0).1 : Int), .int .i64 ((fnum l 0 0).2.1 : Int), .int .i64 ((fnum l 0 0).2.2 : Int)]) ∧ w = w' := by
  have HB := Lib.hid hB
  have HL := Lib.hid hB.1
  clear hB
  obtain ⟨F, hF⟩ : ∃ F, F = fnum l 0 0 := ⟨_, rfl⟩
  rw [← hF]
  have HF := Lib.hid hF
  clear hF
  go_enter Try.func64, Try.ntmps64
  go_wp2
  go_loop [5, 10] (fun t i => ∃ (k acc : Nat), k ≤ n ∧ k ≤ 9 ∧ i = .int .i64 (k : Int) ∧ t = .int .u64 (acc : Int) ∧ acc < 128 ^ k ∧ F = fnum (l.drop k) k acc) (fun _ i => n - (intOf i).toNat)
  case atStart => exact ⟨0, 0, Nat.zero_le _, by omega, rfl, rfl, by simp, HF.out⟩
  case round =>
    obtain ⟨k, acc, hk, hk9, rfl, rfl, hacc, hFk⟩ := hrel
    have HFk := Lib.hid hFk
    have HAcc := Lib.hid hacc
    clear hFk hacc HF
    by_cases hlt : k < n
    · have hkl : k < l.length := by have := HL.out; omega
      obtain ⟨b, off, hDb, hbw, rfl, hc⟩ := HB.out.cells (by omega)
      have hcell := hc k hkl
      have hd : l.drop k = l[k] :: l.drop (k + 1) := List.drop_eq_getElem_cons hkl
      have HD := Lib.hid hd
      have hx := l[k].toNat_lt
      clear hc hd
      generalize l[k] = x at *
      by_cases h9 : k = 9
      · subst h9
        by_cases hb : 1 < x.toNat
        · have e := HFk.out
          rw [HD.out, fnum, if_pos ⟨rfl, hb⟩] at e
          subst e
          go_wp2
          go_ret3
          exact ⟨rfl, rfl⟩
        · by_cases hz : x.toNat = 0
          · have e := HFk.out
            rw [HD.out, fnum, if_neg (by omega), if_neg (by omega), if_pos ⟨hz, by omega⟩] at e
            subst e
            go_wp2
            go_ret3
            exact ⟨rfl, rfl⟩
          · have h1 : x.toNat = 1 := by omega
            have e := HFk.out
            rw [HD.out, fnum, if_neg (by omega), if_neg (by omega), if_neg (by omega)] at e
            have ho := or_step acc x.toNat 9 HAcc.out (by rw [h1, pow9]; decide) (by have := HAcc.out; rw [pow9] at this; omega)
            have ho2 : bits .or .u64 (acc : Int) 9223372036854775808 = (acc : Int) + 9223372036854775808 := by
              have h := or_step acc 1 9 HAcc.out (by decide) (by have := HAcc.out; rw [pow9] at this; omega)
              rw [show IntKind.u64.wrap (((1 : Nat) : Int) % 128 * 2 ^ (7 * 9)) = 9223372036854775808 by decide] at h
              rw [h, pow9]; omega
            have HO := Lib.hid ho2
            subst e
            clear ho ho2
            have hz2 : ((x.toNat : Int) == 0) = false := by rw [beq_eq_false_iff_ne]; omega
            go_wp2
            go_ret3
            exact ⟨ret3 HO.out rfl rfl, rfl⟩
      · by_cases hb : 128 ≤ x.toNat
        · have e := HFk.out
          rw [HD.out, fnum, if_neg (by omega), if_pos hb] at e
          have HE := Lib.hid e
          have HO := Lib.hid (or_step acc x.toNat k HAcc.out (grp_fits _ (by omega)) (by have := HAcc.out; have := pow_lt9 hk9; omega))
          clear e
          go_wp2
          go_round
          case rel => exact ⟨k + 1, _, by omega, by omega, by go_num, by rw [HO.out], acc_next _ _ _ HAcc.out, HE.out⟩
          case measure => simp [intOf]; omega
        · by_cases hz : x.toNat = 0 ∧ 0 < k
          · have e := HFk.out
            rw [HD.out, fnum, if_neg (by omega), if_neg hb, if_pos hz] at e
            subst e
            obtain ⟨hz1, hz2⟩ := hz
            go_wp2
            go_ret3
            exact ⟨rfl, rfl⟩
          · have e := HFk.out
            rw [HD.out, fnum, if_neg (by omega), if_neg hb, if_neg hz] at e
            have HO := Lib.hid (or_step acc x.toNat k HAcc.out (grp_fits _ (by omega)) (by have := HAcc.out; have := pow_lt9 hk9; omega))
            subst e
            by_cases hz1 : x.toNat = 0
            · obtain rfl : k = 0 := by omega
              obtain rfl : acc = 0 := by have := HAcc.out; omega
              have hb0 : bits .or .u64 0 0 = 0 := by decide
              have hcell0 : w.cell? ⟨b, off, none⟩ = some (.int .u8 0) := by simpa [hz1] using hcell
              clear HO hcell
              rw [hz1]
              go_wp2
              go_ret3
              exact ⟨rfl, rfl⟩
            · have hz2 : ((x.toNat : Int) == 0) = false := by rw [beq_eq_false_iff_ne]; omega
              go_wp2
              go_ret3
              exact ⟨ret3 HO.out rfl rfl, rfl⟩
    · have e := HFk.out
      rw [List.drop_of_length_le (by have := HL.out; omega), fnum] at e
      subst e
      go_wp2
      go_ret3
      exact ⟨rfl, rfl⟩
end Go.Proofs.Ytfgmhidgkemfoaa.Wi
namespace Go.Proofs.Ytfgmhidgkemfoaa.Wi
set_option linter.unusedSimpArgs false
set_option linter.unusedVariables false
open Go.RowKit
set_option linter.unusedSimpArgs false
set_option linter.unusedVariables false
/-- what a method of a reader leaves -/
def Reads (g : Nat) (k : Option Nat) (w : World) (l' : List UInt8) (e' : Nat) (w' : World) : Prop := Rd w' g k l' e' ∧ Kept (fun j => j = g) w w'
theorem Rd.facts {w : World} {g : Nat} {k : Option Nat} {l : List UInt8} {e : Nat} (h : Rd w g k l e) : ∃ a c, w.heap[g]? = some (.cells #[.slice a l.length c, .int .i64 (e : Int)] 113 (0, 0)) ∧ w.cell? ⟨g, 0, none⟩ = some (.slice a l.length c) ∧ w.cell? ⟨g, 1, none⟩ = some (.int .i64 (e : Int)) ∧ w.frozen? ⟨g, 0, none⟩ = false ∧ w.frozen? ⟨g, 1, none⟩ = false ∧ Bs (fun b => k = some b) w a l.length c l ∧ k ≠ some g := by
  obtain ⟨a, c, hg, hB, hk⟩ := h
  exact ⟨a, c, hg, by rw [cell_of_row w g 0 _ _ _ hg]; rfl, by rw [cell_of_row w g 1 _ _ _ hg]; rfl, frozen_of_row w g 0 _ _ hg, frozen_of_row w g 1 _ _ hg, hB, hk⟩
def failed (e f : Nat) : Nat := if e = 0 then f else e
set_option maxRecDepth 100000 in
set_option maxHeartbeats 400000 in
theorem fail_any (g : Nat) (k : Option Nat) (l : List UInt8) (e f : Nat) (F : Int) (w : World) (hR : Rd w g k l e) (hF : F = (f : Int)) :
    Calls Try.prog 65 #[.pointer (some ⟨g, 0, none⟩), .int .i64 F] w fun x w' => x = .returned (.tuple #[]) ∧ Reads g k w l (failed e f) w' := by
  subst hF
  obtain ⟨a, c, hg, h0, h1, f0, f1, hB, hk⟩ := hR.facts
  have HG := Lib.hid hg
  have HB := Lib.hid hB
  have HK := Lib.hid hk
  have HR := Lib.hid hR
  clear hg hB hk hR
  by_cases he : e = 0
  · subst he
    go_enter Try.func65, Try.ntmps65
    go_wp2
    go_end0
    refine ⟨rfl, ⟨a, c, ?_, HB.out.kept ((Kept.refl (fun j => j = g) w).setCell (fun _ => rfl) _) (fun b _ hb e => HK.out (by rw [hb, e])), HK.out⟩, (Kept.refl (fun j => j = g) w).setCell (fun _ => rfl) _⟩
    rw [heap_setCell_same w g 1 _ _ _ HG.out]
    rfl
  · have he2 : ((e : Int) == 0) = false := by rw [beq_eq_false_iff_ne]; omega
    go_enter Try.func65, Try.ntmps65
    go_wp2
    go_end0
    refine ⟨rfl, ?_, Kept.refl _ _⟩
    rw [failed, if_neg he]
    exact HR.out
set_option maxRecDepth 100000 in
theorem left_any (g : Nat) (k : Option Nat) (l : List UInt8) (e : Nat) (w : World) (hR : Rd w g k l e) :
    Calls Try.prog 68 #[.pointer (some ⟨g, 0, none⟩)] w fun x w' => x = .returned (.int .i64 (l.length : Int)) ∧ w = w' := by
  obtain ⟨a, c, hg, h0, h1, f0, f1, hB, hk⟩ := hR.facts
  clear hg hB hk hR
  go_enter Try.func68, Try.ntmps68
  go_wp2
  go_ret
  exact ⟨rfl, rfl⟩
def endE (e n : Nat) : Nat := if e = 0 ∧ 0 < n then 7 else e
theorem ret_int {k : IntKind} {a b : Int} (h : a = b) : Ending.returned (.int k a) = .returned (.int k b) := by rw [h]
set_option maxRecDepth 100000 in
theorem end_any (g : Nat) (k : Option Nat) (l : List UInt8) (e : Nat) (w : World) (hR : Rd w g k l e) :
    Calls Try.prog 43 #[.pointer (some ⟨g, 0, none⟩)] w fun x w' => x = .returned (.int .i64 (endE e l.length : Int)) ∧ w = w' := by
  obtain ⟨a, c, hg, h0, h1, f0, f1, hB, hk⟩ := hR.facts
  have HR := Lib.hid hR
  clear hg hB hk hR
  by_cases he : e = 0
  · subst he
    by_cases hl : 0 < l.length
    · go_enter Try.func43, Try.ntmps43
      go_wp2_with (go_at_call 68; refine (left_any g k l _ _ HR.out).mono ?_; rintro e w2 ⟨rfl, rfl⟩)
      go_ret
      exact ⟨ret_int (by rw [endE, if_pos ⟨rfl, hl⟩]; rfl), rfl⟩
    · have hl0 : l.length = 0 := by omega
      go_enter Try.func43, Try.ntmps43
      go_wp2_with (go_at_call 68; refine (left_any g k l _ _ HR.out).mono ?_; rintro e w2 ⟨rfl, rfl⟩)
      go_ret
      exact ⟨ret_int (by rw [endE, if_neg (by omega)]; rfl), rfl⟩
  · have he2 : ((e : Int) == 0) = false := by rw [beq_eq_false_iff_ne]; omega
    go_enter Try.func43, Try.ntmps43
    go_wp2
    go_ret
    exact ⟨ret_int (by rw [endE, if_neg (by omega)]), rfl⟩
theorem vals_take (l : List UInt8) (n : Nat) : vals (l.take n) = (vals l).take n := by simp [vals, List.map_take]
theorem vals_drop (l : List UInt8) (n : Nat) : vals (l.drop n) = (vals l).drop n := by simp [vals, List.map_drop]
theorem Bs.upto {D : Nat → Prop} {w : World} {a : Option Addr} {n c : Nat} {l : List UInt8} (h : Bs D w a n c l) (F : Nat) (hF : F ≤ n) : Bs D w a F c (l.take F) := by
  obtain ⟨h1, h2, h3, h4, h5, h6⟩ := h
  refine ⟨by rw [List.length_take]; omega, ?_, by omega, h4, h5, fun hp => ?_⟩
  · rw [vals_len, List.length_take]; omega
  · obtain ⟨b, off, hD, ha, hr⟩ := h6 (by omega)
    refine ⟨b, off, hD, ha, fun j v hv => hr j v ?_⟩
    rw [vals_take, List.getElem?_take] at hv
    split at hv
    · exact hv
    · cases hv
theorem Bs.from {D : Nat → Prop} {w : World} {a : Option Addr} {n c : Nat} {l : List UInt8} (h : Bs D w a n c l) (F : Nat) (hF : F ≤ n) : Bs D w (if c = F then a else a.map (fun x => x.add F)) (n - F) (c - F) (l.drop F) := by
  obtain ⟨h1, h2, h3, h4, h5, h6⟩ := h
  have h4' : c ≤ maxLen := h4
  refine ⟨by rw [List.length_drop]; omega, ?_, by omega, by unfold maxLen at *; omega, ?_, fun hp => ?_⟩
  · rw [vals_len, List.length_drop]; omega
  · intro ha
    by_cases hcF : c = F
    · omega
    · rw [if_neg hcF] at ha
      cases a with
      | none => have := h5 rfl; omega
      | some x => cases ha
  · obtain ⟨b, off, hD, rfl, hr⟩ := h6 (by omega)
    rw [if_neg (by omega)]
    refine ⟨b, off + F, hD, by rw [Option.map_some, Addr.add_mid], fun j v hv => ?_⟩
    rw [vals_drop, List.getElem?_drop] at hv
    rw [Nat.add_assoc]
    exact hr (F + j) v hv
set_option maxRecDepth 100000 in
set_option maxHeartbeats 400000 in
theorem take_any (g : Nat) (k : Option Nat) (l : List UInt8) (e : Nat) (n : Nat) (w : World) (hR : Rd w g k l e) (hn : n ≤ l.length) :
    Calls Try.prog 66 #[.pointer (some ⟨g, 0, none⟩), .int .i64 (n : Int)] w fun x w' => ∃ a c, x = .returned (.slice a n c) ∧ Bs (fun b => k = some b) w' a n c (l.take n) ∧ Reads g k w (l.drop n) e w' := by
  obtain ⟨a, c, hg, h0, h1, f0, f1, hB, hk⟩ := hR.facts
  have hc1 : l.length ≤ c := hB.2.2.1
  have hc2 : c ≤ 9223372036854775807 := hB.2.2.2.1
  have fin : ∀ (a' : Option Addr) (c' : Nat), Bs (fun b => k = some b) w a' (l.length - n) c' (l.drop n) → Bs (fun b => k = some b) (w.setCell ⟨g, 0, none⟩ (.slice a' (l.length - n) c')) a n c (l.take n) ∧ Reads g k w (l.drop n) e (w.setCell ⟨g, 0, none⟩ (.slice a' (l.length - n) c')) := by
    intro a' c' hs
    have K := (Kept.refl (fun j => j = g) w).setCell (p := ⟨g, 0, none⟩) (fun _ => rfl) (.slice a' (l.length - n) c')
    refine ⟨(hB.upto n hn).kept K (fun b _ hb e => hk (by rw [hb, e])), ⟨a', c', ?_, ?_, hk⟩, K⟩
    · rw [heap_setCell_same w g 0 _ _ _ hg, List.length_drop]
      rfl
    · rw [List.length_drop]
      exact hs.kept K (fun b _ hb e => hk (by rw [hb, e]))
  have Bf := hB.from n hn
  have HF := Lib.hid fin
  have HB := Lib.hid Bf
  clear hg hB hk hR fin Bf
  by_cases hcn : c = n
  · have hb := HB.out
    rw [if_pos hcn] at hb
    subst hcn
    rw [Nat.sub_self] at hb
    have HB2 := Lib.hid hb
    clear hb HB
    go_enter Try.func66, Try.ntmps66
    go_wp2
    go_ret
    have h := HF.out _ _ HB2.out
    rw [show l.length - c = 0 by omega] at h
    exact ⟨a, _, rfl, h⟩
  · have hb := HB.out
    rw [if_neg hcn] at hb
    have HB2 := Lib.hid hb
    clear hb HB
    go_enter Try.func66, Try.ntmps66
    go_wp2
    go_ret
    exact ⟨a, _, rfl, HF.out _ _ HB2.out⟩
end Go.Proofs.Ytfgmhidgkemfoaa.Wi
namespace Go.Proofs.Ytfgmhidgkemfoaa.Wi
set_option linter.unusedSimpArgs false
set_option linter.unusedVariables false
/-- the bytes that are left, the error -/
structure RS where
  l : List UInt8
  e : Nat
def RS.fail (s : RS) (f : Nat) : RS := ⟨s.l, if s.e = 0 then f else s.e⟩
def rUint (s : RS) : Nat × RS := if s.e = 0 then ((fnum s.l 0 0).1, ⟨s.l.drop (fnum s.l 0 0).2.1, (fnum s.l 0 0).2.2⟩) else (0, s)
def rInt (s : RS) : Int × RS := (zag (rUint s).1, (rUint s).2)
def rBool (s : RS) : Bool × RS := if s.e = 0 then (match s.l with | [] => (false, ⟨[], 6⟩) | b :: r => (b.toNat == 1, ⟨r, if 1 < b.toNat then 7 else 0⟩)) else (false, s)
def rLen (s : RS) (most : Int) : Nat × RS := if most < 0 ∨ most < ((rUint s).1 : Int) then (0, (rUint s).2.fail 2) else rUint s
def rText (s : RS) (most : Int) : List UInt8 × RS := if (rLen s most).2.l.length < (rLen s most).1 then ([], (rLen s most).2.fail 6) else ((rLen s most).2.l.take (rLen s most).1, ⟨(rLen s most).2.l.drop (rLen s most).1, (rLen s most).2.e⟩)
def rIntsGo : Nat → List Int → RS → List Int × RS
  | 0, acc, s => (acc, s)
  | n + 1, acc, s => if (rInt s).2.e = 0 then rIntsGo n (acc ++ [(rInt s).1]) (rInt s).2 else ([], (rInt s).2)
def rInts (s : RS) (most : Int) : List Int × RS := rIntsGo (rLen s most).1 [] (rLen s most).2
theorem fnum_size : ∀ (l : List UInt8) (i acc : Nat), (fnum l i acc).2.1 ≤ i + l.length := by
  intro l
  induction l with
  | nil => intro i acc; simp [fnum]
  | cons b r ih =>
    intro i acc
    rw [fnum]
    split
    · simp
    · split
      · have := ih (i + 1) (acc + b.toNat % 128 * 128 ^ i); simp only [List.length_cons]; omega
      · split
        · simp
        · simp only [List.length_cons]; omega
theorem fnum_size_pos : ∀ (l : List UInt8) (i acc : Nat), (fnum l i acc).2.2 = 0 → i < (fnum l i acc).2.1 := by
  intro l
  induction l with
  | nil => intro i acc h; simp [fnum] at h
  | cons b r ih =>
    intro i acc h
    rw [fnum] at h ⊢
    split at h
    · simp at h
    · rename_i h1
      rw [if_neg h1]
      split at h
      · rename_i h2; rw [if_pos h2]; have := ih _ _ h; omega
      · rename_i h2
        rw [if_neg h2]
        split at h
        · simp at h
        · rename_i h3; rw [if_neg h3]; simp
theorem fnum_val (l : List UInt8) : (fnum l 0 0).1 < 18446744073709551616 := by
  rcases fnum_err l 0 0 with h | h | h
  · have hv : fnum l 0 0 = ((fnum l 0 0).1, (fnum l 0 0).2.1, 0) := by rw [Prod.ext_iff, Prod.ext_iff]; exact ⟨rfl, rfl, h⟩
    obtain ⟨n, r, _, hv, _, hn, _⟩ := fnum_ok l 0 0 _ _ hv (by omega)
    rw [hv]; simpa using hn
  · rw [h]; decide
  · rw [h]; decide
theorem rUint_val (s : RS) : (rUint s).1 < 18446744073709551616 := by
  unfold rUint
  split
  · exact fnum_val _
  · show 0 < 18446744073709551616
    omega
theorem rUint_err (s : RS) (h : s.e ≠ 0) : rUint s = (0, s) := by unfold rUint; rw [if_neg h]
theorem rUint_ok (s : RS) (h : s.e = 0) : rUint s = ((fnum s.l 0 0).1, ⟨s.l.drop (fnum s.l 0 0).2.1, (fnum s.l 0 0).2.2⟩) := by unfold rUint; rw [if_pos h]
theorem rUint_len (s : RS) : (rUint s).2.l.length ≤ s.l.length := by
  unfold rUint
  split
  · simp
  · exact Nat.le_refl _
theorem rUint_shorter (s : RS) (h : s.e = 0) (h2 : (rUint s).2.e = 0) : (rUint s).2.l.length < s.l.length := by
  rw [rUint_ok s h] at h2 ⊢
  simp only [List.length_drop] at h2 ⊢
  have h3 := fnum_size_pos _ _ _ h2
  have h4 := fnum_size s.l 0 0
  omega
theorem rInt_bd (s : RS) : -9223372036854775808 ≤ (rInt s).1 ∧ (rInt s).1 ≤ 9223372036854775807 := zag_bd _ (rUint_val s)
theorem rLen_len (s : RS) (most : Int) : (rLen s most).2.l.length ≤ s.l.length := by
  unfold rLen
  split
  · exact rUint_len s
  · exact rUint_len s
theorem rInt_ok (s : RS) (h : (rInt s).2.e = 0) : s.e = 0 := by
  unfold rInt at h
  by_cases he : s.e = 0
  · exact he
  · rw [rUint_err s he] at h; exact h
theorem rIntsGo_ok (n : Nat) : ∀ (acc : List Int) (s : RS), (∀ x ∈ acc, -9223372036854775808 ≤ x ∧ x ≤ 9223372036854775807) → ∀ x ∈ (rIntsGo n acc s).1, -9223372036854775808 ≤ x ∧ x ≤ 9223372036854775807 := by
  induction n with
  | zero => intro acc s h; exact h
  | succ n ih =>
    intro acc s h
    rw [rIntsGo]
    split
    · exact ih _ _ (fun x hx => by
        rcases List.mem_append.1 hx with hx | hx
        · exact h x hx
        · rw [List.mem_singleton.1 hx]; exact rInt_bd s)
    · intro x hx; cases hx
theorem rText_len (s : RS) (most : Int) : (rText s most).1.length ≤ s.l.length := by
  unfold rText
  split
  · simp
  · have := rLen_len s most
    simp only [List.length_take]
    omega
end Go.Proofs.Ytfgmhidgkemfoaa.Wi
namespace Go.Proofs.Ytfgmhidgkemfoaa.Wi
set_option linter.unusedSimpArgs false
set_option linter.unusedVariables false
open Go.RowKit
set_option linter.unusedSimpArgs false
set_option linter.unusedVariables false
theorem Reads.trans {g : Nat} {k : Option Nat} {w w1 w2 : World} {l1 l2 : List UInt8} {e1 e2 : Nat} (h : Reads g k w l1 e1 w1) (h2 : Reads g k w1 l2 e2 w2) : Reads g k w l2 e2 w2 := ⟨h2.1, h.2.trans h2.2 (fun _ _ h => h)⟩
set_option maxRecDepth 100000 in
set_option maxHeartbeats 400000 in
theorem ruint_any (g : Nat) (k : Option Nat) (l : List UInt8) (e : Nat) (w : World) (hR : Rd w g k l e) (hl : l.length ≤ 100000000000000) :
    Calls Try.prog 41 #[.pointer (some ⟨g, 0, none⟩)] w fun x w' => x = .returned (.int .u64 ((rUint ⟨l, e⟩).1 : Int)) ∧ Reads g k w (rUint ⟨l, e⟩).2.l (rUint ⟨l, e⟩).2.e w' := by
  obtain ⟨a, c, hg, h0, h1, f0, f1, hB, hk⟩ := hR.facts
  have HB := Lib.hid hB
  have HR := Lib.hid hR
  clear hg hB hk hR
  by_cases he : e = 0
  · subst he
    rw [rUint_ok ⟨l, 0⟩ rfl]
    have hsz := fnum_size l 0 0
    obtain ⟨V, hV⟩ : ∃ V, V = (fnum l 0 0).1 := ⟨_, rfl⟩
    obtain ⟨K, hK⟩ : ∃ K, K = (fnum l 0 0).2.1 := ⟨_, rfl⟩
    obtain ⟨E, hE⟩ : ∃ E, E = (fnum l 0 0).2.2 := ⟨_, rfl⟩
    have hC := firstNumber_any _ a l.length c l w HB.out hl
    rw [← hV, ← hK, ← hE] at hC
    rw [← hK] at hsz
    simp only [← hV, ← hK, ← hE]
    have HC := Lib.hid hC
    have hsz2 : K ≤ l.length := by omega
    clear hC hV hK hE HB hsz
    go_enter Try.func41, Try.ntmps41
    go_wp2_with (first
      | (go_at_call 66; refine (take_any g k l _ K _ H2.out.1 hsz2).mono ?_; rintro e w3 ⟨a3, c3, rfl, -, h3⟩; have H3 := Lib.hid h3; clear h3)
      | (go_at_call 65; refine (fail_any g k l 0 E _ _ HR.out rfl).mono ?_; rintro e w2 ⟨rfl, h2⟩; have H2 := Lib.hid h2; clear h2)
      | (go_at_call 64; refine HC.out.mono ?_; rintro e w1 ⟨rfl, rfl⟩))
    go_ret
    exact ⟨rfl, H2.out.trans H3.out⟩
  · have he2 : ((e : Int) == 0) = false := by rw [beq_eq_false_iff_ne]; omega
    have he3 : ((e : Int) != 0) = true := by rw [bne_iff_ne]; omega
    rw [rUint_err ⟨l, e⟩ he]
    go_enter Try.func41, Try.ntmps41
    go_wp2
    go_ret
    exact ⟨rfl, HR.out, Kept.refl _ _⟩
theorem retB (b : Bool) {x y : Bool} (h : x = y) : Ending.returned (.bool x) = .returned (.bool y) := by rw [h]
end Go.Proofs.Ytfgmhidgkemfoaa.Wi
namespace Go.Proofs.Ytfgmhidgkemfoaa.Wi
set_option linter.unusedSimpArgs false
set_option linter.unusedVariables false
open Go.RowKit
set_option linter.unusedSimpArgs false
set_option linter.unusedVariables false
set_option maxRecDepth 100000 in
set_option maxHeartbeats 400000 in
theorem rlen_any (g : Nat) (k : Option Nat) (l : List UInt8) (e : Nat) (most : Int) (w : World) (hR : Rd w g k l e) (hl : l.length ≤ 100000000000000) (h1 : -9223372036854775808 ≤ most) (h2 : most ≤ 9223372036854775807) :
    Calls Try.prog 67 #[.pointer (some ⟨g, 0, none⟩), .int .i64 most] w fun x w' => x = .returned (.int .u64 ((rLen ⟨l, e⟩ most).1 : Int)) ∧ Reads g k w (rLen ⟨l, e⟩ most).2.l (rLen ⟨l, e⟩ most).2.e w' := by
  have hC := ruint_any g k l e w hR hl
  unfold rLen
  have hv := rUint_val ⟨l, e⟩
  generalize rUint ⟨l, e⟩ = R at *
  obtain ⟨V, S⟩ := R
  simp only at hC hv ⊢
  have HC := Lib.hid hC
  clear hC hR
  by_cases hm : most < 0 ∨ most < (V : Int)
  · rw [if_pos hm]
    by_cases hm0 : most < 0
    · go_enter Try.func67, Try.ntmps67
      go_wp2_with (first
        | (go_at_call 41; refine HC.out.mono ?_; rintro e w1 ⟨rfl, h1⟩; have H1 := Lib.hid h1; clear h1)
        | (go_at_call 65; refine (fail_any g k _ _ 2 _ _ H1.out.1 rfl).mono ?_; rintro e w2 ⟨rfl, h2⟩; have H2 := Lib.hid h2; clear h2))
      go_ret
      exact ⟨rfl, H1.out.trans H2.out⟩
    · have hm1 : most < (V : Int) := by omega
      go_enter Try.func67, Try.ntmps67
      go_wp2_with (first
        | (go_at_call 41; refine HC.out.mono ?_; rintro e w1 ⟨rfl, h1⟩; have H1 := Lib.hid h1; clear h1)
        | (go_at_call 65; refine (fail_any g k _ _ 2 _ _ H1.out.1 rfl).mono ?_; rintro e w2 ⟨rfl, h2⟩; have H2 := Lib.hid h2; clear h2))
      go_ret
      exact ⟨rfl, H1.out.trans H2.out⟩
  · rw [if_neg hm]
    have hm0 : ¬ most < 0 := by omega
    have hm1 : ¬ most < (V : Int) := by omega
    clear hm
    go_enter Try.func67, Try.ntmps67
    go_wp2_with (first
      | (go_at_call 41; refine HC.out.mono ?_; rintro e w1 ⟨rfl, h1⟩; have H1 := Lib.hid h1; clear h1))
    go_ret
    exact ⟨rfl, H1.out⟩
set_option maxRecDepth 100000 in
set_option maxHeartbeats 400000 in
theorem rtext_any (g : Nat) (k : Option Nat) (l : List UInt8) (e : Nat) (most : Int) (w : World) (hR : Rd w g k l e) (hl : l.length ≤ 100000000000000) (h1 : -9223372036854775808 ≤ most) (h2 : most ≤ 9223372036854775807) :
    Calls Try.prog 42 #[.pointer (some ⟨g, 0, none⟩), .int .i64 most] w fun x w' => x = .returned (.string ⟨(rText ⟨l, e⟩ most).1.toArray⟩) ∧ Reads g k w (rText ⟨l, e⟩ most).2.l (rText ⟨l, e⟩ most).2.e w' := by
  have hC := rlen_any g k l e most w hR hl h1 h2
  unfold rText
  have hv : (rLen ⟨l, e⟩ most).1 < 18446744073709551616 := by
    unfold rLen
    split
    · show 0 < 18446744073709551616
      omega
    · exact rUint_val _
  have hll := rLen_len ⟨l, e⟩ most
  generalize rLen ⟨l, e⟩ most = R at *
  obtain ⟨V, S, E⟩ := R
  simp only at hC hv hll ⊢
  have HC := Lib.hid hC
  clear hC hR
  by_cases hm : S.length < V
  · rw [if_pos hm]
    go_enter Try.func42, Try.ntmps42
    go_wp2_with (first
      | (go_at_call 67; refine HC.out.mono ?_; rintro e w1 ⟨rfl, h1⟩; have H1 := Lib.hid h1; clear h1)
      | (go_at_call 68; refine (left_any g k _ _ _ H1.out.1).mono ?_; rintro e w2 ⟨rfl, rfl⟩)
      | (go_at_call 65; refine (fail_any g k _ _ 6 _ _ H1.out.1 rfl).mono ?_; rintro e w2 ⟨rfl, h2⟩; have H2 := Lib.hid h2; clear h2))
    go_ret
    exact ⟨rfl, H1.out.trans H2.out⟩
  · rw [if_neg hm]
    go_enter Try.func42, Try.ntmps42
    go_wp2_with (first
      | (go_at_call 67; refine HC.out.mono ?_; rintro e w1 ⟨rfl, h1⟩; have H1 := Lib.hid h1; clear h1)
      | (go_at_call 68; refine (left_any g k _ _ _ H1.out.1).mono ?_; rintro e w2 ⟨rfl, rfl⟩)
      | (go_at_call 66; refine (take_any g k S E V _ H1.out.1 (by omega)).mono ?_; rintro e w3 ⟨a3, c3, rfl, hb3, h3⟩; have r3 := run_str hb3; have H3 := Lib.hid h3; clear h3 hb3))
    go_ret
    exact ⟨rfl, H1.out.trans H3.out⟩
end Go.Proofs.Ytfgmhidgkemfoaa.Wi
namespace Go.Proofs.Ytfgmhidgkemfoaa.Wi
set_option linter.unusedSimpArgs false
set_option linter.unusedVariables false
theorem rUint_enc (n : Nat) (r : List UInt8) (h : n < 18446744073709551616) : rUint ⟨encU n ++ r, 0⟩ = (n, ⟨r, 0⟩) := by
  rw [rUint_ok _ rfl]
  have := fnum_enc n r 0 0 (by simpa using h) (by omega) (by omega)
  simp only [this, Nat.zero_add, Nat.pow_zero, Nat.mul_one, List.drop_left]
theorem rLen_enc (n : Nat) (r : List UInt8) (most : Int) (h : n < 18446744073709551616) (hm : (n : Int) ≤ most) : rLen ⟨encU n ++ r, 0⟩ most = (n, ⟨r, 0⟩) := by
  unfold rLen
  rw [rUint_enc n r h, if_neg (by simp only; omega)]
theorem rText_enc (s r : List UInt8) (most : Int) (h : s.length < 18446744073709551616) (hm : (s.length : Int) ≤ most) : rText ⟨encT s ++ r, 0⟩ most = (s, ⟨r, 0⟩) := by
  unfold rText encT
  rw [List.append_assoc, rLen_enc _ _ most h hm, if_neg (by simp only [List.length_append]; omega)]
  simp only [List.take_left, List.drop_left]
end Go.Proofs.Ytfgmhidgkemfoaa.Wi
namespace Go.Proofs.Ytfgmhidgkemfoaa
/-- the groups of 7 bits of an unsigned number -/
def encU (n : Nat) : List UInt8 := if h : n < 128 then [UInt8.ofNat n] else UInt8.ofNat (128 + n % 128) :: encU (n / 128)
termination_by n
decreasing_by omega
theorem encU_small {n : Nat} (h : n < 128) : encU n = [UInt8.ofNat n] := by rw [encU, dif_pos h]
theorem encU_big {n : Nat} (h : ¬ n < 128) : encU n = UInt8.ofNat (128 + n % 128) :: encU (n / 128) := by rw [encU, dif_neg h]
theorem encU_len_pos (n : Nat) : 0 < (encU n).length := by
  by_cases h : n < 128
  · rw [encU_small h]; simp
  · rw [encU_big h]; simp
theorem encU_len (i : Nat) : ∀ n : Nat, n < 128 ^ (i + 1) → (encU n).length ≤ i + 1 := by
  induction i with
  | zero => intro n h; rw [encU_small (by simpa using h)]; simp
  | succ i ih =>
    intro n h
    by_cases hn : n < 128
    · rw [encU_small hn]; simp
    · rw [encU_big hn, List.length_cons]
      have := ih (n / 128) (by rw [Nat.div_lt_iff_lt_mul (by omega)]; rw [Nat.pow_succ] at h; exact h)
      omega
theorem encU_len10 (n : Nat) (h : n < 18446744073709551616) : (encU n).length ≤ 10 := encU_len 9 n (Nat.lt_of_lt_of_le h (by decide))
/-- what reading a number from some bytes gives, i groups having been read with the value acc: the value, the size, the error -/
def fnum : List UInt8 → Nat → Nat → Nat × Nat × Nat
  | [], _, _ => (0, 0, 6)
  | b :: r, i, acc =>
    if i = 9 ∧ 1 < b.toNat then (0, 0, 7)
    else if 128 ≤ b.toNat then fnum r (i + 1) (acc + b.toNat % 128 * 128 ^ i)
    else if b.toNat = 0 ∧ 0 < i then (0, 0, 7)
    else (acc + b.toNat % 128 * 128 ^ i, i + 1, 0)
theorem toNat_ofNat (n : Nat) (h : n < 256) : (UInt8.ofNat n).toNat = n := by simp; omega
theorem pow_le_pow128 {i j : Nat} (h : i ≤ j) : 128 ^ i ≤ 128 ^ j := Nat.pow_le_pow_right (by omega) h
theorem pow9 : 128 ^ 9 = 9223372036854775808 := by decide
theorem fnum_enc : ∀ (n : Nat) (r : List UInt8) (i acc : Nat), n * 128 ^ i < 18446744073709551616 → (0 < i → 0 < n) → i ≤ 9 → fnum (encU n ++ r) i acc = (acc + n * 128 ^ i, i + (encU n).length, 0) := by
  intro n
  induction n using Nat.strongRecOn with
  | _ n ih =>
    intro r i acc hb hp hi
    by_cases hn : n < 128
    · rw [encU_small hn, List.singleton_append, fnum, toNat_ofNat n (by omega)]
      have h1 : ¬ (i = 9 ∧ 1 < n) := by
        rintro ⟨rfl, h⟩
        rw [pow9] at hb
        omega
      rw [if_neg h1, if_neg (by omega), if_neg (by omega), Nat.mod_eq_of_lt hn]
      rfl
    · rw [encU_big hn, List.cons_append, fnum, toNat_ofNat _ (by omega)]
      have h1 : ¬ (i = 9 ∧ 1 < 128 + n % 128) := by
        rintro ⟨rfl, h⟩
        rw [pow9] at hb
        omega
      have e : n / 128 * 128 ^ (i + 1) + n % 128 * 128 ^ i = n * 128 ^ i := by
        rw [Nat.pow_succ, ← Nat.mul_assoc, Nat.mul_right_comm, ← Nat.add_mul, Nat.div_add_mod']
      have hi2 : i + 1 ≤ 9 := by
        rcases Nat.lt_or_ge i 9 with h | h
        · exact h
        · exfalso
          have := pow_le_pow128 h
          rw [pow9] at this
          have : 128 * 9223372036854775808 ≤ n * 128 ^ i := Nat.mul_le_mul (by omega) this
          omega
      have h2 : (128 + n % 128) % 128 = n % 128 := by omega
      rw [if_neg h1, if_pos (by omega), h2, ih (n / 128) (by omega) r (i + 1) _ (by omega) (fun _ => by omega) hi2]
      rw [List.length_cons, Nat.add_assoc acc, Nat.add_comm (n % 128 * 128 ^ i), e, Nat.add_right_comm i, Nat.add_assoc i]
/-- what is read without an error is an encoding -/
theorem fnum_ok : ∀ (l : List UInt8) (i acc v k : Nat), fnum l i acc = (v, k, 0) → i ≤ 9 → ∃ n r, l = encU n ++ r ∧ v = acc + n * 128 ^ i ∧ k = i + (encU n).length ∧ n * 128 ^ i < 18446744073709551616 ∧ (0 < i → 0 < n) := by
  intro l
  induction l with
  | nil => intro i acc v k h; simp [fnum] at h
  | cons b r ih =>
    intro i acc v k h hi
    rw [fnum] at h
    have hb := b.toNat_lt
    by_cases h1 : i = 9 ∧ 1 < b.toNat
    · rw [if_pos h1] at h; simp at h
    rw [if_neg h1] at h
    by_cases h2 : 128 ≤ b.toNat
    · rw [if_pos h2] at h
      have hi2 : i + 1 ≤ 9 := by omega
      obtain ⟨n, r', rfl, rfl, rfl, hn, hp⟩ := ih (i + 1) _ v k h hi2
      have hp' := hp (by omega)
      have e : (b.toNat % 128 + n * 128) * 128 ^ i = b.toNat % 128 * 128 ^ i + n * 128 ^ (i + 1) := by
        rw [Nat.add_mul, Nat.pow_succ, Nat.mul_assoc, Nat.mul_comm 128]
      refine ⟨b.toNat % 128 + n * 128, r', ?_, ?_, ?_, ?_, fun _ => by omega⟩
      · rw [encU_big (n := b.toNat % 128 + n * 128) (by omega), show (b.toNat % 128 + n * 128) / 128 = n by omega, show 128 + (b.toNat % 128 + n * 128) % 128 = b.toNat by omega]
        simp
      · rw [e, Nat.add_assoc]
      · rw [encU_big (n := b.toNat % 128 + n * 128) (by omega), show (b.toNat % 128 + n * 128) / 128 = n by omega, List.length_cons]
        omega
      · have hm : b.toNat % 128 * 128 ^ i < 128 ^ (i + 1) := by
          rw [Nat.pow_succ, Nat.mul_comm (128 ^ i)]
          exact Nat.mul_lt_mul_of_pos_right (by omega) (Nat.pow_pos (by omega))
        rw [e]
        have hd : (18446744073709551616 : Nat) = 2 ^ (64 - 7 * (i + 1)) * 128 ^ (i + 1) := by
          rw [show (128 : Nat) = 2 ^ 7 by rfl, ← Nat.pow_mul, ← Nat.pow_add, show 64 - 7 * (i + 1) + 7 * (i + 1) = 64 by omega]
        rw [hd] at hn ⊢
        have hn2 := Nat.lt_of_mul_lt_mul_right hn
        calc  b.toNat % 128 * 128 ^ i + n * 128 ^ (i + 1) < 128 ^ (i + 1) + n * 128 ^ (i + 1) := by omega
          _ = (n + 1) * 128 ^ (i + 1) := by rw [Nat.add_mul, Nat.one_mul, Nat.add_comm]
          _ ≤ 2 ^ (64 - 7 * (i + 1)) * 128 ^ (i + 1) := Nat.mul_le_mul_right _ hn2
    · rw [if_neg h2] at h
      by_cases h3 : b.toNat = 0 ∧ 0 < i
      · rw [if_pos h3] at h; simp at h
      rw [if_neg h3] at h
      simp only [Prod.mk.injEq, and_true] at h
      obtain ⟨rfl, rfl⟩ := h
      refine ⟨b.toNat, r, ?_, ?_, ?_, ?_, fun _ => by omega⟩
      · rw [encU_small (by omega)]; simp
      · rw [Nat.mod_eq_of_lt (by omega)]
      · rw [encU_small (by omega)]; rfl
      · rcases Nat.lt_or_ge i 9 with h | h
        · have h8 : 128 ^ i ≤ 128 ^ 8 := pow_le_pow128 (by omega)
          have : b.toNat * 128 ^ i ≤ 127 * 128 ^ 8 := Nat.mul_le_mul (by omega) h8
          have e8 : (127 : Nat) * 128 ^ 8 < 18446744073709551616 := by decide
          omega
        · obtain rfl : i = 9 := by omega
          rw [pow9]
          omega
/-- of a proper prefix of an encoding nothing is read -/
theorem fnum_cut : ∀ (n : Nat) (p : List UInt8) (i acc : Nat), n * 128 ^ i < 18446744073709551616 → i ≤ 9 → (∃ q, q ≠ [] ∧ encU n = p ++ q) → fnum p i acc = (0, 0, 6) := by
  intro n
  induction n using Nat.strongRecOn with
  | _ n ih =>
    intro p i acc hb hi hq
    obtain ⟨q, hq, he⟩ := hq
    cases p with
    | nil => rfl
    | cons x p =>
      by_cases hn : n < 128
      · rw [encU_small hn] at he
        simp at he
        exact (hq he.2.2).elim
      · rw [encU_big hn] at he
        simp only [List.cons_append, List.cons.injEq] at he
        obtain ⟨rfl, he⟩ := he
        have hi2 : i + 1 ≤ 9 := by
          rcases Nat.lt_or_ge i 9 with h | h
          · exact h
          · exfalso
            have := pow_le_pow128 h
            rw [pow9] at this
            have : 128 * 9223372036854775808 ≤ n * 128 ^ i := Nat.mul_le_mul (by omega) this
            omega
        have e : n / 128 * 128 ^ (i + 1) ≤ n * 128 ^ i := by
          rw [Nat.pow_succ, ← Nat.mul_assoc, Nat.mul_right_comm]
          exact Nat.mul_le_mul_right _ (by omega)
        rw [fnum, toNat_ofNat _ (by omega), if_neg (by omega), if_pos (by omega)]
        exact ih (n / 128) (by omega) p (i + 1) _ (by omega) hi2 ⟨q, hq, he⟩
theorem fnum_err (l : List UInt8) : ∀ i acc : Nat, (fnum l i acc).2.2 = 0 ∨ (fnum l i acc = (0, 0, 6)) ∨ fnum l i acc = (0, 0, 7) := by
  induction l with
  | nil => intro i acc; exact .inr (.inl rfl)
  | cons b r ih =>
    intro i acc
    rw [fnum]
    split
    · exact .inr (.inr rfl)
    · split
      · exact ih _ _
      · split
        · exact .inr (.inr rfl)
        · exact .inl rfl
/-- the number for which an unsigned number stands, and back -/
def zig (n : Int) : Nat := if n < 0 then (2 * (-(n + 1)) + 1).toNat else (2 * n).toNat
def zag (u : Nat) : Int := if u % 2 = 0 then ((u / 2 : Nat) : Int) else -((u / 2 : Nat) : Int) - 1
theorem zag_zig (n : Int) : zag (zig n) = n := by unfold zag zig; split <;> split <;> omega
theorem zig_zag (u : Nat) : zig (zag u) = u := by unfold zag zig; split <;> split <;> omega
theorem zig_lt (n : Int) (h1 : -9223372036854775808 ≤ n) (h2 : n ≤ 9223372036854775807) : zig n < 18446744073709551616 := by unfold zig; split <;> omega
theorem zag_bd (u : Nat) (h : u < 18446744073709551616) : -9223372036854775808 ≤ zag u ∧ zag u ≤ 9223372036854775807 := by unfold zag; split <;> omega
def encI (n : Int) : List UInt8 := encU (zig n)
def encB (b : Bool) : List UInt8 := if b then [1] else [0]
def encT (s : List UInt8) : List UInt8 := encU s.length ++ s
def encL (l : List Int) : List UInt8 := encU l.length ++ l.flatMap encI
end Go.Proofs.Ytfgmhidgkemfoaa
namespace Go.Proofs.Ytfgmhidgkemfoaa
open Go.RowKit
theorem heap_alloc_if (w : World) (o : Obj) (i : Nat) : (w.alloc o).heap[i]? = if i = w.heap.size then some o else w.heap[i]? := by
  show (w.heap.push o)[i]? = _
  rw [Array.getElem?_push]
theorem size_alloc1 (w : World) (o : Obj) : (w.alloc o).heap.size = w.heap.size + 1 := by
  show (w.heap.push o).size = _
  simp
theorem heap_new {w : World} {o : Obj} {g : Nat} (h : g = w.heap.size) : (w.alloc o).heap[g]? = some o := by
  rw [heap_alloc_if, if_pos h]
theorem heap_old {w : World} {o o' : Obj} {g : Nat} (h : w.heap[g]? = some o) : (w.alloc o').heap[g]? = some o := by
  have hl : g < w.heap.size := by
    by_cases hl : g < w.heap.size
    · exact hl
    · rw [Array.getElem?_eq_none (by omega)] at h; cases h
  rw [heap_alloc_if, if_neg (by omega), h]
theorem heap_lt {w : World} {o : Obj} {g : Nat} (h : w.heap[g]? = some o) : g < w.heap.size := by
  by_cases hl : g < w.heap.size
  · exact hl
  · rw [Array.getElem?_eq_none (by omega)] at h; cases h
def vals (l : List UInt8) : List Value := l.map fun x => Value.int .u8 (x.toNat : Int)
theorem vals_len (l : List UInt8) : (vals l).length = l.length := by simp [vals]
theorem vals_app (l m : List UInt8) : vals (l ++ m) = vals l ++ vals m := by simp [vals]
theorem vals_one (l : List UInt8) : ∀ u ∈ vals l, u.oneCell' = true := by simp [vals, Value.oneCell']
theorem vals_str (s : ByteArray) : byteCells s = vals s.data.toList := rfl
def ivals (l : List Int) : List Value := l.map (Value.int .i64)
theorem ivals_len (l : List Int) : (ivals l).length = l.length := by simp [ivals]
theorem ivals_app (l m : List Int) : ivals (l ++ m) = ivals l ++ ivals m := by simp [ivals]
theorem ivals_one (l : List Int) : ∀ u ∈ ivals l, u.oneCell' = true := by simp [ivals, Value.oneCell']
theorem info5 : (Try.prog.info? 5).map (fun i => (i.zero, i.size, i.bytes)) = some (some (.int .u8 0), 1, 1) := by kernel_rfl
theorem info3 : (Try.prog.info? 3).map (fun i => (i.zero, i.size, i.bytes)) = some (some (.int .i64 0), 1, 8) := by kernel_rfl
theorem i64_id (n : Int) (h0 : -9223372036854775808 ≤ n) (h1 : n ≤ 9223372036854775807) : IntKind.i64.wrap n = n := by
  rw [IntKind.wrap_i64]; omega
/-- a slice of bytes -/
def Bs (D : Nat → Prop) (w : World) (a : Option Addr) (n c : Nat) (l : List UInt8) : Prop := l.length = n ∧ Sl D w a n c (vals l) 1
/-- a slice of numbers -/
def Is (D : Nat → Prop) (w : World) (a : Option Addr) (n c : Nat) (l : List Int) : Prop := l.length = n ∧ Sl D w a n c (ivals l) 1
theorem Bs.kept {D S : Nat → Prop} {w w' : World} {a : Option Addr} {n c : Nat} {l : List UInt8} (h : Bs D w a n c l) (hk : Kept S w w') (hd : ∀ b, b < w.heap.size → D b → ¬ S b) : Bs D w' a n c l := ⟨h.1, h.2.kept (by decide) hk hd⟩
theorem Is.kept {D S : Nat → Prop} {w w' : World} {a : Option Addr} {n c : Nat} {l : List Int} (h : Is D w a n c l) (hk : Kept S w w') (hd : ∀ b, b < w.heap.size → D b → ¬ S b) : Is D w' a n c l := ⟨h.1, h.2.kept (by decide) hk hd⟩
theorem Bs.dom {D D' : Nat → Prop} {w : World} {a : Option Addr} {n c : Nat} {l : List UInt8} (h : Bs D w a n c l) (hd : ∀ b, D b → D' b) : Bs D' w a n c l := ⟨h.1, h.2.dom hd⟩
theorem Is.dom {D D' : Nat → Prop} {w : World} {a : Option Addr} {n c : Nat} {l : List Int} (h : Is D w a n c l) (hd : ∀ b, D b → D' b) : Is D' w a n c l := ⟨h.1, h.2.dom hd⟩
/-- a writer in block g has collected l, in block k -/
def Wr (w : World) (g : Nat) (k : Option Nat) (l : List UInt8) : Prop :=
  ∃ v, w.heap[g]? = some (.cells #[v] 75 (0, 0)) ∧ Own w 5 1 k v l.length (vals l) ∧ k ≠ some g
/-- from one world of a writer to a later one: nothing but its own blocks has changed, and its row moves to new blocks only -/
structure Link (g : Nat) (k : Option Nat) (w : World) (k' : Option Nat) (w' : World) : Prop where
  fresh : ∀ j, k' = some j → k = some j ∨ w.heap.size ≤ j
  kept : Kept (fun j => j = g ∨ k = some j) w w'
theorem Link.trans {g : Nat} {k k1 k2 : Option Nat} {w w1 w2 : World} (h : Link g k w k1 w1) (h2 : Link g k1 w1 k2 w2) : Link g k w k2 w2 := by
  refine ⟨fun j hj => ?_, h.kept.trans h2.kept (fun j hj ht => ?_)⟩
  · rcases h2.fresh j hj with e | e
    · exact h.fresh j e
    · exact .inr (Nat.le_trans h.kept.size e)
  · rcases ht with e | e
    · exact .inl e
    · rcases h.fresh j e with e | e
      · exact .inr e
      · omega
theorem Link.refl (g : Nat) (k : Option Nat) (w : World) : Link g k w k w := ⟨fun _ h => .inl h, Kept.refl _ _⟩
theorem Link.of_below {g : Nat} {k : Option Nat} {w w' : World} (h : Below w.heap.size w w') : Link g k w k w' := ⟨fun _ h => .inl h, Kept.of_below _ h⟩
/-- what a method of a writer does -/
def Wrote (g : Nat) (k : Option Nat) (w : World) (l' : List UInt8) (w' : World) : Prop := ∃ k', Wr w' g k' l' ∧ Link g k w k' w'
theorem Wr.lt {w : World} {g : Nat} {k : Option Nat} {l : List UInt8} (h : Wr w g k l) : g < w.heap.size := by
  obtain ⟨v, hg, _⟩ := h
  exact (Array.getElem?_eq_some_iff.1 hg).1
theorem Wr.kept {S : Nat → Prop} {w w' : World} {g : Nat} {k : Option Nat} {l : List UInt8} (h : Wr w g k l) (hk : Kept S w w') (hg : ¬ S g) (hs : ∀ j, k = some j → ¬ S j) : Wr w' g k l := by
  obtain ⟨v, h1, h2, h3⟩ := h
  exact ⟨v, hk.heap h1 hg, h2.kept hk hs, h3⟩
theorem Wrote.refl {w : World} {g : Nat} {k : Option Nat} {l : List UInt8} (h : Wr w g k l) : Wrote g k w l w := ⟨k, h, Link.refl _ _ _⟩
theorem Wrote.after {g : Nat} {k k1 : Option Nat} {w w1 w2 : World} {l2 : List UInt8} (h : Link g k w k1 w1) (h2 : Wrote g k1 w1 l2 w2) : Wrote g k w l2 w2 := by
  obtain ⟨k2, hw2, hl2⟩ := h2
  exact ⟨k2, hw2, h.trans hl2⟩
theorem one_set {w : World} {g : Nat} {v u : Value} {t : TypeId} (hg : w.heap[g]? = some (.cells #[v] t (0, 0))) : (w.setCell ⟨g, 0, none⟩ u).heap[g]? = some (.cells #[u] t (0, 0)) := by
  rw [heap_setCell_same w g 0 _ _ _ hg]
  rfl
end Go.Proofs.Ytfgmhidgkemfoaa
namespace Go.Proofs.Ytfgmhidgkemfoaa
open Go.RowKit
set_option linter.unusedSimpArgs false
set_option linter.unusedVariables false
/-- the order of keys -/
def cmpK (a b : ByteArray) : Int := Lib.compareBytes a.data.toList b.data.toList
theorem cb_bd : ∀ a b : List UInt8, Lib.compareBytes a b = -1 ∨ Lib.compareBytes a b = 0 ∨ Lib.compareBytes a b = 1
  | [], [] => .inr (.inl rfl)
  | [], _ :: _ => .inl rfl
  | _ :: _, [] => .inr (.inr rfl)
  | x :: a, y :: b => by
    unfold Lib.compareBytes
    split
    · exact .inl rfl
    · split
      · exact .inr (.inr rfl)
      · exact cb_bd a b
theorem cb_eq : ∀ a b : List UInt8, Lib.compareBytes a b = 0 ↔ a = b
  | [], [] => by simp [Lib.compareBytes]
  | [], _ :: _ => by simp [Lib.compareBytes]
  | _ :: _, [] => by simp [Lib.compareBytes]
  | x :: a, y :: b => by
    have ih := cb_eq a b
    unfold Lib.compareBytes
    split
    · rename_i h
      constructor
      · intro e; omega
      · intro e
        have := (List.cons.inj e).1
        subst this
        exact absurd h (UInt8.lt_irrefl x)
    · rename_i h
      split
      · rename_i h2
        constructor
        · intro e; omega
        · intro e
          have := (List.cons.inj e).1
          subst this
          exact absurd h2 (UInt8.lt_irrefl x)
      · rename_i h2
        have hxy : x = y := UInt8.le_antisymm (UInt8.not_lt.1 h2) (UInt8.not_lt.1 h)
        subst hxy
        rw [ih]
        simp
theorem cb_flip : ∀ a b : List UInt8, Lib.compareBytes b a = - Lib.compareBytes a b
  | [], [] => rfl
  | [], _ :: _ => rfl
  | _ :: _, [] => rfl
  | x :: a, y :: b => by
    have ih := cb_flip a b
    unfold Lib.compareBytes
    by_cases h : x < y
    · simp [h, UInt8.lt_asymm h]
    · by_cases h2 : y < x
      · simp [h, h2]
      · simp only [if_neg h, if_neg h2]
        exact ih
theorem cb_trans : ∀ a b c : List UInt8, Lib.compareBytes a b < 0 → Lib.compareBytes b c < 0 → Lib.compareBytes a c < 0
  | [], [], _, h, _ => by simp [Lib.compareBytes] at h
  | [], _ :: _, [], _, h => by simp [Lib.compareBytes] at h
  | [], _ :: _, _ :: _, _, _ => by simp [Lib.compareBytes]
  | _ :: _, [], _, h, _ => by simp [Lib.compareBytes] at h
  | _ :: _, _ :: _, [], _, h => by simp [Lib.compareBytes] at h
  | x :: a, y :: b, z :: c, h1, h2 => by
    have ih := cb_trans a b c
    unfold Lib.compareBytes at h1 h2 ⊢
    by_cases e1 : x < y
    · by_cases e2 : y < z
      · rw [if_pos (UInt8.lt_trans e1 e2)]; omega
      · by_cases e3 : z < y
        · rw [if_neg e2, if_pos e3] at h2; omega
        · have : y = z := UInt8.le_antisymm (UInt8.not_lt.1 e3) (UInt8.not_lt.1 e2)
          subst this
          rw [if_pos e1]; omega
    · by_cases e3 : y < x
      · rw [if_neg e1, if_pos e3] at h1; omega
      · have : x = y := UInt8.le_antisymm (UInt8.not_lt.1 e3) (UInt8.not_lt.1 e1)
        subst this
        rw [if_neg e1, if_neg e1] at h1
        by_cases e2 : x < z
        · rw [if_pos e2]; omega
        · by_cases e4 : z < x
          · rw [if_neg e2, if_pos e4] at h2; omega
          · rw [if_neg e2, if_neg e4] at h2 ⊢
            exact ih h1 h2
theorem cmpK_bd (a b : ByteArray) : cmpK a b = -1 ∨ cmpK a b = 0 ∨ cmpK a b = 1 := cb_bd _ _
theorem cmpK_eq (a b : ByteArray) : cmpK a b = 0 ↔ a = b := by
  unfold cmpK
  rw [cb_eq]
  constructor
  · intro h
    obtain ⟨⟨la⟩⟩ := a
    obtain ⟨⟨lb⟩⟩ := b
    simp only at h
    rw [h]
  · intro h; rw [h]
theorem cmpK_flip (a b : ByteArray) : cmpK b a = - cmpK a b := cb_flip _ _
theorem cmpK_trans {a b c : ByteArray} (h : cmpK a b < 0) (h2 : cmpK b c < 0) : cmpK a c < 0 := cb_trans _ _ _ h h2
theorem run_cmpCall (a b : ByteArray) (w : World) :
    (callFunc 94 #[.string a, .string b]).run Try.prog w = .ok (.value (.int .i64 (cmpK a b))) w := by
  rw [run_callFunc_extern Try.func94 (by kernel_rfl) (by kernel_rfl) (by kernel_rfl) (e := Extern.BytealgCompare.compare) (by kernel_rfl), Lib.run_compareString]
  rfl
attribute [local go_sem] run_cmpCall
set_option maxRecDepth 100000 in
theorem compareStr_any (a b : ByteArray) (w : World) :
    Calls Try.prog 88 #[.string a, .string b] w fun e w' => e = .returned (.int .i64 (cmpK a b)) ∧ w = w' := by
  go_enter Try.func88, Try.ntmps88
  go_wp2_with fail
  go_ret
  exact ⟨rfl, rfl⟩
set_option maxRecDepth 100000 in
theorem compare_any (a b : ByteArray) (w : World) :
    Calls Try.prog 80 #[.string a, .string b] w fun e w' => e = .returned (.int .i64 (cmpK a b)) ∧ w = w' := by
  go_enter Try.func80, Try.ntmps80
  go_wp2_with (go_at_call 88; refine (compareStr_any a b _).mono ?_; rintro e w1 ⟨rfl, rfl⟩)
  go_ret
  exact ⟨rfl, rfl⟩
set_option maxRecDepth 100000 in
theorem findFn_any (a v b : ByteArray) (w : World) :
    Calls Try.prog 79 #[.agg #[.string a, .string v], .string b] w fun e w' => e = .returned (.int .i64 (cmpK a b)) ∧ Below w.heap.size w w' := by
  go_enter Try.func79, Try.ntmps79
  go_wp2_with (go_at_call 80; refine (compare_any a b _).mono ?_; rintro e w1 ⟨rfl, rfl⟩)
  go_ret
  exact ⟨rfl, (Below.refl _ _).alloc (Nat.le_refl _) _⟩
end Go.Proofs.Ytfgmhidgkemfoaa
namespace Go.Proofs.Ytfgmhidgkemfoaa
open Go.RowKit
set_option linter.unusedSimpArgs false
set_option linter.unusedVariables false
/-- a pair -/
structure KV where
  k : ByteArray
  v : ByteArray
def KV.cells (p : KV) : List Value := [.string p.k, .string p.v]
def pcells (ps : List KV) : List Value := ps.flatMap KV.cells
theorem pcells_len (ps : List KV) : (pcells ps).length = ps.length * 2 := by
  unfold pcells
  induction ps with
  | nil => rfl
  | cons m r ih => rw [List.flatMap_cons, List.length_append, ih, List.length_cons]; show 2 + _ = _; omega
theorem pcells_get (ps : List KV) (i j : Nat) (hi : i < ps.length) (hj : j < 2) : (pcells ps)[i * 2 + j]? = ps[i].cells[j]? := by
  unfold pcells
  induction ps generalizing i with
  | nil => simp at hi
  | cons m r ih =>
    rw [List.flatMap_cons]
    have hl : m.cells.length = 2 := rfl
    cases i with
    | zero =>
      rw [List.getElem?_append_left (by omega), Nat.zero_mul, Nat.zero_add]
      rfl
    | succ i =>
      rw [List.getElem?_append_right (by omega), show (i + 1) * 2 + j - m.cells.length = i * 2 + j by omega, ih i (by simpa using hi)]
      rfl
/-- a slice of pairs -/
def Ps (D : Nat → Prop) (w : World) (a : Option Addr) (n c : Nat) (ps : List KV) : Prop := ps.length = n ∧ Sl D w a n c (pcells ps) 2
theorem Ps.kept {D S : Nat → Prop} {w w' : World} {a : Option Addr} {n c : Nat} {ps : List KV} (h : Ps D w a n c ps) (hk : Kept S w w') (hd : ∀ b, b < w.heap.size → D b → ¬ S b) : Ps D w' a n c ps := ⟨h.1, h.2.kept (by decide) hk hd⟩
theorem Ps.below {D : Nat → Prop} {w w' : World} {a : Option Addr} {n c : Nat} {ps : List KV} (h : Ps D w a n c ps) (hb : Below w.heap.size w w') : Ps D w' a n c ps := h.kept (Kept.of_below (fun _ => False) hb) (fun _ _ _ h => h)
theorem Ps.at {D : Nat → Prop} {w : World} {a : Option Addr} {n c : Nat} {ps : List KV} (h : Ps D w a n c ps) (hp : 0 < n) : ∃ b off, D b ∧ b < w.heap.size ∧ a = some ⟨b, off, none⟩ ∧ ∀ (i : Nat) (hi : i < ps.length), w.rangeAt b (off + i * 2) ps[i].cells := by
  obtain ⟨h1, h2, h3, h4, h5, h6⟩ := h
  obtain ⟨b, off, hD, ha, hr⟩ := h6 hp
  refine ⟨b, off, hD, range_lt hr (by omega), ha, fun i hi j v hv => ?_⟩
  have hj : j < 2 := (List.getElem?_eq_some_iff.1 hv).1
  rw [Nat.add_assoc]
  exact hr (i * 2 + j) v (by rw [pcells_get ps i j hi hj]; exact hv)
def loadPairA (v : Value) : Sem Next := do pure (.value (← Instr.loadAt 65 v))
theorem exec_loadPair (ρ : Operand → Value) (d : Option Tmp) (x : Operand) (ty : TypeId) (pos : String) (af : Array Edge) (gd : Option (Nat × Bool)) :
    execOp ρ { dst := d, op := .load 65 x, type := ty, pos := pos, after := af, guard := gd } = loadPairA (ρ x) := rfl
theorem exec_at_zeroP {ρ : Operand → Value} {o : Oper} {l : List Oper} {h : 0 < (o :: l).toArray.size} : execOp ρ ((o :: l).toArray[0]'h) = execOp ρ o := rfl
theorem exec_at_succP {ρ : Operand → Value} {o : Oper} {l : List Oper} {n : Nat} {h : n + 1 < (o :: l).toArray.size} : execOp ρ ((o :: l).toArray[n + 1]'h) = execOp ρ (l.toArray[n]'(by simpa using h)) := rfl
theorem run_loadPair {w : World} {b o : Nat} {p : KV} (h : w.rangeAt b o p.cells) : (loadPairA (.pointer (some ⟨b, o, none⟩))).run Try.prog w = .ok (.value (.agg #[.string p.k, .string p.v])) w := by
  unfold loadPairA
  simp only [Sem.run_bind, Sem.run_pure, Result.andThen_ok, run_loadAt_mid w b o 65 p.cells _ h Try.underlying65 rfl (by show _ = some 2; kernel_rfl)]
  rfl
/-- keys grow -/
def Sorted (ps : List KV) : Prop := ps.Pairwise fun a b => cmpK a.k b.k < 0
theorem Sorted.lt {ps : List KV} (h : Sorted ps) {i j : Nat} (hij : i < j) (hj : j < ps.length) : cmpK (ps[i]'(by omega)).k ps[j].k < 0 := List.pairwise_iff_getElem.1 h i j (by omega) hj hij
attribute [local go_sem ↓] exec_loadPair exec_at_zeroP exec_at_succP Go.wp_at_zero Go.wp_at_succ
/-- where a key belongs -/
def Place (ps : List KV) (key : ByteArray) (i : Nat) : Prop := i ≤ ps.length ∧ (∀ t (h : t < ps.length), t < i → cmpK ps[t].k key < 0) ∧ (∀ t (h : t < ps.length), i ≤ t → 0 ≤ cmpK ps[t].k key)
def FN : Value := .func (.func 79) #[] #[]
set_option maxRecDepth 100000 in
set_option maxHeartbeats 1000000 in
theorem search_any (D : Nat → Prop) (a : Option Addr) (n c : Nat) (ps : List KV) (key : ByteArray) (w : World) (hP : Ps D w a n c ps) (hs : Sorted ps) (hn : n ≤ 1000000) :
    Calls Try.prog 78 #[.slice a n c, .string key, FN] w fun e w' => ∃ i : Nat, e = .returned (.tuple #[.int .i64 (i : Int), .bool (decide (∃ h : i < ps.length, ps[i].k = key))]) ∧ Place ps key i ∧ Below w.heap.size w w' := by
  have HP := Lib.hid hP
  have HL := Lib.hid hP.1
  have HS := Lib.hid hs
  have hc1 := hP.2.2.1
  have hc2 : c ≤ 9223372036854775807 := hP.2.2.2.1
  clear hP hs
  unfold FN
  go_enter Try.func78, Try.ntmps78
  go_wp2_with fail
  go_loopw [9, 10, 11] (fun u v x wr => ∃ (i j : Nat), u = .int .i64 (i : Int) ∧ v = .int .i64 (j : Int) ∧ i ≤ j ∧ j ≤ n ∧ (∀ t (h : t < ps.length), t < i → cmpK ps[t].k key < 0) ∧ (∀ t (h : t < ps.length), j ≤ t → 0 ≤ cmpK ps[t].k key) ∧ Below w.heap.size w wr) (fun u v _ _ => (intOf v).toNat - (intOf u).toNat)
  case atStart => exact ⟨0, n, rfl, rfl, Nat.zero_le _, Nat.le_refl _, fun t h h2 => absurd h2 (by omega), fun t h h2 => absurd h2 (by have := HL.out; omega), Below.refl _ _⟩
  case round =>
    obtain ⟨i, j, rfl, rfl, hij, hjn, h1, h2, hb⟩ := hrel
    have H1 := Lib.hid h1
    have H2 := Lib.hid h2
    have HB := Lib.hid hb
    clear h1 h2 hb
    by_cases hlt : i < j
    · have hlt2 : (i : Int) < (j : Int) := by omega
      have hwr : IntKind.i64.wrap ((i : Int) + (j : Int)) = ((i + j : Nat) : Int) := by rw [IntKind.wrap_i64]; omega
      obtain ⟨h, hh⟩ : ∃ h, h = (i + j) / 2 := ⟨_, rfl⟩
      have hh1 : ((i : Int) + (j : Int)) / 2 = (h : Int) := by omega
      have hhj : h < j := by omega
      have hhi : i ≤ h := by omega
      have hhn : (h : Int) < (n : Int) := by omega
      have hhl : h < ps.length := by rw [HL.out]; omega
      have hwh : IntKind.i64.wrap ((h : Int) + 1) = (h : Int) + 1 := i64_id _ (by omega) (by omega)
      obtain ⟨b, off, -, hbs, rfl, hcell⟩ := (HP.out.below HB.out).at (by omega)
      have hr := hcell h hhl
      obtain ⟨kv, hkv⟩ : ∃ kv, kv = ps[h]'hhl := ⟨_, rfl⟩
      rw [← hkv] at hr
      obtain ⟨ob, hob⟩ : ∃ ob, ob = off + h * 2 := ⟨_, rfl⟩
      rw [← hob] at hr
      have hob2 : off + h * 2 = ob := hob.symm
      have ld0 := run_loadPair hr
      have HKV := Lib.hid hkv
      have HHL := Lib.hid hhl
      have HHH := Lib.hid hh
      clear hcell hr hkv hob hh
      obtain ⟨X, hX⟩ : ∃ X, X = cmpK kv.k key := ⟨_, rfl⟩
      have HX := Lib.hid hX
      have HCF : Hid (∀ u, Calls Try.prog 79 #[.agg #[.string kv.k, .string kv.v], .string key] u fun e w' => e = .returned (.int .i64 X) ∧ Below u.heap.size u w') := Lib.hid (fun u => by rw [hX]; exact findFn_any _ _ _ u)
      clear hX
      by_cases hX0 : X < 0
      · go_wp2_with (go_at_call 79; refine (HCF.out _).mono ?_; rintro e w2 ⟨rfl, hb2⟩; have HB2 := Lib.hid (HB.out.trans (hb2.mono HB.out.size)); clear hb2)
        go_roundw
        case rel => exact ⟨h + 1, j, by go_num, rfl, by omega, hjn, fun t ht h3 => by
          have h5 := HHL.out
          have h6 : cmpK ps[h].k key < 0 := by rw [← HKV.out, ← HX.out]; exact hX0
          by_cases e : t = h
          · subst e; exact h6
          · exact cmpK_trans (HS.out.lt (i := t) (j := h) (by omega) h5) h6, H2.out, HB2.out⟩
        case measure => simp [intOf]; omega
      · go_wp2_with (go_at_call 79; refine (HCF.out _).mono ?_; rintro e w2 ⟨rfl, hb2⟩; have HB2 := Lib.hid (HB.out.trans (hb2.mono HB.out.size)); clear hb2)
        go_roundw
        case rel => exact ⟨i, h, rfl, rfl, by omega, by omega, H1.out, fun t ht h3 => by
          have h5 := HHL.out
          have h6 : 0 ≤ cmpK ps[h].k key := by rw [← HKV.out, ← HX.out]; omega
          by_cases e : t = h
          · subst e; exact h6
          · rcases Int.lt_or_le (cmpK ps[t].k key) 0 with h7 | h7
            · have := cmpK_trans (HS.out.lt (i := h) (j := t) (by omega) ht) h7; omega
            · exact h7, HB2.out⟩
        case measure => simp [intOf]; omega
    · obtain rfl : i = j := by omega
      by_cases hin : i < n
      · have hin2 : (i : Int) < (n : Int) := by omega
        have hil : i < ps.length := by rw [HL.out]; exact hin
        obtain ⟨b, off, -, hbs, rfl, hcell⟩ := (HP.out.below HB.out).at (by omega)
        have hr := hcell i hil
        obtain ⟨kv, hkv⟩ : ∃ kv, kv = ps[i]'hil := ⟨_, rfl⟩
        rw [← hkv] at hr
        obtain ⟨ob, hob⟩ : ∃ ob, ob = off + i * 2 := ⟨_, rfl⟩
        rw [← hob] at hr
        have hob2 : off + i * 2 = ob := hob.symm
        have ld0 := run_loadPair hr
        have HKV := Lib.hid hkv
        have HHL := Lib.hid hil
        clear hcell hr hkv hob
        obtain ⟨X, hX⟩ : ∃ X, X = cmpK kv.k key := ⟨_, rfl⟩
        have HX := Lib.hid hX
        have HCF : Hid (∀ u, Calls Try.prog 79 #[.agg #[.string kv.k, .string kv.v], .string key] u fun e w' => e = .returned (.int .i64 X) ∧ Below u.heap.size u w') := Lib.hid (fun u => by rw [hX]; exact findFn_any _ _ _ u)
        clear hX
        have hfd : ∀ B : Bool, (B = true ↔ X = 0) → B = decide (∃ h : i < ps.length, ps[i].k = key) := fun B hB => by
          have h5 := HHL.out
          have e1 : (∃ h : i < ps.length, ps[i].k = key) ↔ X = 0 := ⟨fun ⟨_, e⟩ => by rw [HX.out, HKV.out]; exact (cmpK_eq _ _).2 e, fun e => ⟨h5, by rw [HX.out, HKV.out] at e; exact (cmpK_eq _ _).1 e⟩⟩
          rw [Bool.eq_iff_iff, hB, decide_eq_true_iff, e1]
        have HFD := Lib.hid hfd
        clear hfd
        by_cases hX0 : X = 0
        · have HX0 := Lib.hid hX0
          have hx1 : (X == 0) = true := by rw [hX0]; rfl
          clear hX0
          go_wp2_with (go_at_call 79; refine (HCF.out _).mono ?_; rintro e w2 ⟨rfl, hb2⟩; have HB2 := Lib.hid (HB.out.trans (hb2.mono HB.out.size)); clear hb2)
          go_ret2
          exact ⟨i, congrArg (fun B => Ending.returned (.tuple #[.int .i64 (i : Int), .bool B])) (HFD.out true (by simp [HX0.out])), ⟨by have := HL.out; omega, H1.out, H2.out⟩, HB2.out⟩
        · have HX0 := Lib.hid hX0
          have hx1 : (X == 0) = false := by simpa using hX0
          clear hX0
          go_wp2_with (go_at_call 79; refine (HCF.out _).mono ?_; rintro e w2 ⟨rfl, hb2⟩; have HB2 := Lib.hid (HB.out.trans (hb2.mono HB.out.size)); clear hb2)
          go_ret2
          exact ⟨i, congrArg (fun B => Ending.returned (.tuple #[.int .i64 (i : Int), .bool B])) (HFD.out false (by simp [HX0.out])), ⟨by have := HL.out; omega, H1.out, H2.out⟩, HB2.out⟩
      · have hin2 : (n : Int) ≤ (i : Int) := by omega
        have hfd : decide (∃ h : i < ps.length, ps[i].k = key) = false := decide_eq_false (fun ⟨h, _⟩ => by have := HL.out; omega)
        have HFD := Lib.hid hfd
        clear hfd
        go_wp2_with fail
        go_ret2
        exact ⟨i, congrArg (fun B => Ending.returned (.tuple #[.int .i64 (i : Int), .bool B])) HFD.out.symm, ⟨by have := HL.out; omega, H1.out, H2.out⟩, HB.out⟩
end Go.Proofs.Ytfgmhidgkemfoaa
namespace Go.Proofs.Ytfgmhidgkemfoaa
open Go.RowKit
set_option linter.unusedSimpArgs false
set_option linter.unusedVariables false
/-- a tree of nodes, each with the block in which it lies -/
inductive BT where
  | mk (g : Nat) (ps : List KV) (ks : List BT)
def BT.g : BT → Nat
  | .mk g _ _ => g
def BT.ps : BT → List KV
  | .mk _ ps _ => ps
def BT.ks : BT → List BT
  | .mk _ _ ks => ks
theorem BT.eta (t : BT) : t = .mk t.g t.ps t.ks := by cases t; rfl
/-- pointers to nodes -/
def pnts (gs : List Nat) : List Value := gs.map fun g => .pointer (some ⟨g, 0, none⟩)
theorem pnts_len (gs : List Nat) : (pnts gs).length = gs.length := by simp [pnts]
def Ks (D : Nat → Prop) (w : World) (a : Option Addr) (n c : Nat) (gs : List Nat) : Prop := gs.length = n ∧ Sl D w a n c (pnts gs) 1
theorem Ks.kept {D S : Nat → Prop} {w w' : World} {a : Option Addr} {n c : Nat} {gs : List Nat} (h : Ks D w a n c gs) (hk : Kept S w w') (hd : ∀ b, b < w.heap.size → D b → ¬ S b) : Ks D w' a n c gs := ⟨h.1, h.2.kept (by decide) hk hd⟩
theorem Ks.below {D : Nat → Prop} {w w' : World} {a : Option Addr} {n c : Nat} {gs : List Nat} (h : Ks D w a n c gs) (hb : Below w.heap.size w w') : Ks D w' a n c gs := h.kept (Kept.of_below (fun _ => False) hb) (fun _ _ _ h => h)
theorem Ks.cells {D : Nat → Prop} {w : World} {a : Option Addr} {n c : Nat} {gs : List Nat} (h : Ks D w a n c gs) (hn : 0 < n) : ∃ b off, D b ∧ b < w.heap.size ∧ a = some ⟨b, off, none⟩ ∧ ∀ i (hi : i < gs.length), w.cell? ⟨b, off + i, none⟩ = some (.pointer (some ⟨gs[i], 0, none⟩)) := by
  obtain ⟨h1, h2, h3, h4, h5, h6⟩ := h
  obtain ⟨b, off, hD, ha, hr⟩ := h6 hn
  exact ⟨b, off, hD, range_lt hr (by rw [pnts_len]; omega), ha, fun i hi => hr i _ (by simp [pnts, hi])⟩
theorem Ks.dom {D D' : Nat → Prop} {w : World} {a : Option Addr} {n c : Nat} {gs : List Nat} (h : Ks D w a n c gs) (hd : ∀ b, D b → D' b) : Ks D' w a n c gs := ⟨h.1, h.2.dom hd⟩
theorem Ps.dom {D D' : Nat → Prop} {w : World} {a : Option Addr} {n c : Nat} {ps : List KV} (h : Ps D w a n c ps) (hd : ∀ b, D b → D' b) : Ps D' w a n c ps := ⟨h.1, h.2.dom hd⟩
/-- a tree lies in blocks of D -/
inductive NdD (D : Nat → Prop) (w : World) : BT → Prop
  | mk {g : Nat} {a b : Option Addr} {n c m e : Nat} {ps : List KV} {ks : List BT} (h0 : D g) (h1 : w.heap[g]? = some (.cells #[.slice a n c, .slice b m e] 94 (0, 0))) (h2 : Ps D w a n c ps) (h3 : Ks D w b m e (ks.map BT.g)) (h5 : ∀ k, k ∈ ks → NdD D w k) : NdD D w (.mk g ps ks)
theorem NdD.kept {D S : Nat → Prop} {w w' : World} (hk : Kept S w w') (hd : ∀ b, b < w.heap.size → D b → ¬ S b) {t : BT} (h : NdD D w t) : NdD D w' t := by
  induction h with
  | mk h0 h1 h2 h3 h5 ih => exact .mk h0 (hk.heap h1 (hd _ (Array.getElem?_eq_some_iff.1 h1).1 h0)) (h2.kept hk hd) (h3.kept hk hd) ih
theorem NdD.under {D : Nat → Prop} {w w' : World} (hb : Below w.heap.size w w') {t : BT} (h : NdD D w t) : NdD D w' t := h.kept (Kept.of_below (fun _ => False) hb) (fun _ _ _ h => h)
theorem NdD.dom {D D' : Nat → Prop} {w : World} (hd : ∀ b, D b → D' b) {t : BT} (h : NdD D w t) : NdD D' w t := by
  induction h with
  | mk h0 h1 h2 h3 h5 ih => exact .mk (hd _ h0) h1 (h2.dom hd) (h3.dom hd) ih
theorem Sl.in {D : Nat → Prop} {w : World} {a : Option Addr} {n c : Nat} {xs : List Value} {size : Nat} (h : Sl D w a n c xs size) (hz : 0 < size) : Sl (fun b => D b ∧ b < w.heap.size) w a n c xs size := by
  obtain ⟨h1, h2, h3, h4, h5⟩ := h
  refine ⟨h1, h2, h3, h4, fun hn => ?_⟩
  obtain ⟨b, off, hD, ha, hr⟩ := h5 hn
  exact ⟨b, off, ⟨hD, range_lt hr (by rw [h1]; exact Nat.mul_pos hn hz)⟩, ha, hr⟩
theorem NdD.in {D : Nat → Prop} {w : World} {t : BT} (h : NdD D w t) : NdD (fun b => D b ∧ b < w.heap.size) w t := by
  induction h with
  | mk h0 h1 h2 h3 h5 ih => exact .mk ⟨h0, (Array.getElem?_eq_some_iff.1 h1).1⟩ h1 ⟨h2.1, h2.2.in (by decide)⟩ ⟨h3.1, h3.2.in (by decide)⟩ ih
theorem NdD.facts {D : Nat → Prop} {w : World} {t : BT} (h : NdD D w t) : ∃ a n c b m e, D t.g ∧ w.heap[t.g]? = some (.cells #[.slice a n c, .slice b m e] 94 (0, 0)) ∧ w.cell? ⟨t.g, 0, none⟩ = some (.slice a n c) ∧ w.cell? ⟨t.g, 1, none⟩ = some (.slice b m e) ∧ Ps D w a n c t.ps ∧ Ks D w b m e (t.ks.map BT.g) ∧ ∀ k, k ∈ t.ks → NdD D w k := by
  cases h with
  | mk h0 h1 h2 h3 h5 => exact ⟨_, _, _, _, _, _, h0, h1, cell_of_row w _ 0 _ _ _ h1, cell_of_row w _ 1 _ _ _ h1, h2, h3, h5⟩
/-- what lies in the block g is the tree t -/
def Nd (w : World) (g : Nat) (t : BT) : Prop := t.g = g ∧ NdD (fun _ => True) w t
theorem NdD.nd {D : Nat → Prop} {w : World} {t : BT} (h : NdD D w t) : Nd w t.g t := ⟨rfl, h.dom (fun _ _ => trivial)⟩
theorem Nd.under {w w' : World} (hb : Below w.heap.size w w') {g : Nat} {t : BT} (h : Nd w g t) : Nd w' g t := ⟨h.1, h.2.under hb⟩
theorem Nd.lt {w : World} {g : Nat} {t : BT} (h : Nd w g t) : g < w.heap.size := by
  obtain ⟨rfl, h⟩ := h
  obtain ⟨_, _, _, _, _, _, -, h1, -⟩ := h.facts
  exact (Array.getElem?_eq_some_iff.1 h1).1
theorem Nd.facts {w : World} {g : Nat} {t : BT} (h : Nd w g t) : ∃ a n c b m e gs, w.heap[g]? = some (.cells #[.slice a n c, .slice b m e] 94 (0, 0)) ∧ w.cell? ⟨g, 0, none⟩ = some (.slice a n c) ∧ w.cell? ⟨g, 1, none⟩ = some (.slice b m e) ∧ Ps (fun _ => True) w a n c t.ps ∧ Ks (fun _ => True) w b m e gs ∧ gs.length = t.ks.length ∧ ∀ i (hi : i < gs.length) (hk : i < t.ks.length), Nd w gs[i] t.ks[i] := by
  obtain ⟨rfl, h⟩ := h
  obtain ⟨a, n, c, b, m, e, -, h1, h2, h3, h4, h5, h6⟩ := h.facts
  exact ⟨a, n, c, b, m, e, t.ks.map BT.g, h1, h2, h3, h4, h5, by simp, fun i hi hk => ⟨by simp, h6 _ (List.getElem_mem hk)⟩⟩
set_option maxRecDepth 100000 in
theorem find_any {w : World} {g : Nat} {t : BT} (h : Nd w g t) (key : ByteArray) (hs : Sorted t.ps) (hn : t.ps.length ≤ 1000000) :
    Calls Try.prog 59 #[.pointer (some ⟨g, 0, none⟩), .string key] w fun e w' => ∃ i : Nat, e = .returned (.tuple #[.int .i64 (i : Int), .bool (decide (∃ h : i < t.ps.length, t.ps[i].k = key))]) ∧ Place t.ps key i ∧ Below w.heap.size w w' := by
  obtain ⟨a, n, c, b, m, e, gs, -, c0, -, hp, -, -, -⟩ := h.facts
  have HC := Lib.hid (search_any _ a n c t.ps key w hp hs (by have := hp.1; omega))
  clear hp h hs
  unfold FN at HC
  go_enter Try.func59, Try.ntmps59
  go_wp2_with (go_at_call 78; refine HC.out.mono ?_; rintro e w2 ⟨i, rfl, hpl, hb⟩; have HPL := Lib.hid hpl; have HB := Lib.hid hb; clear hpl hb)
  go_ret2
  exact ⟨i, rfl, HPL.out, HB.out⟩
set_option maxRecDepth 100000 in
theorem leaf_any {w : World} {g : Nat} {t : BT} (h : Nd w g t) :
    Calls Try.prog 69 #[.pointer (some ⟨g, 0, none⟩)] w fun e w' => e = .returned (.bool (decide (t.ks.length = 0))) ∧ w = w' := by
  obtain ⟨a, n, c, b, m, e, gs, -, -, c1, -, hk, hl, -⟩ := h.facts
  have hm : m = t.ks.length := by rw [← hl]; exact hk.1.symm
  rw [← hm]
  clear hk hl h hm
  go_enter Try.func69, Try.ntmps69
  go_wp2_with fail
  go_ret
  refine ⟨congrArg (fun B => Ending.returned (Value.bool B)) (?_ : ((m : Int) == 0) = decide (m = 0)), rfl⟩
  rw [Bool.eq_iff_iff]
  simp
set_option maxRecDepth 100000 in
theorem kid_leaf {w : World} {g : Nat} {t : BT} (h : Nd w g t) (hk : t.ks.length = 0) (i : Int) :
    Calls Try.prog 49 #[.pointer (some ⟨g, 0, none⟩), .int .i64 i] w fun e w' => e = .returned (.pointer none) ∧ w = w' := by
  have HC := leaf_any h
  rw [decide_eq_true hk] at HC
  have HC := Lib.hid HC
  clear h hk
  go_enter Try.func49, Try.ntmps49
  go_wp2_with (go_at_call 69; refine HC.out.mono ?_; rintro e w2 ⟨rfl, rfl⟩)
  go_ret
  exact ⟨rfl, rfl⟩
set_option maxRecDepth 100000 in
theorem kid_any {w : World} {g : Nat} {t : BT} (h : Nd w g t) (i : Nat) (hi : i < t.ks.length) :
    Calls Try.prog 49 #[.pointer (some ⟨g, 0, none⟩), .int .i64 (i : Int)] w fun e w' => ∃ gk, e = .returned (.pointer (some ⟨gk, 0, none⟩)) ∧ Nd w gk t.ks[i] ∧ w = w' := by
  have HC := leaf_any h
  rw [decide_eq_false (by omega)] at HC
  have HC := Lib.hid HC
  obtain ⟨a, n, c, b, m, e, gs, -, -, c1, -, hk, hl, hn⟩ := h.facts
  have hig : i < gs.length := by rw [hl]; exact hi
  have hm := hk.1
  have hle : m ≤ e := hk.2.2.1
  have hle2 : e ≤ 9223372036854775807 := hk.2.2.2.1
  obtain ⟨bb, off, -, hbb, rfl, hcell⟩ := hk.cells (by omega)
  have ci := hcell i hig
  have HN := Lib.hid (hn i hig hi)
  obtain ⟨gk, hgk⟩ : ∃ gk, gk = gs[i]'hig := ⟨_, rfl⟩
  rw [← hgk] at ci HN
  have him : (i : Int) < (m : Int) := by omega
  clear h hk hl hn hcell hgk hm
  go_enter Try.func49, Try.ntmps49
  go_wp2_with (go_at_call 69; refine HC.out.mono ?_; rintro e w2 ⟨rfl, rfl⟩)
  go_ret
  exact ⟨gk, rfl, HN.out, rfl⟩
set_option maxRecDepth 100000 in
/-- as kid_any, in a later world: the child lies where it lay -/
theorem kid_under {w u : World} {g : Nat} {t : BT} (h : Nd w g t) (hb : Below w.heap.size w u) (i : Nat) (hi : i < t.ks.length) :
    Calls Try.prog 49 #[.pointer (some ⟨g, 0, none⟩), .int .i64 (i : Int)] u fun e w' => ∃ gk, e = .returned (.pointer (some ⟨gk, 0, none⟩)) ∧ Nd w gk t.ks[i] ∧ u = w' := by
  have HC := leaf_any (h.under hb)
  rw [decide_eq_false (by omega)] at HC
  have HC := Lib.hid HC
  have hgl := h.lt
  obtain ⟨a, n, c, b, m, e, gs, -, -, c1, -, hk, hl, hn⟩ := h.facts
  have hig : i < gs.length := by rw [hl]; exact hi
  have hm := hk.1
  have hle : m ≤ e := hk.2.2.1
  have hle2 : e ≤ 9223372036854775807 := hk.2.2.2.1
  obtain ⟨bb, off, -, hbb, rfl, hcell⟩ := hk.cells (by omega)
  have ci := (hb.cell (p := ⟨bb, off + i, none⟩) hbb).trans (hcell i hig)
  have c1 := (hb.cell (p := ⟨g, 1, none⟩) hgl).trans c1
  have HN := Lib.hid (hn i hig hi)
  obtain ⟨gk, hgk⟩ : ∃ gk, gk = gs[i]'hig := ⟨_, rfl⟩
  rw [← hgk] at ci HN
  have him : (i : Int) < (m : Int) := by omega
  clear h hk hl hn hcell hgk hm
  go_enter Try.func49, Try.ntmps49
  go_wp2_with (go_at_call 69; refine HC.out.mono ?_; rintro e w2 ⟨rfl, rfl⟩)
  go_ret
  exact ⟨gk, rfl, HN.out, rfl⟩
end Go.Proofs.Ytfgmhidgkemfoaa
namespace Go.Proofs.Ytfgmhidgkemfoaa
set_option linter.unusedSimpArgs false
set_option linter.unusedVariables false
mutual
/-- the pairs of a tree, in order -/
def BT.toL : BT → List KV
  | .mk _ ps ks => toLs ps ks
def toLs : List KV → List BT → List KV
  | ps, [] => ps
  | [], k :: ks => k.toL ++ toLs [] ks
  | p :: ps, k :: ks => k.toL ++ p :: toLs ps ks
end
theorem toL_mk (g : Nat) (ps : List KV) (ks : List BT) : (BT.mk g ps ks).toL = toLs ps ks := by rw [BT.toL]
theorem toL_eq (t : BT) : t.toL = toLs t.ps t.ks := by cases t; rw [BT.toL]; rfl
theorem toLs_leaf (ps : List KV) : toLs ps [] = ps := by unfold toLs; rfl
/-- what stands before the child i, and behind it -/
def preL : List KV → List BT → Nat → List KV
  | p :: ps, k :: ks, i + 1 => k.toL ++ p :: preL ps ks i
  | _, _, _ => []
def sufL : List KV → List BT → List KV
  | p :: ps, k :: ks => p :: (k.toL ++ sufL ps ks)
  | _, _ => []
theorem toLs_one (ps : List KV) (k : BT) (ks : List BT) (h : ks.length = ps.length) : toLs ps (k :: ks) = k.toL ++ sufL ps ks := by
  induction ks generalizing ps k with
  | nil =>
    have : ps = [] := List.eq_nil_of_length_eq_zero (by simpa using h.symm)
    subst this
    rw [toLs, toLs_leaf]
    rfl
  | cons k2 ks ih =>
    cases ps with
    | nil => simp at h
    | cons p ps =>
      rw [toLs, ih ps k2 (by simpa using h)]
      rfl
theorem toLs_split : ∀ (ps : List KV) (ks : List BT) (i : Nat) (hi : i < ks.length), ks.length = ps.length + 1 → toLs ps ks = preL ps ks i ++ (ks[i].toL ++ sufL (ps.drop i) (ks.drop (i + 1)))
  | ps, k :: ks, 0, _, h => by
    rw [toLs_one ps k ks (by simpa using h)]
    cases ps <;> simp [preL]
  | [], k :: ks, i + 1, hi, h => by exfalso; simp only [List.length_cons, List.length_nil] at h hi; omega
  | p :: ps, k :: ks, i + 1, hi, h => by
    have hi2 : i < ks.length := by simpa using hi
    rw [toLs, toLs_split ps ks i hi2 (by simpa using h)]
    simp [preL]
  | _, [], i, hi, _ => absurd hi (by simp)
/-- a node of a tree of height h: at most 8 pairs, children of one height, at least 3 pairs in each -/
def BT.Wf : Nat → BT → Prop
  | 0, _ => False
  | h + 1, t => t.ps.length ≤ 8 ∧ ((h = 0 ∧ t.ks = []) ∨ (h ≠ 0 ∧ t.ks.length = t.ps.length + 1 ∧ ∀ k ∈ t.ks, k.Wf h ∧ 3 ≤ k.ps.length))
theorem sorted_app {a b : List KV} : Sorted (a ++ b) ↔ Sorted a ∧ Sorted b ∧ ∀ x ∈ a, ∀ y ∈ b, cmpK x.k y.k < 0 := List.pairwise_append
theorem sorted_cons {x : KV} {b : List KV} : Sorted (x :: b) ↔ (∀ y ∈ b, cmpK x.k y.k < 0) ∧ Sorted b := List.pairwise_cons
theorem mem_pre : ∀ (ps : List KV) (ks : List BT) (i t : Nat) (ht : t < ps.length), t < i → i < ks.length → ps[t] ∈ preL ps ks i
  | p :: ps, k :: ks, i + 1, 0, _, _, _ => by simp [preL]
  | p :: ps, k :: ks, i + 1, t + 1, ht, hti, hi => by
    have := mem_pre ps ks i t (by simpa using ht) (by omega) (by simpa using hi)
    simp [preL, this]
  | p :: ps, [], i, t, _, _, hi => absurd hi (by simp)
  | [], _, _, t, ht, _, _ => absurd ht (by simp)
  | p :: ps, k :: ks, 0, t, _, h, _ => absurd h (by omega)
/-- the pairs of a node are among those of the tree, in order -/
theorem ps_sub : ∀ (ps : List KV) (ks : List BT), ks.length = ps.length + 1 → ps.Sublist (toLs ps ks)
  | [], _, _ => List.nil_sublist _
  | p :: ps, k :: ks, h => by
    rw [toLs]
    exact List.Sublist.trans ((ps_sub ps ks (by simpa using h)).cons_cons p) (List.sublist_append_right _ _)
  | p :: ps, [], h => by simp at h
theorem Sorted.ps {t : BT} {h : Nat} (hw : t.Wf h) (hs : Sorted t.toL) : Sorted t.ps := by
  cases h with
  | zero => exact hw.elim
  | succ h =>
    rw [toL_eq] at hs
    rcases hw.2 with ⟨-, e⟩ | ⟨-, e, -⟩
    · rw [e, toLs_leaf] at hs; exact hs
    · exact hs.sublist (ps_sub _ _ e)
end Go.Proofs.Ytfgmhidgkemfoaa
namespace Go.Proofs.Ytfgmhidgkemfoaa
open Go.RowKit
set_option linter.unusedSimpArgs false
set_option linter.unusedVariables false
/-- the last pair whose key is at most a key -/
def floorL (l : List KV) (key : ByteArray) : Option KV := (l.filter fun p => decide (cmpK p.k key ≤ 0)).getLast?
theorem floorL_app (a b : List KV) (key : ByteArray) : floorL (a ++ b) key = (floorL b key).or (floorL a key) := by
  unfold floorL
  rw [List.filter_append, List.getLast?_append]
theorem floorL_none (b : List KV) (key : ByteArray) (h : ∀ p ∈ b, 0 < cmpK p.k key) : floorL b key = none := by
  unfold floorL
  have : b.filter (fun p => decide (cmpK p.k key ≤ 0)) = [] := by
    rw [List.filter_eq_nil_iff]
    intro p hp
    have := h p hp
    simp
    omega
  rw [this]
  rfl
theorem floorL_all (a : List KV) (key : ByteArray) (h : ∀ p ∈ a, cmpK p.k key ≤ 0) : floorL a key = a.getLast? := by
  unfold floorL
  have : a.filter (fun p => decide (cmpK p.k key ≤ 0)) = a := by
    rw [List.filter_eq_self]
    intro p hp
    simpa using h p hp
  rw [this]
theorem cmpK_le {a b c : ByteArray} (h : cmpK a b < 0) (h2 : cmpK b c ≤ 0) : cmpK a c < 0 := by
  by_cases e : cmpK b c = 0
  · rw [(cmpK_eq b c).1 e] at h; exact h
  · exact cmpK_trans h (by omega)
theorem cmpK_ge {a b c : ByteArray} (h : 0 ≤ cmpK a c) (h2 : cmpK a b < 0) : 0 < cmpK b c := by
  have h3 := cmpK_flip b c
  have h4 := cmpK_flip a c
  have h5 := cmpK_flip a b
  by_cases e : 0 < cmpK b c
  · exact e
  · have := cmpK_le (a := a) h2 (by omega : cmpK b c ≤ 0)
    omega
/-- a leaf -/
theorem floor_leaf {ps : List KV} {key : ByteArray} {i : Nat} (hs : Sorted ps) (hp : Place ps key i) (hf : ¬ ∃ h : i < ps.length, ps[i].k = key) : floorL ps key = if i = 0 then none else ps[i - 1]? := by
  obtain ⟨hi, h1, h2⟩ := hp
  have e : ps = ps.take i ++ ps.drop i := (List.take_append_drop i ps).symm
  have hd : ∀ p ∈ ps.drop i, 0 < cmpK p.k key := by
    intro p hp
    obtain ⟨t, ht, rfl⟩ := List.mem_iff_getElem.1 hp
    rw [List.length_drop] at ht
    rw [List.getElem_drop]
    have h3 := h2 (i + t) (by omega) (by omega)
    by_cases h4 : cmpK ps[i + t].k key = 0
    · exfalso
      have h5 := (cmpK_eq _ _).1 h4
      by_cases h6 : t = 0
      · subst h6; exact hf ⟨by omega, h5⟩
      · have h7 := hs.lt (i := i) (j := i + t) (by omega) (by omega)
        rw [h5] at h7
        have h8 := h2 i (by omega) (Nat.le_refl _)
        omega
    · omega
  have ht : ∀ p ∈ ps.take i, cmpK p.k key ≤ 0 := by
    intro p hp
    obtain ⟨t, ht, rfl⟩ := List.mem_iff_getElem.1 hp
    rw [List.length_take] at ht
    rw [List.getElem_take]
    have := h1 t (by omega) (by omega)
    omega
  rw [e, floorL_app, floorL_none _ _ hd, Option.none_or, floorL_all _ _ ht, List.getLast?_eq_getElem?, List.length_take]
  by_cases h0 : i = 0
  · subst h0; simp
  · rw [if_neg h0, show min i ps.length - 1 = i - 1 by omega, List.take_append_drop, List.getElem?_take, if_pos (by omega)]
/-- what a place in a tree's block says of a root -/
def RootAt (w : World) (v : Value) : Option BT → Prop
  | none => v = .pointer none
  | some t => ∃ g, v = .pointer (some ⟨g, 0, none⟩) ∧ Nd w g t
def treeL : Option BT → List KV
  | none => []
  | some t => t.toL
/-- a Tree -/
def Tr (w : World) (g : Nat) (t : Option BT) : Prop := ∃ v, w.heap[g]? = some (.cells #[v, .int .i64 ((treeL t).length : Int)] 87 (0, 0)) ∧ RootAt w v t
theorem RootAt.under {w w' : World} (hb : Below w.heap.size w w') {v : Value} {t : Option BT} (h : RootAt w v t) : RootAt w' v t := by
  cases t with
  | none => exact h
  | some t => obtain ⟨g, h1, h2⟩ := h; exact ⟨g, h1, h2.under hb⟩
theorem Tr.under {w w' : World} (hb : Below w.heap.size w w') {g : Nat} {t : Option BT} (h : Tr w g t) : Tr w' g t := by
  obtain ⟨v, h1, h2⟩ := h
  exact ⟨v, (hb.block _ (Array.getElem?_eq_some_iff.1 h1).1).trans h1, h2.under hb⟩
theorem Tr.facts {w : World} {g : Nat} {t : Option BT} (h : Tr w g t) : ∃ v, w.cell? ⟨g, 0, none⟩ = some v ∧ w.cell? ⟨g, 1, none⟩ = some (.int .i64 ((treeL t).length : Int)) ∧ RootAt w v t := by
  obtain ⟨v, h1, h2⟩ := h
  exact ⟨v, cell_of_row w g 0 _ _ _ h1, cell_of_row w g 1 _ _ _ h1, h2⟩
/-- a tree that keeps the rules: its height -/
def TOk (t : Option BT) (h : Nat) : Prop := match t with
  | none => h = 0
  | some b => b.Wf h ∧ 1 ≤ b.ps.length
set_option maxRecDepth 100000 in
theorem len_any {w : World} {g : Nat} {t : Option BT} (h : Tr w g t) :
    Calls Try.prog 23 #[.pointer (some ⟨g, 0, none⟩)] w fun e w' => e = .returned (.int .i64 ((treeL t).length : Int)) ∧ w = w' := by
  obtain ⟨v, -, c1, -⟩ := h.facts
  obtain ⟨L, hL⟩ : ∃ L, L = (treeL t).length := ⟨_, rfl⟩
  rw [← hL] at c1 ⊢
  clear hL h
  go_enter Try.func23, Try.ntmps23
  go_wp2_with fail
  go_ret
  exact ⟨rfl, rfl⟩
end Go.Proofs.Ytfgmhidgkemfoaa
namespace Go.Proofs.Ytfgmhidgkemfoaa
set_option linter.unusedSimpArgs false
set_option linter.unusedVariables false
theorem preL_zero (ps : List KV) (ks : List BT) : preL ps ks 0 = [] := by cases ps <;> cases ks <;> rfl
theorem preL_snoc : ∀ (ps : List KV) (ks : List BT) (i : Nat) (hi : i < ps.length), i + 1 < ks.length → ∃ A, preL ps ks (i + 1) = A ++ [ps[i]]
  | p :: ps, k :: ks, 0, _, _ => ⟨k.toL, by rw [preL, preL_zero]; rfl⟩
  | p :: ps, k :: ks, i + 1, hi, hk => by
    obtain ⟨A, hA⟩ := preL_snoc ps ks i (by simpa using hi) (by simpa using hk)
    exact ⟨k.toL ++ p :: A, by rw [preL, hA]; simp⟩
  | [], _, _, hi, _ => absurd hi (by simp)
  | _ :: _, [], _, _, hk => absurd hk (by simp)
theorem sufL_cons (ps : List KV) (ks : List BT) (i : Nat) (hi : i < ps.length) (hk : ks.length = ps.length + 1) : ∃ B, sufL (ps.drop i) (ks.drop (i + 1)) = ps[i] :: B := by
  have e1 : ps.drop i = ps[i] :: ps.drop (i + 1) := List.drop_eq_getElem_cons hi
  have e2 : ks.drop (i + 1) = ks[i + 1]'(by omega) :: ks.drop (i + 2) := List.drop_eq_getElem_cons (by omega)
  rw [e1, e2]
  exact ⟨_, rfl⟩
theorem sufL_nil (ps : List KV) (ks : List BT) (i : Nat) (hi : ps.length ≤ i) : sufL (ps.drop i) (ks.drop (i + 1)) = [] := by
  rw [List.drop_eq_nil_of_le hi]
  rfl
theorem floor_inner {ps : List KV} {ks : List BT} {key : ByteArray} {i : Nat} (hl : ks.length = ps.length + 1) (hs : Sorted (toLs ps ks)) (hp : Place ps key i) (hik : i < ks.length) (hf : ¬ ∃ h : i < ps.length, ps[i].k = key) :
    floorL (toLs ps ks) key = (floorL ks[i].toL key).or (if i = 0 then none else ps[i - 1]?) ∧ Sorted ks[i].toL := by
  obtain ⟨hi, h1, h2⟩ := hp
  have e := toLs_split ps ks i hik hl
  rw [e] at hs ⊢
  obtain ⟨s1, s2, s3⟩ := sorted_app.1 hs
  obtain ⟨s4, s5, s6⟩ := sorted_app.1 s2
  have hd : ∀ p ∈ sufL (ps.drop i) (ks.drop (i + 1)), 0 < cmpK p.k key := by
    intro p hpp
    by_cases hip : i < ps.length
    · obtain ⟨B, hB⟩ := sufL_cons ps ks i hip hl
      rw [hB] at hpp s5
      have h3 := h2 i hip (Nat.le_refl _)
      have h4 : 0 < cmpK ps[i].k key := by
        by_cases h5 : cmpK ps[i].k key = 0
        · exact absurd ⟨hip, (cmpK_eq _ _).1 h5⟩ hf
        · omega
      rcases List.mem_cons.1 hpp with rfl | hpp
      · exact h4
      · exact cmpK_ge (by omega) ((sorted_cons.1 s5).1 p hpp)
    · rw [sufL_nil ps ks i (by omega)] at hpp
      cases hpp
  refine ⟨?_, s4⟩
  rw [floorL_app, floorL_app, floorL_none _ _ hd, Option.none_or]
  congr 1
  by_cases h0 : i = 0
  · subst h0
    rw [preL_zero, if_pos rfl]
    rfl
  · obtain ⟨j, rfl⟩ : ∃ j, i = j + 1 := ⟨i - 1, by omega⟩
    obtain ⟨A, hA⟩ := preL_snoc ps ks j (by omega) hik
    rw [hA] at s1 ⊢
    have h5 := h1 j (by omega) (by omega)
    rw [floorL_all, List.getLast?_append, if_neg h0]
    · rw [show j + 1 - 1 = j by omega, List.getElem?_eq_getElem (by omega)]
      rfl
    · intro p hpp
      rcases List.mem_append.1 hpp with hpp | hpp
      · have := (sorted_app.1 s1).2.2 p hpp ps[j] (by simp)
        have := cmpK_trans this h5
        omega
      · rw [List.mem_singleton.1 hpp]; omega
theorem floor_found {ps : List KV} {ks : List BT} {i : Nat} (hl : ks = [] ∨ ks.length = ps.length + 1) (hs : Sorted (toLs ps ks)) (hi : i < ps.length) : floorL (toLs ps ks) ps[i].k = some ps[i] := by
  have key : ∃ A B, toLs ps ks = A ++ ps[i] :: B := by
    rcases hl with rfl | hl
    · rw [toLs_leaf]
      exact ⟨ps.take i, ps.drop (i + 1), by rw [← List.drop_eq_getElem_cons hi, List.take_append_drop]⟩
    · have e := toLs_split ps ks i (by omega) hl
      obtain ⟨B, hB⟩ := sufL_cons ps ks i hi hl
      rw [hB] at e
      exact ⟨preL ps ks i ++ (ks[i]'(by omega)).toL, B, by rw [e]; simp⟩
  obtain ⟨A, B, e⟩ := key
  rw [e] at hs ⊢
  obtain ⟨s1, s2, s3⟩ := sorted_app.1 hs
  have s4 := (sorted_cons.1 s2).1
  have e2 : A ++ ps[i] :: B = (A ++ [ps[i]]) ++ B := by simp
  rw [e2, floorL_app, floorL_none B, Option.none_or, floorL_all, List.getLast?_append]
  · rfl
  · intro p hp
    rcases List.mem_append.1 hp with hp | hp
    · have := s3 p hp ps[i] (by simp); omega
    · rw [List.mem_singleton.1 hp, (cmpK_eq _ _).2 rfl]; omega
  · intro p hp
    have h1 := s4 p hp
    have h2 := cmpK_flip ps[i].k p.k
    omega
end Go.Proofs.Ytfgmhidgkemfoaa
namespace Go.Proofs.Ytfgmhidgkemfoaa
open Go.RowKit
set_option linter.unusedSimpArgs false
set_option linter.unusedVariables false
/-- a subtree of height k, or none -/
def Sub (s : Option BT) (k : Nat) : Prop := (s = none ∧ k = 0) ∨ ∃ b, s = some b ∧ b.Wf k
theorem TOk.sub {t : Option BT} {h : Nat} (ht : TOk t h) : Sub t h := by
  cases t with
  | none => exact .inl ⟨rfl, ht⟩
  | some b => exact .inr ⟨b, rfl, ht.1⟩
set_option maxRecDepth 100000 in
set_option maxHeartbeats 1000000 in
theorem height_any {w : World} {g : Nat} {t : Option BT} {H : Nat} (h : Tr w g t) (ht : TOk t H) (hH : H ≤ 100000) :
    Calls Try.prog 22 #[.pointer (some ⟨g, 0, none⟩)] w fun e w' => e = .returned (.int .i64 (H : Int)) ∧ Below w.heap.size w w' := by
  obtain ⟨v, c0, -, hr⟩ := h.facts
  have HR := Lib.hid hr
  have HS := Lib.hid ht.sub
  clear h hr ht
  cases t with
  | none =>
    have hv : v = .pointer none := HR.out
    subst hv
    have hH0 : H = 0 := by
      rcases HS.out with ⟨-, e⟩ | ⟨b, e, -⟩
      · exact e
      · cases e
    subst hH0
    clear HR HS
    go_enter Try.func22, Try.ntmps22
    go_wp2_with fail
    go_loopw [3, 4] (fun u v wr => u = .int .i64 0 ∧ v = .pointer none ∧ Below w.heap.size w wr) (fun _ _ _ => 0)
    case atStart => exact ⟨rfl, rfl, Below.refl _ _⟩
    case round =>
      obtain ⟨rfl, rfl, hb⟩ := hrel
      have HB := Lib.hid hb
      clear hb
      go_wp2_with fail
      go_ret
      exact ⟨rfl, HB.out⟩
  | some b0 =>
    obtain ⟨g0, hv, hn⟩ := HR.out
    subst hv
    have HN := Lib.hid hn
    have HW : Hid (b0.Wf H) := Lib.hid (by
      rcases HS.out with ⟨e, -⟩ | ⟨b, e, hw⟩
      · cases e
      · cases e; exact hw)
    clear HR HS hn
    go_enter Try.func22, Try.ntmps22
    go_wp2_with fail
    go_loopw [3, 4] (fun u v wr => ∃ (k : Nat) (s : Option BT) (x : Value), x = v ∧ k ≤ H ∧ u = .int .i64 ((H : Int) - (k : Int)) ∧ RootAt wr x s ∧ Sub s k ∧ Below w.heap.size w wr) (fun u _ _ => H - (intOf u).toNat)
    case atStart => exact ⟨H, some b0, _, rfl, Nat.le_refl _, (by first | (congr 1; done) | (congr 1; omega)), ⟨g0, rfl, HN.out⟩, .inr ⟨b0, rfl, HW.out⟩, Below.refl _ _⟩
    case round =>
      obtain ⟨k, s, x, hx, hk, rfl, hr, hs, hb⟩ := hrel
      subst hx
      have HB := Lib.hid hb
      rcases hs with ⟨rfl, rfl⟩ | ⟨b, rfl, hw⟩
      · have hx : x = .pointer none := hr
        subst hx
        clear hb hr
        go_wp2_with fail
        go_ret
        exact ⟨by first | (congr 2; done) | (congr 2; omega), HB.out⟩
      · obtain ⟨g1, rfl, hn⟩ := hr
        cases k with
        | zero => exact hw.elim
        | succ k =>
          have hwi : IntKind.i64.wrap ((H : Int) - ((k + 1 : Nat) : Int) + 1) = (H : Int) - (k : Int) := by rw [i64_id _ (by omega) (by omega)]; omega
          rcases hw.2 with ⟨e0, e1⟩ | ⟨e0, e1, e2⟩
          · have HK := Lib.hid (kid_leaf hn (by rw [e1]; rfl) 0)
            clear hb hn hw e1
            subst e0
            go_wp2_with (go_at_call 49; refine HK.out.mono ?_; rintro e w2 ⟨rfl, rfl⟩)
            go_roundw
            case rel => exact ⟨0, none, _, rfl, Nat.zero_le _, (by first | (congr 1; done) | (congr 1; omega)), rfl, .inl ⟨rfl, rfl⟩, HB.out⟩
            case measure => simp [intOf]; omega
          · have h0 : 0 < b.ks.length := by omega
            have HK := Lib.hid (kid_any hn 0 h0)
            have HW2 := Lib.hid (e2 _ (List.getElem_mem h0)).1
            clear hb hn hw e1 e2
            go_wp2_with (go_at_call 49; refine HK.out.mono ?_; rintro e w2 ⟨gk, rfl, hnk, rfl⟩; have HNK := Lib.hid hnk; clear hnk)
            go_roundw
            case rel => exact ⟨k, some (b.ks[0]'h0), _, rfl, by omega, (by first | (congr 1; done) | (congr 1; omega)), ⟨gk, rfl, HNK.out⟩, .inr ⟨_, rfl, HW2.out⟩, HB.out⟩
            case measure => simp [intOf]; omega
end Go.Proofs.Ytfgmhidgkemfoaa
namespace Go.Proofs.Ytfgmhidgkemfoaa
open Go.RowKit
set_option linter.unusedSimpArgs false
set_option linter.unusedVariables false
attribute [local go_sem ↓] exec_loadPair exec_at_zeroP exec_at_succP Go.wp_at_zero Go.wp_at_succ
def emptyS : ByteArray := ⟨#[]⟩
/-- the cells of a pair, or of none -/
def fkv : Option KV → KV
  | none => ⟨emptyS, emptyS⟩
  | some p => p
def kcells (p : KV) : Array Value := #[.string p.k, .string p.v]
theorem range_kv {w : World} {g : Nat} {p : KV} {t : TypeId} (h : w.heap[g]? = some (.cells (kcells p) t (0, 0))) : w.rangeAt g 0 p.cells := fun j u hu => by
  rw [Nat.zero_add, cell_of_row w g j _ _ _ h]
  simpa [kcells, KV.cells] using hu
theorem kcells_info : (Try.prog.info? 65).map (·.size) = some 2 := by kernel_rfl
/-- a block that holds a pair -/
def PB (w : World) (g : Nat) : Prop := ∃ p : KV, w.heap[g]? = some (.cells (kcells p) 65 (0, 0))
def storePairA (v x : Value) : Sem Next := do Instr.storeAt 65 v x; pure .skip
theorem exec_storePair (ρ : Operand → Value) (d : Option Tmp) (x y : Operand) (ty : TypeId) (pos : String) (af : Array Edge) (gd : Option (Nat × Bool)) :
    execOp ρ { dst := d, op := .store 65 x y, type := ty, pos := pos, after := af, guard := gd } = storePairA (ρ x) (ρ y) := rfl
theorem run_storePair (w : World) (g : Nat) (k v : ByteArray) (h : PB w g) : (storePairA (.pointer (some ⟨g, 0, none⟩)) (.agg #[.string k, .string v])).run Try.prog w = .ok .skip (w.setRow g #[.string k, .string v]) := by
  obtain ⟨old, hg⟩ := h
  unfold storePairA
  simp only [Instr.storeAt, Instr.sureAddr, Sem.run_bind, Sem.run_pure, Result.andThen_ok, run_storeVar_row w g 65 65 _ #[.string k, .string v] hg kcells_info rfl (by simp [Value.oneCell'])]
theorem results_floor (tmps : Array Value) (w : World) (g : Nat) (x y : Value) (b : Bool) (hp : tmps.getD 4 undef = .pointer (some ⟨g, 0, none⟩)) (hb : tmps.getD 5 undef = .bool b) (hg : w.heap[g]? = some (.cells #[x, y] 65 (0, 0))) :
    (results Try.f35 tmps).run Try.prog w = .ok (.tuple #[.agg #[x, y], .bool b]) w := by
  rw [results_cell_tmp (p := 4) (u := 5) (ty := 65) rfl, hp, hb]
  simp only [asAddr, Sem.run_pure, Result.andThen_ok]
  rw [run_loadVar_row w g 65 65 #[x, y] (0, 0) _ hg Try.underlying65 rfl kcells_info]
  rfl
attribute [local go_sem ↓] exec_storePair
attribute [local go_sem] run_storePair
set_option maxRecDepth 100000 in
set_option maxHeartbeats 2000000 in
theorem floor_any {w : World} {g : Nat} {t : Option BT} {H : Nat} (h : Tr w g t) (ht : TOk t H) (hs : Sorted (treeL t)) (key : ByteArray) :
    Calls Try.prog 35 #[.pointer (some ⟨g, 0, none⟩), .string key] w fun e w' => e = .returned (.tuple #[.agg (kcells (fkv (floorL (treeL t) key))), .bool (floorL (treeL t) key).isSome]) ∧ Below w.heap.size w w' := by
  obtain ⟨v, c0, -, hr⟩ := h.facts
  have hgl : g < w.heap.size := by obtain ⟨_, h1, _⟩ := h; exact (Array.getElem?_eq_some_iff.1 h1).1
  have HR := Lib.hid hr
  have HS := Lib.hid ht.sub
  have HSO := Lib.hid hs
  obtain ⟨F, hF⟩ : ∃ F, F = floorL (treeL t) key := ⟨_, rfl⟩
  rw [← hF]
  have HF := Lib.hid hF
  clear h hr ht hs hF
  go_enter Try.func35, Try.ntmps35
  go_upto_region 2 with fail
  obtain ⟨w1, hw1⟩ : ∃ w1, w1 = (w.alloc (.cells #[.string ⟨#[]⟩, .string ⟨#[]⟩] 65)).alloc (.cells #[.string ⟨#[]⟩, .string ⟨#[]⟩] 65) := ⟨_, rfl⟩
  obtain ⟨g4, hg4⟩ : ∃ g4, g4 = w.heap.size := ⟨_, rfl⟩
  obtain ⟨g6, hg6⟩ : ∃ g6, g6 = g4 + 1 := ⟨_, rfl⟩
  have hb1 : Below w.heap.size w w1 := by rw [hw1]; exact ((Below.refl _ _).alloc (Nat.le_refl _) _).alloc (by simp) _
  have h4 : w1.heap[g4]? = some (.cells (kcells (fkv none)) 65 (0, 0)) := by rw [hw1, hg4]; exact heap_old (heap_new rfl)
  have h6 : w1.heap[g6]? = some (.cells (kcells (fkv none)) 65 (0, 0)) := by rw [hw1, hg6, hg4]; exact heap_new (by simp)
  have hz : w.heap.size ≤ g4 ∧ w.heap.size ≤ g6 ∧ g4 ≠ g6 := by omega
  rw [← hw1]
  rw [← hg4, ← hg6]
  have c01 : w1.cell? ⟨g, 0, none⟩ = some v := (hb1.cell (p := ⟨g, 0, none⟩) hgl).trans c0
  have HB1 := Lib.hid hb1
  have H4 := Lib.hid h4
  have H6 := Lib.hid h6
  have HZ := Lib.hid hz
  clear hw1 hg4 hg6 hb1 h4 h6 hz c0
  go_upto_region 3 with fail
  go_wp2_with fail
  go_loopg [7, 8, 9, 10] H (fun k u7 u8 u9 u10 wr => ∃ (s : Option BT) (x : Value) (f : Option KV), x = u8 ∧ u7 = .bool f.isSome ∧ RootAt w x s ∧ Sub s k ∧ Sorted (treeL s) ∧ F = (floorL (treeL s) key).or f ∧ Below w.heap.size w wr ∧ wr.heap[g4]? = some (.cells (kcells (fkv none)) 65 (0, 0)) ∧ wr.heap[g6]? = some (.cells (kcells (fkv f)) 65 (0, 0)))
  case atStart => exact ⟨t, v, none, rfl, rfl, HR.out, HS.out, HSO.out, by rw [HF.out]; cases floorL (treeL t) key <;> rfl, HB1.out, H4.out, H6.out⟩
  case round =>
    clear HB1 H4 H6 HR HS HSO HF c01
    obtain ⟨s, x, f, hx, rfl, hr, hs, hso, hF, hb, h4, h6⟩ := hrel
    subst hx
    have HF := Lib.hid hF
    have HB := Lib.hid hb
    have H4 := Lib.hid h4
    have H6 := Lib.hid h6
    rcases hs with ⟨rfl, rfl⟩ | ⟨b, rfl, hw⟩
    · have hx : x = .pointer none := hr
      subst hx
      have ld6 := run_loadPair (range_kv h6)
      clear hb hr hF h4 h6
      have p4 : PB wr g4 := ⟨_, H4.out⟩
      go_wp2_with fail
      refine bodyPost_ret (results_floor _ _ g4 _ _ f.isSome rfl rfl (setRow_heap _ _ _ _ _ _ H4.out)) rfl ⟨?_, ((Kept.of_below (fun _ => False) HB.out).setRow (fun h => by have := HZ.out; omega) _).below (Nat.le_refl _) (fun _ _ h => h)⟩
      have e : F = f := by rw [HF.out]; rfl
      rw [e]
      rfl
    · obtain ⟨g1, rfl, hn⟩ := hr
      cases gk with
      | zero => exact hw.elim
      | succ k =>
      have HN := Lib.hid hn
      have HSP := Lib.hid (hso : Sorted b.toL)
      have HWF := Lib.hid hw
      have HFI : Hid (∀ u, Below w.heap.size w u → Calls Try.prog 59 #[.pointer (some ⟨g1, 0, none⟩), .string key] u fun e w' => ∃ i : Nat, e = .returned (.tuple #[.int .i64 (i : Int), .bool (decide (∃ h : i < b.ps.length, b.ps[i].k = key))]) ∧ Place b.ps key i ∧ Below u.heap.size u w') := Lib.hid (fun u hu => find_any (hn.under hu) key (Sorted.ps hw hso) (by have := hw.1; omega))
      clear hn hso hw hb hF h4 h6
      go_upto_region 6 with (go_at_call 59; refine (HFI.out _ HB.out).mono ?_; rintro e w2 ⟨i, rfl, hpl, hb2⟩; have HPL := Lib.hid hpl; have HB2 := Lib.hid (HB.out.trans (hb2.mono HB.out.size)); have H42 := Lib.hid ((hb2.block _ (heap_lt H4.out)).trans H4.out); have H62 := Lib.hid ((hb2.block _ (heap_lt H6.out)).trans H6.out); clear hpl hb2)
      obtain ⟨a, n, c, b2, m, e, gs, -, c0, c1, hps, -, -, -⟩ := (HN.out.under HB2.out).facts
      have hpsl := hps.1
      have hnc : n ≤ c := hps.2.2.1
      have hnm : c ≤ 9223372036854775807 := hps.2.2.2.1
      have hpl := HPL.out
      have h4b := H42.out
      have h6b := H62.out
      have hw := HWF.out
      have hi8 : i ≤ 8 := by have := hw.1; have := hpl.1; omega
      have hi1 : (i : Int) ≤ 8 := by omega
      by_cases hfd : ∃ h : i < b.ps.length, b.ps[i].k = key
      · have hd1 : decide (∃ h : i < b.ps.length, b.ps[i].k = key) = true := decide_eq_true hfd
        rw [hd1]
        obtain ⟨hib, hik⟩ := hfd
        have hin : (i : Int) < (n : Int) := by omega
        obtain ⟨bb, off, -, hbb, rfl, hcell⟩ := hps.at (by omega)
        have hr := hcell i hib
        obtain ⟨kv, hkv⟩ : ∃ kv, kv = b.ps[i]'hib := ⟨_, rfl⟩
        rw [← hkv] at hr
        obtain ⟨ob, hob⟩ : ∃ ob, ob = off + i * 2 := ⟨_, rfl⟩
        rw [← hob] at hr
        have hob2 : off + i * 2 = ob := hob.symm
        have ld0 := run_loadPair hr
        have p4 : PB w2 g4 := ⟨_, h4b⟩
        have HFV : Hid (F = some kv) := Lib.hid (by
          rw [HF.out]
          have hl : b.ks = [] ∨ b.ks.length = b.ps.length + 1 := by
            rcases hw.2 with ⟨-, e1⟩ | ⟨-, e1, -⟩
            · exact .inl e1
            · exact .inr e1
          have := floor_found hl (by rw [← toL_eq]; exact HSP.out) hib
          rw [← toL_eq, hik] at this
          show (floorL b.toL key).or f = _
          rw [this, hkv]
          rfl)
        clear hcell hr hkv hob hps h4b h6b hpl hd1 hik hw
        go_wp2_with fail
        refine bodyPost_ret (results_floor _ _ g4 _ _ true rfl rfl (setRow_heap _ _ _ _ _ _ H42.out)) rfl ⟨?_, ((Kept.of_below (fun _ => False) HB2.out).setRow (fun h => by have := HZ.out; omega) _).below (Nat.le_refl _) (fun _ _ h => h)⟩
        rw [HFV.out]
        rfl
      · have hd1 : decide (∃ h : i < b.ps.length, b.ps[i].k = key) = false := decide_eq_false hfd
        rw [hd1]
        rcases hw.2 with ⟨e0, e1⟩ | ⟨e0, e1, e2⟩
        · subst e0
          have HE1 := Lib.hid e1
          have hfl : F = (if i = 0 then none else b.ps[i - 1]?).or f := by
            rw [HF.out]
            show (floorL b.toL key).or f = _
            rw [toL_eq, e1, toLs_leaf, floor_leaf (Sorted.ps hw HSP.out) hpl hfd]
          clear hw e1 hd1
          by_cases hi0 : i = 0
          · have HFF : Hid (F = (floorL (treeL none) key).or f) := Lib.hid (by rw [hfl, if_pos hi0]; rfl)
            clear hfl hfd
            subst hi0
            have HB3 := HB2
            have H63 := Lib.hid h6b
            have H43 := Lib.hid h4b
            clear hps h4b h6b hpl
            go_upto_region 10 with fail
            obtain ⟨w3, hw3⟩ : ∃ w3, w3 = w2 := ⟨_, rfl⟩
            rw [← hw3] at HB3 H63 H43 ⊢
            clear hw3
            have HK := Lib.hid (kid_leaf (HN.out.under HB3.out) (by rw [HE1.out]; rfl) (0 : Int))
            go_wp2_with (go_at_call 49; refine HK.out.mono ?_; rintro e w4 ⟨rfl, rfl⟩)
            go_roundg 0
            case measure => omega
            case rel => exact ⟨none, _, f, rfl, by first | rfl | simp, rfl, .inl ⟨rfl, rfl⟩, List.Pairwise.nil, HFF.out, HB3.out, H43.out, H63.out⟩
          · have hfl2 : F = (b.ps[i - 1]?).or f := by rw [hfl, if_neg hi0]
            have HF3 := Lib.hid hfl2
            clear hfl hfl2 hfd
            have hi0 : (0 : Int) < (i : Int) := by omega
            have him : i - 1 < b.ps.length := by have := hpl.1; omega
            have hwm : IntKind.i64.wrap ((i : Int) - 1) = ((i - 1 : Nat) : Int) := by rw [i64_id _ (by omega) (by omega)]; omega
            obtain ⟨j, hj⟩ : ∃ j, j = i - 1 := ⟨_, rfl⟩
            rw [← hj] at him hwm
            have hjn : (j : Int) < (n : Int) := by omega
            obtain ⟨bb, off, -, hbb, rfl, hcell⟩ := hps.at (by omega)
            have hr := hcell j him
            obtain ⟨kv, hkv⟩ : ∃ kv, kv = b.ps[j]'him := ⟨_, rfl⟩
            rw [← hkv] at hr
            obtain ⟨ob, hob⟩ : ∃ ob, ob = off + j * 2 := ⟨_, rfl⟩
            rw [← hob] at hr
            have hob2 : off + j * 2 = ob := hob.symm
            have ld0 := run_loadPair hr
            have HKV := Lib.hid hkv
            have HJ := Lib.hid hj
            have HFF : Hid (F = (floorL (treeL none) key).or (some kv)) := Lib.hid (by rw [HF3.out, ← HJ.out, List.getElem?_eq_getElem (by have := HPL.out.1; omega), ← HKV.out]; rfl)
            have p6 : PB w2 g6 := ⟨_, h6b⟩
            have HB3 : Hid (Below w.heap.size w (w2.setRow g6 #[.string kv.k, .string kv.v])) := Lib.hid (((Kept.of_below (fun _ => False) HB2.out).setRow (fun h => by have := HZ.out; omega) _).below (Nat.le_refl _) (fun _ _ h => h))
            have H63 : Hid ((w2.setRow g6 #[.string kv.k, .string kv.v]).heap[g6]? = some (.cells (kcells (fkv (some kv))) 65 (0, 0))) := Lib.hid (setRow_heap _ _ _ _ _ _ h6b)
            have H43 : Hid ((w2.setRow g6 #[.string kv.k, .string kv.v]).heap[g4]? = some (.cells (kcells (fkv none)) 65 (0, 0))) := Lib.hid ((setRow_other _ _ _ _ (by have := HZ.out; omega)).trans h4b)
            clear hcell hr hkv hob hj hps h4b h6b hpl
            go_upto_region 10 with fail
            obtain ⟨w3, hw3⟩ : ∃ w3, w3 = w2.setRow g6 #[.string kv.k, .string kv.v] := ⟨_, rfl⟩
            rw [← hw3] at HB3 H63 H43 ⊢
            clear hw3 ld0 p6
            have HK := Lib.hid (kid_leaf (HN.out.under HB3.out) (by rw [HE1.out]; rfl) (i : Int))
            go_wp2_with (go_at_call 49; refine HK.out.mono ?_; rintro e w4 ⟨rfl, rfl⟩)
            go_roundg 0
            case measure => omega
            case rel => exact ⟨none, _, some kv, rfl, by first | rfl | simp, rfl, .inl ⟨rfl, rfl⟩, List.Pairwise.nil, HFF.out, HB3.out, H43.out, H63.out⟩
        · have hik : i < b.ks.length := by have := hpl.1; omega
          have hfl := floor_inner e1 (by rw [← toL_eq]; exact HSP.out) hpl hik hfd
          have HSK := Lib.hid hfl.2
          have HWK := Lib.hid (e2 _ (List.getElem_mem hik)).1
          have hfl : F = (floorL (b.ks[i]'hik).toL key).or ((if i = 0 then none else b.ps[i - 1]?).or f) := by
            rw [HF.out]
            show (floorL b.toL key).or f = _
            rw [toL_eq, hfl.1, Option.or_assoc]
          clear hw e1 e2 hd1 e0
          by_cases hi0 : i = 0
          · have hfl2 : F = (floorL (b.ks[i]'hik).toL key).or f := by rw [hfl, if_pos hi0]; rfl
            have HFF0 := Lib.hid hfl2
            clear hfl hfl2 hfd
            subst hi0
            have HFF : Hid (F = (floorL (treeL (some (b.ks[0]'hik))) key).or f) := Lib.hid HFF0.out
            have HB3 := HB2
            have H63 := Lib.hid h6b
            have H43 := Lib.hid h4b
            clear hps h4b h6b hpl
            go_upto_region 10 with fail
            obtain ⟨w3, hw3⟩ : ∃ w3, w3 = w2 := ⟨_, rfl⟩
            rw [← hw3] at HB3 H63 H43 ⊢
            clear hw3
            have HK := Lib.hid (kid_under HN.out HB3.out 0 hik)
            go_wp2_with (go_at_call 49; refine HK.out.mono ?_; rintro e w4 ⟨gq, rfl, hnq, rfl⟩; have HNQ := Lib.hid hnq; clear hnq)
            go_roundg k
            case measure => omega
            case rel => exact ⟨some (b.ks[0]'hik), _, f, rfl, by first | rfl | simp, ⟨gq, rfl, HNQ.out⟩, .inr ⟨_, rfl, HWK.out⟩, HSK.out, HFF.out, HB3.out, H43.out, H63.out⟩
          · have hfl2 : F = (floorL (b.ks[i]'hik).toL key).or ((b.ps[i - 1]?).or f) := by rw [hfl, if_neg hi0]
            have HF3 := Lib.hid hfl2
            clear hfl hfl2 hfd
            have hi0 : (0 : Int) < (i : Int) := by omega
            have him : i - 1 < b.ps.length := by have := hpl.1; omega
            have hwm : IntKind.i64.wrap ((i : Int) - 1) = ((i - 1 : Nat) : Int) := by rw [i64_id _ (by omega) (by omega)]; omega
            obtain ⟨j, hj⟩ : ∃ j, j = i - 1 := ⟨_, rfl⟩
            rw [← hj] at him hwm
            have hjn : (j : Int) < (n : Int) := by omega
            obtain ⟨bb, off, -, hbb, rfl, hcell⟩ := hps.at (by omega)
            have hr := hcell j him
            obtain ⟨kv, hkv⟩ : ∃ kv, kv = b.ps[j]'him := ⟨_, rfl⟩
            rw [← hkv] at hr
            obtain ⟨ob, hob⟩ : ∃ ob, ob = off + j * 2 := ⟨_, rfl⟩
            rw [← hob] at hr
            have hob2 : off + j * 2 = ob := hob.symm
            have ld0 := run_loadPair hr
            have HKV := Lib.hid hkv
            have HJ := Lib.hid hj
            have HFF : Hid (F = (floorL (treeL (some (b.ks[i]'hik))) key).or (some kv)) := Lib.hid (by rw [HF3.out, ← HJ.out, List.getElem?_eq_getElem (by have := HPL.out.1; omega), ← HKV.out]; rfl)
            have p6 : PB w2 g6 := ⟨_, h6b⟩
            have HB3 : Hid (Below w.heap.size w (w2.setRow g6 #[.string kv.k, .string kv.v])) := Lib.hid (((Kept.of_below (fun _ => False) HB2.out).setRow (fun h => by have := HZ.out; omega) _).below (Nat.le_refl _) (fun _ _ h => h))
            have H63 : Hid ((w2.setRow g6 #[.string kv.k, .string kv.v]).heap[g6]? = some (.cells (kcells (fkv (some kv))) 65 (0, 0))) := Lib.hid (setRow_heap _ _ _ _ _ _ h6b)
            have H43 : Hid ((w2.setRow g6 #[.string kv.k, .string kv.v]).heap[g4]? = some (.cells (kcells (fkv none)) 65 (0, 0))) := Lib.hid ((setRow_other _ _ _ _ (by have := HZ.out; omega)).trans h4b)
            clear hcell hr hkv hob hj hps h4b h6b hpl
            go_upto_region 10 with fail
            obtain ⟨w3, hw3⟩ : ∃ w3, w3 = w2.setRow g6 #[.string kv.k, .string kv.v] := ⟨_, rfl⟩
            rw [← hw3] at HB3 H63 H43 ⊢
            clear hw3 ld0 p6
            have HK := Lib.hid (kid_under HN.out HB3.out i hik)
            go_wp2_with (go_at_call 49; refine HK.out.mono ?_; rintro e w4 ⟨gq, rfl, hnq, rfl⟩; have HNQ := Lib.hid hnq; clear hnq)
            go_roundg k
            case measure => omega
            case rel => exact ⟨some (b.ks[i]'hik), _, some kv, rfl, by first | rfl | simp, ⟨gq, rfl, HNQ.out⟩, .inr ⟨_, rfl, HWK.out⟩, HSK.out, HFF.out, HB3.out, H43.out, H63.out⟩
end Go.Proofs.Ytfgmhidgkemfoaa
namespace Go.Proofs.Ytfgmhidgkemfoaa
open Go.RowKit
set_option linter.unusedSimpArgs false
set_option linter.unusedVariables false
attribute [local go_sem ↓] exec_loadPair exec_storePair exec_at_zeroP exec_at_succP Go.wp_at_zero Go.wp_at_succ
attribute [local go_sem] run_storePair
theorem str_beq (a b : ByteArray) : (a.toList == b.toList) = decide (a = b) := by
  rw [ByteArray.toList_eq, ByteArray.toList_eq, Bool.eq_iff_iff]
  simp only [beq_iff_eq, decide_eq_true_eq]
  constructor
  · intro h
    obtain ⟨⟨la⟩⟩ := a
    obtain ⟨⟨lb⟩⟩ := b
    simp only at h
    rw [h]
  · intro h; rw [h]
/-- the value of a key, off the greatest pair up to it -/
def gotF (F : Option KV) (key : ByteArray) : Option ByteArray := match F with
  | some p => if p.k = key then some p.v else none
  | none => none
def strO : Option ByteArray → ByteArray
  | some s => s
  | none => emptyS
set_option maxRecDepth 100000 in
set_option maxHeartbeats 1000000 in
theorem get_any {w : World} {g : Nat} {t : Option BT} {H : Nat} (h : Tr w g t) (ht : TOk t H) (hs : Sorted (treeL t)) (key : ByteArray) :
    Calls Try.prog 36 #[.pointer (some ⟨g, 0, none⟩), .string key] w fun e w' => e = .returned (.tuple #[.string (strO (gotF (floorL (treeL t) key) key)), .bool (gotF (floorL (treeL t) key) key).isSome]) ∧ Below w.heap.size w w' := by
  have HC := Lib.hid (floor_any h ht hs key)
  obtain ⟨F, hF⟩ : ∃ F, F = floorL (treeL t) key := ⟨_, rfl⟩
  rw [← hF] at HC ⊢
  clear hF h ht hs
  cases F with
  | none =>
    have HC2 : Hid (Calls Try.prog 35 #[.pointer (some ⟨g, 0, none⟩), .string key] w fun e w' => e = .returned (.tuple #[.agg #[.string ⟨#[]⟩, .string ⟨#[]⟩], .bool false]) ∧ Below w.heap.size w w') := HC
    clear HC
    go_enter Try.func36, Try.ntmps36
    go_wp2_with (first
      | (go_at_call 35; refine HC2.out.mono ?_; rintro e w2 ⟨rfl, hb⟩; have p6 : PB (w2.alloc (.cells #[.string ⟨#[]⟩, .string ⟨#[]⟩] 65)) w2.heap.size := ⟨⟨⟨#[]⟩, ⟨#[]⟩⟩, heap_new rfl⟩; have HB := Lib.hid hb; clear hb))
    go_ret2
    exact ⟨rfl, ((((Kept.of_below (fun _ => False) HB.out).alloc _).setRow (fun h => by have := HB.out.size; omega) _).below (Nat.le_refl _) (fun _ _ h => h))⟩
  | some p =>
    obtain ⟨pk, pv⟩ := p
    have HC2 : Hid (Calls Try.prog 35 #[.pointer (some ⟨g, 0, none⟩), .string key] w fun e w' => e = .returned (.tuple #[.agg #[.string pk, .string pv], .bool true]) ∧ Below w.heap.size w w') := HC
    clear HC
    go_enter Try.func36, Try.ntmps36
    go_upto_region 2 with (first
      | (go_at_call 35; refine HC2.out.mono ?_; rintro e w2 ⟨rfl, hb⟩; have p6 : PB (w2.alloc (.cells #[.string ⟨#[]⟩, .string ⟨#[]⟩] 65)) w2.heap.size := ⟨⟨⟨#[]⟩, ⟨#[]⟩⟩, heap_new rfl⟩; have HB := Lib.hid hb; clear hb))
    obtain ⟨w3, hw3⟩ : ∃ w3, w3 = (w2.alloc (.cells #[.string ⟨#[]⟩, .string ⟨#[]⟩] 65)).setRow w2.heap.size #[.string pk, .string pv] := ⟨_, rfl⟩
    obtain ⟨g6, hg6⟩ : ∃ g6, g6 = w2.heap.size := ⟨_, rfl⟩
    have hrow : w3.heap[g6]? = some (.cells #[.string pk, .string pv] 65 (0, 0)) := by rw [hw3, hg6]; exact setRow_heap _ _ _ _ _ _ (heap_new rfl)
    have hb3 : Below w.heap.size w w3 := by
      rw [hw3]
      exact ((((Kept.of_below (fun _ => False) HB.out).alloc _).setRow (fun h => by have := HB.out.size; omega) _).below (Nat.le_refl _) (fun _ _ h => h))
    have c0 : w3.cell? ⟨g6, 0, none⟩ = some (.string pk) := cell_of_row w3 g6 0 _ _ _ hrow
    have c1 : w3.cell? ⟨g6, 1, none⟩ = some (.string pv) := cell_of_row w3 g6 1 _ _ _ hrow
    rw [← hw3, ← hg6]
    have HB3 := Lib.hid hb3
    clear hw3 hg6 hrow hb3 p6
    by_cases hk : pk = key
    · subst hk
      go_wp2_with fail
      go_ret2
      exact ⟨by simp [gotF, strO], HB3.out⟩
    · have hk2 : (pk.toList == key.toList) = false := by rw [str_beq]; exact decide_eq_false hk
      go_wp2_with fail
      go_ret2
      exact ⟨by simp [gotF, strO, hk, emptyS], HB3.out⟩
end Go.Proofs.Ytfgmhidgkemfoaa

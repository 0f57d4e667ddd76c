/-
  Texts K0, A0, N0, N1, N2, N3, N4, N5, N6, N7, N8, N9, O0, NA, NB, NC, ND, one behind the other.
-/
import Derived.Laws.AppendOwn
import Derived.Laws.OwnMore
import Derived.Deep.AppendSrc
import Derived.Deep.MidRow
import Derived.Lib.Hide
import Derived.WalkKit
import Derived.WalkSpells
import Derived.WalkLawsBesides
import GoSem.Claim
import Derived.Lib.Bytealg
import Derived.Laws.Externs
import Derived.Deep.QuietTactic
import Derived.BigQuiet
import Derived.Deep.CutBlock
import Derived.OwnWalk
import Derived.Deep.DrawnRows
import Derived.Deep.CutRange
import Derived.Deep.LoopGhost
import Derived.Laws.Tables
import Derived.Laws.ResultCell
import Derived.Deep.WholeRow
import Derived.Lib.Strings
import Derived.Shelf.Spec.SlicesInsert
import Derived.Lib.AppendZerosOnto
import Derived.Lib.Overlaps
import Derived.Laws.CopyRow
import Derived.Deep.RegionLaw
import Derived.Test.YtfgmhidgkemfoaaRows
namespace Go.Proofs.Ytfgmhidgkemfoaa
open Go.RowKit
/-- only blocks in S have changed -/
structure Kept (S : Nat → Prop) (w w' : World) : Prop where
  os : w'.os = w.os
  tape : w'.tape = w.tape
  output : w'.output = w.output
  size : w.heap.size ≤ w'.heap.size
  block : ∀ k, k < w.heap.size → ¬ S k → w'.heap[k]? = w.heap[k]?
theorem Kept.refl (S : Nat → Prop) (w : World) : Kept S w w := ⟨rfl, rfl, rfl, Nat.le_refl _, fun _ _ _ => rfl⟩
theorem Kept.trans {S T : Nat → Prop} {a b c : World} (h : Kept S a b) (k : Kept T b c) (hT : ∀ j, j < a.heap.size → T j → S j) : Kept S a c :=
  ⟨k.os.trans h.os, k.tape.trans h.tape, k.output.trans h.output, Nat.le_trans h.size k.size, fun i hi hs => (k.block i (Nat.lt_of_lt_of_le hi h.size) (fun ht => hs (hT i hi ht))).trans (h.block i hi hs)⟩
theorem Kept.mono {S T : Nat → Prop} {w w' : World} (h : Kept S w w') (hT : ∀ j, j < w.heap.size → S j → T j) : Kept T w w' :=
  ⟨h.os, h.tape, h.output, h.size, fun i hi ht => h.block i hi (fun hs => ht (hT i hi hs))⟩
theorem Kept.below {S : Nat → Prop} {w w' : World} {B : Nat} (h : Kept S w w') (hB : B ≤ w.heap.size) (hS : ∀ j, j < B → ¬ S j) : Below B w w' :=
  ⟨h.os, h.tape, h.output, h.size, fun k hk => h.block k (by omega) (hS k hk)⟩
theorem Kept.of_below {w w' : World} (S : Nat → Prop) (h : Below w.heap.size w w') : Kept S w w' := ⟨h.os, h.tape, h.output, h.size, fun k hk _ => h.block k hk⟩
theorem Kept.drew {S : Nat → Prop} {a w : World} (h : Kept S a w) : Kept S a w.drew := ⟨h.os, h.tape, h.output, h.size, h.block⟩
theorem Kept.alloc {S : Nat → Prop} {a w : World} (h : Kept S a w) (o : Obj) : Kept S a (w.alloc o) :=
  h.trans (T := S) ⟨rfl, rfl, rfl, by simp, fun k hk _ => Below.heap_alloc _ _ _ hk⟩ (fun _ _ h => h)
theorem Kept.setCell {S : Nat → Prop} {a w : World} (h : Kept S a w) {p : Addr} (hp : p.block < a.heap.size → S p.block) (u : Value) : Kept S a (w.setCell p u) :=
  ⟨h.os, h.tape, h.output, by simpa [World.setCell] using h.size, fun k hk hs => (Below.heap_setCell _ _ _ _ (fun e => hs (by rw [e]; exact hp (by rw [← e]; exact hk)))).trans (h.block k hk hs)⟩
theorem Kept.setRow {S : Nat → Prop} {a w : World} (h : Kept S a w) {g : Nat} (hp : g < a.heap.size → S g) (cs : Array Value) : Kept S a (w.setRow g cs) :=
  ⟨h.os, h.tape, h.output, by simpa [World.setRow] using h.size, fun k hk hs => (setRow_other w g k _ (fun e => hs (by rw [e]; exact hp (by rw [← e]; exact hk)))).trans (h.block k hk hs)⟩
theorem Kept.grown {w w' : World} {k : Option Nat} (h : w.grownBy w' k) : Kept (fun j => k = some j) w w' :=
  ⟨h.os, h.tape, h.output, h.size, fun j hj hs => h.block j hj (fun e => hs e.symm)⟩
theorem Kept.cell {S : Nat → Prop} {w w' : World} (h : Kept S w w') {p : Addr} (hp : p.block < w.heap.size) (hs : ¬ S p.block) : w'.cell? p = w.cell? p := World.cell?_of_block (w := w) (h.block p.block hp hs)
theorem Kept.frozen {S : Nat → Prop} {w w' : World} (h : Kept S w w') {p : Addr} (hp : p.block < w.heap.size) (hs : ¬ S p.block) : w'.frozen? p = w.frozen? p := World.frozen?_of_block (w := w) (h.block p.block hp hs)
theorem Kept.heap {S : Nat → Prop} {w w' : World} (h : Kept S w w') {g : Nat} {o : Obj} (hg : w.heap[g]? = some o) (hs : ¬ S g) : w'.heap[g]? = some o :=
  (h.block g (Array.getElem?_eq_some_iff.1 hg).1 hs).trans hg
/-- a row of one's own in block k: the nil slice, or the head of a block whose first cells are xs -/
def Own (w : World) (e : TypeId) (size : Nat) (k : Option Nat) (v : Value) (n : Nat) (xs : List Value) : Prop :=
  xs.length = n * size ∧ ((k = none ∧ v = .slice none 0 0 ∧ n = 0) ∨
    ∃ g cap cur, k = some g ∧ v = .slice (some ⟨g, 0, none⟩) n cap ∧ w.heap[g]? = some (.cells cur e (0, 0)) ∧ n ≤ cap ∧ cap ≤ maxLen ∧ cur.size = cap * size ∧ cur.toList.take (n * size) = xs)
theorem Own.nil (w : World) (e : TypeId) (size : Nat) : Own w e size none (.slice none 0 0) 0 [] := ⟨by simp, .inl ⟨rfl, rfl, rfl⟩⟩
theorem Own.made (w : World) (e : TypeId) (size : Nat) (cur : Array Value) (n : Nat) (hm : n ≤ maxLen) (hs : cur.size = n * size) :
    Own (w.alloc (.cells cur e)) e size (some w.heap.size) (.slice (some ⟨w.heap.size, 0, none⟩) n n) n cur.toList :=
  ⟨by simpa using hs, .inr ⟨w.heap.size, n, cur, rfl, rfl, heap_alloc_new w _, Nat.le_refl _, hm, hs, List.take_of_length_le (by simp [hs])⟩⟩
theorem Own.lt {w : World} {e : TypeId} {size : Nat} {k : Option Nat} {v : Value} {n : Nat} {xs : List Value} (h : Own w e size k v n xs) : ∀ j, k = some j → j < w.heap.size := by
  intro j hj
  rcases h.2 with ⟨rfl, _⟩ | ⟨g, cap, cur, rfl, _, hg, _⟩
  · cases hj
  · cases hj; exact (Array.getElem?_eq_some_iff.1 hg).1
theorem Own.kept {S : Nat → Prop} {w w' : World} {e : TypeId} {size : Nat} {k : Option Nat} {v : Value} {n : Nat} {xs : List Value} (h : Own w e size k v n xs) (hk : Kept S w w') (hs : ∀ j, k = some j → ¬ S j) : Own w' e size k v n xs := by
  refine ⟨h.1, ?_⟩
  rcases h.2 with hn | ⟨g, cap, cur, rfl, rfl, hg, rest⟩
  · exact .inl hn
  · exact .inr ⟨g, cap, cur, rfl, rfl, hk.heap hg (hs g rfl), rest⟩
/-- a slice that reads as these cells; its block lies in D -/
def Sl (D : Nat → Prop) (w : World) (a : Option Addr) (n c : Nat) (xs : List Value) (size : Nat) : Prop :=
  xs.length = n * size ∧ n ≤ c ∧ c ≤ maxLen ∧ (a = none → c = 0) ∧ (0 < n → ∃ b off, D b ∧ a = some ⟨b, off, none⟩ ∧ w.rangeAt b off xs)
theorem range_lt {w : World} {b off : Nat} {xs : List Value} (h : w.rangeAt b off xs) (hx : 0 < xs.length) : b < w.heap.size :=
  block_lt_of_cell (h 0 _ (List.getElem?_eq_getElem hx))
theorem Sl.kept {D S : Nat → Prop} {w w' : World} {a : Option Addr} {n c : Nat} {xs : List Value} {size : Nat} (h : Sl D w a n c xs size) (hz : 0 < size) (hk : Kept S w w') (hd : ∀ b, b < w.heap.size → D b → ¬ S b) : Sl D w' a n c xs size := by
  obtain ⟨h1, h2, h3, h4, h5⟩ := h
  refine ⟨h1, h2, h3, h4, fun hn => ?_⟩
  obtain ⟨b, off, hD, ha, hr⟩ := h5 hn
  have hb := range_lt hr (by rw [h1]; exact Nat.mul_pos hn hz)
  exact ⟨b, off, hD, ha, fun j v hv => (hk.cell hb (hd b hb hD)).trans (hr j v hv)⟩
theorem Sl.dom {D D' : Nat → Prop} {w : World} {a : Option Addr} {n c : Nat} {xs : List Value} {size : Nat} (h : Sl D w a n c xs size) (hd : ∀ b, D b → D' b) : Sl D' w a n c xs size := by
  obtain ⟨h1, h2, h3, h4, h5⟩ := h
  refine ⟨h1, h2, h3, h4, fun hn => ?_⟩
  obtain ⟨b, off, hD, ha, hr⟩ := h5 hn
  exact ⟨b, off, hd b hD, ha, hr⟩
theorem Sl.empty (D : Nat → Prop) (w : World) (a : Option Addr) (c : Nat) (size : Nat) (hc : c ≤ maxLen) (ha : a = none → c = 0) : Sl D w a 0 c [] size :=
  ⟨by simp, Nat.zero_le _, hc, ha, fun h => absurd h (by omega)⟩
theorem Own.sl {w : World} {e : TypeId} {size : Nat} {k : Option Nat} {v : Value} {n : Nat} {xs : List Value} (h : Own w e size k v n xs) : ∃ a c, v = .slice a n c ∧ Sl (fun b => k = some b) w a n c xs size := by
  rcases h.2 with ⟨rfl, rfl, rfl⟩ | ⟨g, cap, cur, rfl, rfl, hg, hn, hm, hsz, htk⟩
  · have : xs = [] := List.eq_nil_of_length_eq_zero (by simpa using h.1)
    subst this
    exact ⟨none, 0, rfl, Sl.empty _ _ _ _ _ (Nat.zero_le _) (fun _ => rfl)⟩
  · refine ⟨_, cap, rfl, h.1, hn, hm, (fun hh => by cases hh), fun hp => ⟨g, 0, rfl, rfl, fun j u hu => ?_⟩⟩
    rw [Nat.zero_add, cell_of_row w g j cur _ _ hg]
    rw [← htk, List.getElem?_take] at hu
    split at hu
    · simpa using hu
    · cases hu
theorem Sl.src {P : Program} {D : Nat → Prop} {w : World} {a : Option Addr} {n c : Nat} {xs : List Value} {size : Nat} {tx e' : TypeId} (h : Sl D w a n c xs size) (hk : P.underlying tx = some (.slice e')) (h1 : ∀ u ∈ xs, u.oneCell' = true) :
    Src P size tx (.slice a n c) n xs w := by
  obtain ⟨hl, hn, hm, ha, hr⟩ := h
  cases a with
  | none =>
    have := ha rfl
    subst this
    obtain rfl : n = 0 := by omega
    obtain rfl : xs = [] := List.eq_nil_of_length_eq_zero (by simpa using hl)
    exact Src.ofNil w hk 0
  | some ad =>
    refine Src.ofSlice w hk ad n c xs hl (fun j u hu => ?_) h1
    by_cases h0 : n = 0
    · subst h0
      obtain rfl : xs = [] := List.eq_nil_of_length_eq_zero (by simpa using hl)
      simp at hu
    · obtain ⟨b, off, _, hab, hcell⟩ := hr (by omega)
      cases hab
      rw [Addr.add_mid]
      exact hcell j u hu
section
variable {P : Program} (w : World)
theorem run_append_room2 (t tx ty e : TypeId) (i : TypeInfo) (ht : P.underlying t = some (.slice e)) (hi : P.info? e = some i)
    (g sLen sCap : Nat) (cur : Array Value) (hg : w.heap[g]? = some (.cells cur e (0, 0)))
    (x : Value) (m : Nat) (news : List Value) (hs : Src P i.size tx x m news w) (hroom : sLen + m ≤ sCap) (hfit : sLen * i.size + news.length ≤ cur.size) :
    (Builtin.append_ #[t, tx] ty #[.slice (some ⟨g, 0, none⟩) sLen sCap, x]).run P w =
      .ok (.slice (some ⟨g, 0, none⟩) (sLen + m) sCap) (w.setRow g (cur.toList.take (sLen * i.size) ++ news ++ cur.toList.drop (sLen * i.size + news.length)).toArray) := by
  have hst := run_storeCells_at P g (sLen * i.size) e news 0 cur w hg (by simpa using hfit) hs.one
  simp only [Nat.add_zero] at hst
  rcases hs.kind with ⟨e', hk⟩ | hk <;> simp [Builtin.append_, run_underlying ht, run_underlying hk, sizeOf, typeInfo, hi, hs.len, hroom, hs.cells, Addr.add_lit, hst]
/-- append onto a row of one's own, of whatever source: the row stays in its block or moves to a new one -/
theorem run_append_any (t tx ty e : TypeId) (i : TypeInfo) (z : Value) (size bytes : Nat) (ht : P.underlying t = some (.slice e)) (hi : P.info? e = some i) (hz : i.zero = some z)
    (hsize : i.size = size) (hby : i.bytes = bytes) (hzs : z.cells.size = size) (k : Option Nat) (v : Value) (n : Nat) (xs : List Value) (hown : Own w e size k v n xs)
    (x : Value) (m : Nat) (news : List Value) (hs : Src P size tx x m news w) (h63 : n + m ≤ maxLen) (hbytes : (n + m) * bytes ≤ 140737488355328) :
    ∃ k' v' w', (Builtin.append_ #[t, tx] ty #[v, x]).run P w = .ok v' w' ∧ Own w' e size k' v' (n + m) (xs ++ news) ∧ (∀ j, k' = some j → k = some j ∨ w.heap.size ≤ j) ∧ Kept (fun j => k = some j) w w' ∧ (0 < m → k' ≠ none) := by
  subst hsize
  subst hby
  have hsmall : n + m ≤ 9223372036854775807 := by simp only [maxLen] at h63; omega
  have hlen : (xs ++ news).length = (n + m) * i.size := by rw [List.length_append, hown.1, hs.newsLen, Nat.add_mul]
  have grows : ∀ (b : Option Addr) (old : Nat), v = .slice b n old → old < n + m → (Builtin.firstCells i.size n (.slice b n old)).run P w.drew = .ok xs.toArray w.drew → ∃ k' v' w', (Builtin.append_ #[t, tx] ty #[v, x]).run P w = .ok v' w' ∧ Own w' e i.size k' v' (n + m) (xs ++ news) ∧ (∀ j, k' = some j → k = some j ∨ w.heap.size ≤ j) ∧ Kept (fun j => k = some j) w w' ∧ (0 < m → k' ≠ none) := by
    intro b old hv ho hf
    subst hv
    have hr := run_append_grow_src (P := P) w t tx ty e i z ht hi hz b n old xs hf x m news hs ho (by omega) (growslice_fits (by omega) hbytes)
    have hge := grownCap_ge w (n + m) old e
    have hcm : grownCap w (n + m) old e ≤ maxLen := grownCap_le_maxLen w (n + m) old e h63
    refine ⟨some w.heap.size, _, _, hr, ⟨hlen, .inr ⟨w.heap.size, _, _, rfl, rfl, heap_alloc_new w.drew _, hge, hcm, ?_, ?_⟩⟩, ?_, ?_, ?_⟩
    · simp only [Array.size_append, List.size_toArray, size_zeroCells, hzs, hlen, ← Nat.add_mul]
      congr 1
      omega
    · simp only [Array.toList_append]
      rw [← hlen]
      exact List.take_left
    · intro j hj; cases hj; exact .inr (Nat.le_refl _)
    · exact (Kept.refl _ w).drew.alloc _
    · intro _ h; cases h
  rcases hown.2 with ⟨rfl, rfl, rfl⟩ | ⟨g, cap, cur, rfl, rfl, hg, hnc, hcm, hcs, htake⟩
  · have hx : xs = [] := List.eq_nil_of_length_eq_zero (by simpa using hown.1)
    subst hx
    by_cases hm : m = 0
    · subst hm
      have hn : news = [] := List.eq_nil_of_length_eq_zero (by simpa using hs.newsLen)
      subst hn
      refine ⟨none, .slice none 0 0, w, ?_, Own.nil w e i.size, (fun _ h => by cases h), Kept.refl _ _, fun h => absurd h (by omega)⟩
      have hc := hs.cells
      rcases hs.kind with ⟨e', hk⟩ | hk <;> simp [Builtin.append_, run_underlying ht, run_underlying hk, sizeOf, typeInfo, hi, hs.len, hc]
    · exact grows none 0 rfl (by omega) (run_firstCells_none w.drew i.size 0 0 0)
  · by_cases hroom : n + m ≤ cap
    · have hfit : n * i.size + news.length ≤ cur.size := by rw [hs.newsLen, hcs, ← Nat.add_mul]; exact Nat.mul_le_mul_right _ hroom
      have hr := run_append_room2 (P := P) w t tx ty e i ht hi g n cap cur hg x m news hs hroom hfit
      refine ⟨some g, _, _, hr, ⟨hlen, .inr ⟨g, cap, _, rfl, rfl, setRow_heap w g cur _ e _ hg, hroom, hcm, ?_, ?_⟩⟩, ?_, ?_, ?_⟩
      · simp only [List.size_toArray, List.length_append, List.length_take, List.length_drop, Array.length_toList]
        omega
      · rw [htake, ← hlen]
        exact List.take_left
      · intro j hj; cases hj; exact .inl rfl
      · exact (Kept.refl (fun j => some g = some j) w).setRow (fun _ => rfl) _
      · intro _ h; cases h
    · obtain ⟨a, c, hv, hsl⟩ := hown.sl
      cases hv
      refine grows _ cap rfl (by omega) (run_firstCells_some w.drew i.size n ⟨g, 0, none⟩ n cap xs hown.1 ?_)
      intro j u hu
      have h0 : 0 < n := by
        rcases Nat.eq_zero_or_pos n with rfl | h
        · have := hown.1
          have := (List.getElem?_eq_some_iff.1 hu).1
          omega
        · exact h
      obtain ⟨b, off, _, hab, hcell⟩ := hsl.2.2.2.2 h0
      cases hab
      rw [Addr.add_mid]
      exact hcell j u hu
theorem wpList_append_any {ops : Array Oper} {rest : List Oper} {o : Oper} {a : Act} {Q : Exit → Act → World → Prop} (hgd : o.guard = none) (s x : Operand) (t tx : TypeId)
    (ho : o.op = .call { callee := .builtin .append, args := #[s, x], argTypes := #[t, tx] })
    (e : TypeId) (i : TypeInfo) (z : Value) (size bytes : Nat) (ht : P.underlying t = some (.slice e)) (hi : P.info? e = some i) (hz : i.zero = some z)
    (hsize : i.size = size) (hby : i.bytes = bytes) (hzs : z.cells.size = size) (k : Option Nat) (v : Value) (n : Nat) (xs : List Value) (hv : a.eval s = v) (hown : Own w e size k v n xs)
    (m : Nat) (news : List Value) (hs : Src P size tx (a.eval x) m news w) (h63 : n + m ≤ maxLen) (hbytes : (n + m) * bytes ≤ 140737488355328)
    (h : ∀ k' v' w', Own w' e size k' v' (n + m) (xs ++ news) → (∀ j, k' = some j → k = some j ∨ w.heap.size ≤ j) → Kept (fun j => k = some j) w w' → (0 < m → k' ≠ none) → wpList P ops Q rest (a.put o.dst v') w') : wpList P ops Q (o :: rest) a w := by
  obtain ⟨k', v', w', hr, h2, h3, h4, h5⟩ := run_append_any (P := P) w t tx o.type e i z size bytes ht hi hz hsize hby hzs k v n xs hown (a.eval x) m news hs h63 hbytes
  refine wpList_plain hgd fun K hK => ?_
  unfold Oper.wp execOp
  simp only [ho, resolve, invoke, builtin, Sem.run_bind, Sem.run_pure, Result.andThen_ok, List.map_toArray, List.map_cons, List.map_nil, hv, hr]
  exact hK _ _ (h k' v' w' h2 h3 h4 h5)
end
end Go.Proofs.Ytfgmhidgkemfoaa
namespace Go.Proofs.Ytfgmhidgkemfoaa
open Go.RowKit
theorem heap_alloc_if (w : World) (o : Obj) (i : Nat) : (w.alloc o).heap[i]? = if i = w.heap.size then some o else w.heap[i]? := by
  show (w.heap.push o)[i]? = _
  rw [Array.getElem?_push]
theorem size_alloc1 (w : World) (o : Obj) : (w.alloc o).heap.size = w.heap.size + 1 := by
  show (w.heap.push o).size = _
  simp
theorem heap_new {w : World} {o : Obj} {g : Nat} (h : g = w.heap.size) : (w.alloc o).heap[g]? = some o := by
  rw [heap_alloc_if, if_pos h]
theorem heap_old {w : World} {o o' : Obj} {g : Nat} (h : w.heap[g]? = some o) : (w.alloc o').heap[g]? = some o := by
  have hl : g < w.heap.size := by
    by_cases hl : g < w.heap.size
    · exact hl
    · rw [Array.getElem?_eq_none (by omega)] at h; cases h
  rw [heap_alloc_if, if_neg (by omega), h]
theorem heap_lt {w : World} {o : Obj} {g : Nat} (h : w.heap[g]? = some o) : g < w.heap.size := by
  by_cases hl : g < w.heap.size
  · exact hl
  · rw [Array.getElem?_eq_none (by omega)] at h; cases h
def vals (l : List UInt8) : List Value := l.map fun x => Value.int .u8 (x.toNat : Int)
theorem vals_len (l : List UInt8) : (vals l).length = l.length := by simp [vals]
theorem vals_app (l m : List UInt8) : vals (l ++ m) = vals l ++ vals m := by simp [vals]
theorem vals_one (l : List UInt8) : ∀ u ∈ vals l, u.oneCell' = true := by simp [vals, Value.oneCell']
theorem vals_str (s : ByteArray) : byteCells s = vals s.data.toList := rfl
def ivals (l : List Int) : List Value := l.map (Value.int .i64)
theorem ivals_len (l : List Int) : (ivals l).length = l.length := by simp [ivals]
theorem ivals_app (l m : List Int) : ivals (l ++ m) = ivals l ++ ivals m := by simp [ivals]
theorem ivals_one (l : List Int) : ∀ u ∈ ivals l, u.oneCell' = true := by simp [ivals, Value.oneCell']
theorem info5 : (Try.prog.info? 5).map (fun i => (i.zero, i.size, i.bytes)) = some (some (.int .u8 0), 1, 1) := by kernel_rfl
theorem info3 : (Try.prog.info? 3).map (fun i => (i.zero, i.size, i.bytes)) = some (some (.int .i64 0), 1, 8) := by kernel_rfl
theorem i64_id (n : Int) (h0 : -9223372036854775808 ≤ n) (h1 : n ≤ 9223372036854775807) : IntKind.i64.wrap n = n := by
  rw [IntKind.wrap_i64]; omega
/-- a slice of bytes -/
def Bs (D : Nat → Prop) (w : World) (a : Option Addr) (n c : Nat) (l : List UInt8) : Prop := l.length = n ∧ Sl D w a n c (vals l) 1
/-- a slice of numbers -/
def Is (D : Nat → Prop) (w : World) (a : Option Addr) (n c : Nat) (l : List Int) : Prop := l.length = n ∧ Sl D w a n c (ivals l) 1
theorem Bs.kept {D S : Nat → Prop} {w w' : World} {a : Option Addr} {n c : Nat} {l : List UInt8} (h : Bs D w a n c l) (hk : Kept S w w') (hd : ∀ b, b < w.heap.size → D b → ¬ S b) : Bs D w' a n c l := ⟨h.1, h.2.kept (by decide) hk hd⟩
theorem Is.kept {D S : Nat → Prop} {w w' : World} {a : Option Addr} {n c : Nat} {l : List Int} (h : Is D w a n c l) (hk : Kept S w w') (hd : ∀ b, b < w.heap.size → D b → ¬ S b) : Is D w' a n c l := ⟨h.1, h.2.kept (by decide) hk hd⟩
theorem Bs.dom {D D' : Nat → Prop} {w : World} {a : Option Addr} {n c : Nat} {l : List UInt8} (h : Bs D w a n c l) (hd : ∀ b, D b → D' b) : Bs D' w a n c l := ⟨h.1, h.2.dom hd⟩
theorem Is.dom {D D' : Nat → Prop} {w : World} {a : Option Addr} {n c : Nat} {l : List Int} (h : Is D w a n c l) (hd : ∀ b, D b → D' b) : Is D' w a n c l := ⟨h.1, h.2.dom hd⟩
/-- a writer in block g has collected l, in block k -/
def Wr (w : World) (g : Nat) (k : Option Nat) (l : List UInt8) : Prop :=
  ∃ v, w.heap[g]? = some (.cells #[v] 75 (0, 0)) ∧ Own w 5 1 k v l.length (vals l) ∧ k ≠ some g
/-- from one world of a writer to a later one: nothing but its own blocks has changed, and its row moves to new blocks only -/
structure Link (g : Nat) (k : Option Nat) (w : World) (k' : Option Nat) (w' : World) : Prop where
  fresh : ∀ j, k' = some j → k = some j ∨ w.heap.size ≤ j
  kept : Kept (fun j => j = g ∨ k = some j) w w'
theorem Link.trans {g : Nat} {k k1 k2 : Option Nat} {w w1 w2 : World} (h : Link g k w k1 w1) (h2 : Link g k1 w1 k2 w2) : Link g k w k2 w2 := by
  refine ⟨fun j hj => ?_, h.kept.trans h2.kept (fun j hj ht => ?_)⟩
  · rcases h2.fresh j hj with e | e
    · exact h.fresh j e
    · exact .inr (Nat.le_trans h.kept.size e)
  · rcases ht with e | e
    · exact .inl e
    · rcases h.fresh j e with e | e
      · exact .inr e
      · omega
theorem Link.refl (g : Nat) (k : Option Nat) (w : World) : Link g k w k w := ⟨fun _ h => .inl h, Kept.refl _ _⟩
theorem Link.of_below {g : Nat} {k : Option Nat} {w w' : World} (h : Below w.heap.size w w') : Link g k w k w' := ⟨fun _ h => .inl h, Kept.of_below _ h⟩
/-- what a method of a writer does -/
def Wrote (g : Nat) (k : Option Nat) (w : World) (l' : List UInt8) (w' : World) : Prop := ∃ k', Wr w' g k' l' ∧ Link g k w k' w'
theorem Wr.lt {w : World} {g : Nat} {k : Option Nat} {l : List UInt8} (h : Wr w g k l) : g < w.heap.size := by
  obtain ⟨v, hg, _⟩ := h
  exact (Array.getElem?_eq_some_iff.1 hg).1
theorem Wr.kept {S : Nat → Prop} {w w' : World} {g : Nat} {k : Option Nat} {l : List UInt8} (h : Wr w g k l) (hk : Kept S w w') (hg : ¬ S g) (hs : ∀ j, k = some j → ¬ S j) : Wr w' g k l := by
  obtain ⟨v, h1, h2, h3⟩ := h
  exact ⟨v, hk.heap h1 hg, h2.kept hk hs, h3⟩
theorem Wrote.refl {w : World} {g : Nat} {k : Option Nat} {l : List UInt8} (h : Wr w g k l) : Wrote g k w l w := ⟨k, h, Link.refl _ _ _⟩
theorem Wrote.after {g : Nat} {k k1 : Option Nat} {w w1 w2 : World} {l2 : List UInt8} (h : Link g k w k1 w1) (h2 : Wrote g k1 w1 l2 w2) : Wrote g k w l2 w2 := by
  obtain ⟨k2, hw2, hl2⟩ := h2
  exact ⟨k2, hw2, h.trans hl2⟩
theorem one_set {w : World} {g : Nat} {v u : Value} {t : TypeId} (hg : w.heap[g]? = some (.cells #[v] t (0, 0))) : (w.setCell ⟨g, 0, none⟩ u).heap[g]? = some (.cells #[u] t (0, 0)) := by
  rw [heap_setCell_same w g 0 _ _ _ hg]
  rfl
end Go.Proofs.Ytfgmhidgkemfoaa
namespace Go.Proofs.Ytfgmhidgkemfoaa
open Go.RowKit
set_option linter.unusedSimpArgs false
set_option linter.unusedVariables false
/-- the order of keys -/
def cmpK (a b : ByteArray) : Int := Lib.compareBytes a.data.toList b.data.toList
theorem cb_bd : ∀ a b : List UInt8, Lib.compareBytes a b = -1 ∨ Lib.compareBytes a b = 0 ∨ Lib.compareBytes a b = 1
  | [], [] => .inr (.inl rfl)
  | [], _ :: _ => .inl rfl
  | _ :: _, [] => .inr (.inr rfl)
  | x :: a, y :: b => by
    unfold Lib.compareBytes
    split
    · exact .inl rfl
    · split
      · exact .inr (.inr rfl)
      · exact cb_bd a b
theorem cb_eq : ∀ a b : List UInt8, Lib.compareBytes a b = 0 ↔ a = b
  | [], [] => by simp [Lib.compareBytes]
  | [], _ :: _ => by simp [Lib.compareBytes]
  | _ :: _, [] => by simp [Lib.compareBytes]
  | x :: a, y :: b => by
    have ih := cb_eq a b
    unfold Lib.compareBytes
    split
    · rename_i h
      constructor
      · intro e; omega
      · intro e
        have := (List.cons.inj e).1
        subst this
        exact absurd h (UInt8.lt_irrefl x)
    · rename_i h
      split
      · rename_i h2
        constructor
        · intro e; omega
        · intro e
          have := (List.cons.inj e).1
          subst this
          exact absurd h2 (UInt8.lt_irrefl x)
      · rename_i h2
        have hxy : x = y := UInt8.le_antisymm (UInt8.not_lt.1 h2) (UInt8.not_lt.1 h)
        subst hxy
        rw [ih]
        simp
theorem cb_flip : ∀ a b : List UInt8, Lib.compareBytes b a = - Lib.compareBytes a b
  | [], [] => rfl
  | [], _ :: _ => rfl
  | _ :: _, [] => rfl
  | x :: a, y :: b => by
    have ih := cb_flip a b
    unfold Lib.compareBytes
    by_cases h : x < y
    · simp [h, UInt8.lt_asymm h]
    · by_cases h2 : y < x
      · simp [h, h2]
      · simp only [if_neg h, if_neg h2]
        exact ih
theorem cb_trans : ∀ a b c : List UInt8, Lib.compareBytes a b < 0 → Lib.compareBytes b c < 0 → Lib.compareBytes a c < 0
  | [], [], _, h, _ => by simp [Lib.compareBytes] at h
  | [], _ :: _, [], _, h => by simp [Lib.compareBytes] at h
  | [], _ :: _, _ :: _, _, _ => by simp [Lib.compareBytes]
  | _ :: _, [], _, h, _ => by simp [Lib.compareBytes] at h
  | _ :: _, _ :: _, [], _, h => by simp [Lib.compareBytes] at h
  | x :: a, y :: b, z :: c, h1, h2 => by
    have ih := cb_trans a b c
    unfold Lib.compareBytes at h1 h2 ⊢
    by_cases e1 : x < y
    · by_cases e2 : y < z
      · rw [if_pos (UInt8.lt_trans e1 e2)]; omega
      · by_cases e3 : z < y
        · rw [if_neg e2, if_pos e3] at h2; omega
        · have : y = z := UInt8.le_antisymm (UInt8.not_lt.1 e3) (UInt8.not_lt.1 e2)
          subst this
          rw [if_pos e1]; omega
    · by_cases e3 : y < x
      · rw [if_neg e1, if_pos e3] at h1; omega
      · have : x = y := UInt8.le_antisymm (UInt8.not_lt.1 e3) (UInt8.not_lt.1 e1)
        subst this
        rw [if_neg e1, if_neg e1] at h1
        by_cases e2 : x < z
        · rw [if_pos e2]; omega
        · by_cases e4 : z < x
          · rw [if_neg e2, if_pos e4] at h2; omega
          · rw [if_neg e2, if_neg e4] at h2 ⊢
            exact ih h1 h2
theorem cmpK_bd (a b : ByteArray) : cmpK a b = -1 ∨ cmpK a b = 0 ∨ cmpK a b = 1 := cb_bd _ _
theorem cmpK_eq (a b : ByteArray) : cmpK a b = 0 ↔ a = b := by
  unfold cmpK
  rw [cb_eq]
  constructor
  · intro h
    obtain ⟨⟨la⟩⟩ := a
    obtain ⟨⟨lb⟩⟩ := b
    simp only at h
    rw [h]
  · intro h; rw [h]
theorem cmpK_flip (a b : ByteArray) : cmpK b a = - cmpK a b := cb_flip _ _
theorem cmpK_trans {a b c : ByteArray} (h : cmpK a b < 0) (h2 : cmpK b c < 0) : cmpK a c < 0 := cb_trans _ _ _ h h2
theorem run_cmpCall (a b : ByteArray) (w : World) :
    (callFunc 94 #[.string a, .string b]).run Try.prog w = .ok (.value (.int .i64 (cmpK a b))) w := by
  rw [run_callFunc_extern Try.func94 (by kernel_rfl) (by kernel_rfl) (by kernel_rfl) (e := Extern.BytealgCompare.compare) (by kernel_rfl), Lib.run_compareString]
  rfl
attribute [local go_sem] run_cmpCall
set_option maxRecDepth 100000 in
theorem compareStr_any (a b : ByteArray) (w : World) :
    Calls Try.prog 88 #[.string a, .string b] w fun e w' => e = .returned (.int .i64 (cmpK a b)) ∧ w = w' := by
  go_enter Try.func88, Try.ntmps88
  go_wp2_with fail
  go_ret
  exact ⟨rfl, rfl⟩
set_option maxRecDepth 100000 in
theorem compare_any (a b : ByteArray) (w : World) :
    Calls Try.prog 80 #[.string a, .string b] w fun e w' => e = .returned (.int .i64 (cmpK a b)) ∧ w = w' := by
  go_enter Try.func80, Try.ntmps80
  go_wp2_with (go_at_call 88; refine (compareStr_any a b _).mono ?_; rintro e w1 ⟨rfl, rfl⟩)
  go_ret
  exact ⟨rfl, rfl⟩
set_option maxRecDepth 100000 in
theorem findFn_any (a v b : ByteArray) (w : World) :
    Calls Try.prog 79 #[.agg #[.string a, .string v], .string b] w fun e w' => e = .returned (.int .i64 (cmpK a b)) ∧ Below w.heap.size w w' := by
  go_enter Try.func79, Try.ntmps79
  go_wp2_with (go_at_call 80; refine (compare_any a b _).mono ?_; rintro e w1 ⟨rfl, rfl⟩)
  go_ret
  exact ⟨rfl, (Below.refl _ _).alloc (Nat.le_refl _) _⟩
end Go.Proofs.Ytfgmhidgkemfoaa
namespace Go.Proofs.Ytfgmhidgkemfoaa
open Go.RowKit
set_option linter.unusedSimpArgs false
set_option linter.unusedVariables false
/-- a pair -/
structure KV where
  k : ByteArray
  v : ByteArray
def KV.cells (p : KV) : List Value := [.string p.k, .string p.v]
def pcells (ps : List KV) : List Value := ps.flatMap KV.cells
theorem pcells_len (ps : List KV) : (pcells ps).length = ps.length * 2 := by
  unfold pcells
  induction ps with
  | nil => rfl
  | cons m r ih => rw [List.flatMap_cons, List.length_append, ih, List.length_cons]; show 2 + _ = _; omega
theorem pcells_get (ps : List KV) (i j : Nat) (hi : i < ps.length) (hj : j < 2) : (pcells ps)[i * 2 + j]? = ps[i].cells[j]? := by
  unfold pcells
  induction ps generalizing i with
  | nil => simp at hi
  | cons m r ih =>
    rw [List.flatMap_cons]
    have hl : m.cells.length = 2 := rfl
    cases i with
    | zero =>
      rw [List.getElem?_append_left (by omega), Nat.zero_mul, Nat.zero_add]
      rfl
    | succ i =>
      rw [List.getElem?_append_right (by omega), show (i + 1) * 2 + j - m.cells.length = i * 2 + j by omega, ih i (by simpa using hi)]
      rfl
/-- a slice of pairs -/
def Ps (D : Nat → Prop) (w : World) (a : Option Addr) (n c : Nat) (ps : List KV) : Prop := ps.length = n ∧ Sl D w a n c (pcells ps) 2
theorem Ps.kept {D S : Nat → Prop} {w w' : World} {a : Option Addr} {n c : Nat} {ps : List KV} (h : Ps D w a n c ps) (hk : Kept S w w') (hd : ∀ b, b < w.heap.size → D b → ¬ S b) : Ps D w' a n c ps := ⟨h.1, h.2.kept (by decide) hk hd⟩
theorem Ps.below {D : Nat → Prop} {w w' : World} {a : Option Addr} {n c : Nat} {ps : List KV} (h : Ps D w a n c ps) (hb : Below w.heap.size w w') : Ps D w' a n c ps := h.kept (Kept.of_below (fun _ => False) hb) (fun _ _ _ h => h)
theorem Ps.at {D : Nat → Prop} {w : World} {a : Option Addr} {n c : Nat} {ps : List KV} (h : Ps D w a n c ps) (hp : 0 < n) : ∃ b off, D b ∧ b < w.heap.size ∧ a = some ⟨b, off, none⟩ ∧ ∀ (i : Nat) (hi : i < ps.length), w.rangeAt b (off + i * 2) ps[i].cells := by
  obtain ⟨h1, h2, h3, h4, h5, h6⟩ := h
  obtain ⟨b, off, hD, ha, hr⟩ := h6 hp
  refine ⟨b, off, hD, range_lt hr (by omega), ha, fun i hi j v hv => ?_⟩
  have hj : j < 2 := (List.getElem?_eq_some_iff.1 hv).1
  rw [Nat.add_assoc]
  exact hr (i * 2 + j) v (by rw [pcells_get ps i j hi hj]; exact hv)
def loadPairA (v : Value) : Sem Next := do pure (.value (← Instr.loadAt 65 v))
theorem exec_loadPair (ρ : Operand → Value) (d : Option Tmp) (x : Operand) (ty : TypeId) (pos : String) (af : Array Edge) (gd : Option (Nat × Bool)) :
    execOp ρ { dst := d, op := .load 65 x, type := ty, pos := pos, after := af, guard := gd } = loadPairA (ρ x) := rfl
theorem exec_at_zeroP {ρ : Operand → Value} {o : Oper} {l : List Oper} {h : 0 < (o :: l).toArray.size} : execOp ρ ((o :: l).toArray[0]'h) = execOp ρ o := rfl
theorem exec_at_succP {ρ : Operand → Value} {o : Oper} {l : List Oper} {n : Nat} {h : n + 1 < (o :: l).toArray.size} : execOp ρ ((o :: l).toArray[n + 1]'h) = execOp ρ (l.toArray[n]'(by simpa using h)) := rfl
theorem run_loadPair {w : World} {b o : Nat} {p : KV} (h : w.rangeAt b o p.cells) : (loadPairA (.pointer (some ⟨b, o, none⟩))).run Try.prog w = .ok (.value (.agg #[.string p.k, .string p.v])) w := by
  unfold loadPairA
  simp only [Sem.run_bind, Sem.run_pure, Result.andThen_ok, run_loadAt_mid w b o 65 p.cells _ h Try.underlying65 rfl (by show _ = some 2; kernel_rfl)]
  rfl
/-- keys grow -/
def Sorted (ps : List KV) : Prop := ps.Pairwise fun a b => cmpK a.k b.k < 0
theorem Sorted.lt {ps : List KV} (h : Sorted ps) {i j : Nat} (hij : i < j) (hj : j < ps.length) : cmpK (ps[i]'(by omega)).k ps[j].k < 0 := List.pairwise_iff_getElem.1 h i j (by omega) hj hij
attribute [local go_sem ↓] exec_loadPair exec_at_zeroP exec_at_succP Go.wp_at_zero Go.wp_at_succ
/-- where a key belongs -/
def Place (ps : List KV) (key : ByteArray) (i : Nat) : Prop := i ≤ ps.length ∧ (∀ t (h : t < ps.length), t < i → cmpK ps[t].k key < 0) ∧ (∀ t (h : t < ps.length), i ≤ t → 0 ≤ cmpK ps[t].k key)
def FN : Value := .func (.func 79) #[] #[]
set_option maxRecDepth 100000 in
set_option maxHeartbeats 1000000 in
theorem search_any (D : Nat → Prop) (a : Option Addr) (n c : Nat) (ps : List KV) (key : ByteArray) (w : World) (hP : Ps D w a n c ps) (hs : Sorted ps) (hn : n ≤ 1000000) :
    Calls Try.prog 78 #[.slice a n c, .string key, FN] w fun e w' => ∃ i : Nat, e = .returned (.tuple #[.int .i64 (i : Int), .bool (decide (∃ h : i < ps.length, ps[i].k = key))]) ∧ Place ps key i ∧ Below w.heap.size w w' := by
  have HP := Lib.hid hP
  have HL := Lib.hid hP.1
  have HS := Lib.hid hs
  have hc1 := hP.2.2.1
  have hc2 : c ≤ 9223372036854775807 := hP.2.2.2.1
  clear hP hs
  unfold FN
  go_enter Try.func78, Try.ntmps78
  go_wp2_with fail
  go_loopw [9, 10, 11] (fun u v x wr => ∃ (i j : Nat), u = .int .i64 (i : Int) ∧ v = .int .i64 (j : Int) ∧ i ≤ j ∧ j ≤ n ∧ (∀ t (h : t < ps.length), t < i → cmpK ps[t].k key < 0) ∧ (∀ t (h : t < ps.length), j ≤ t → 0 ≤ cmpK ps[t].k key) ∧ Below w.heap.size w wr) (fun u v _ _ => (intOf v).toNat - (intOf u).toNat)
  case atStart => exact ⟨0, n, rfl, rfl, Nat.zero_le _, Nat.le_refl _, fun t h h2 => absurd h2 (by omega), fun t h h2 => absurd h2 (by have := HL.out; omega), Below.refl _ _⟩
  case round =>
    obtain ⟨i, j, rfl, rfl, hij, hjn, h1, h2, hb⟩ := hrel
    have H1 := Lib.hid h1
    have H2 := Lib.hid h2
    have HB := Lib.hid hb
    clear h1 h2 hb
    by_cases hlt : i < j
    · have hlt2 : (i : Int) < (j : Int) := by omega
      have hwr : IntKind.i64.wrap ((i : Int) + (j : Int)) = ((i + j : Nat) : Int) := by rw [IntKind.wrap_i64]; omega
      obtain ⟨h, hh⟩ : ∃ h, h = (i + j) / 2 := ⟨_, rfl⟩
      have hh1 : ((i : Int) + (j : Int)) / 2 = (h : Int) := by omega
      have hhj : h < j := by omega
      have hhi : i ≤ h := by omega
      have hhn : (h : Int) < (n : Int) := by omega
      have hhl : h < ps.length := by rw [HL.out]; omega
      have hwh : IntKind.i64.wrap ((h : Int) + 1) = (h : Int) + 1 := i64_id _ (by omega) (by omega)
      obtain ⟨b, off, -, hbs, rfl, hcell⟩ := (HP.out.below HB.out).at (by omega)
      have hr := hcell h hhl
      obtain ⟨kv, hkv⟩ : ∃ kv, kv = ps[h]'hhl := ⟨_, rfl⟩
      rw [← hkv] at hr
      obtain ⟨ob, hob⟩ : ∃ ob, ob = off + h * 2 := ⟨_, rfl⟩
      rw [← hob] at hr
      have hob2 : off + h * 2 = ob := hob.symm
      have ld0 := run_loadPair hr
      have HKV := Lib.hid hkv
      have HHL := Lib.hid hhl
      have HHH := Lib.hid hh
      clear hcell hr hkv hob hh
      obtain ⟨X, hX⟩ : ∃ X, X = cmpK kv.k key := ⟨_, rfl⟩
      have HX := Lib.hid hX
      have HCF : Hid (∀ u, Calls Try.prog 79 #[.agg #[.string kv.k, .string kv.v], .string key] u fun e w' => e = .returned (.int .i64 X) ∧ Below u.heap.size u w') := Lib.hid (fun u => by rw [hX]; exact findFn_any _ _ _ u)
      clear hX
      by_cases hX0 : X < 0
      · go_wp2_with (go_at_call 79; refine (HCF.out _).mono ?_; rintro e w2 ⟨rfl, hb2⟩; have HB2 := Lib.hid (HB.out.trans (hb2.mono HB.out.size)); clear hb2)
        go_roundw
        case rel => exact ⟨h + 1, j, by go_num, rfl, by omega, hjn, fun t ht h3 => by
          have h5 := HHL.out
          have h6 : cmpK ps[h].k key < 0 := by rw [← HKV.out, ← HX.out]; exact hX0
          by_cases e : t = h
          · subst e; exact h6
          · exact cmpK_trans (HS.out.lt (i := t) (j := h) (by omega) h5) h6, H2.out, HB2.out⟩
        case measure => simp [intOf]; omega
      · go_wp2_with (go_at_call 79; refine (HCF.out _).mono ?_; rintro e w2 ⟨rfl, hb2⟩; have HB2 := Lib.hid (HB.out.trans (hb2.mono HB.out.size)); clear hb2)
        go_roundw
        case rel => exact ⟨i, h, rfl, rfl, by omega, by omega, H1.out, fun t ht h3 => by
          have h5 := HHL.out
          have h6 : 0 ≤ cmpK ps[h].k key := by rw [← HKV.out, ← HX.out]; omega
          by_cases e : t = h
          · subst e; exact h6
          · rcases Int.lt_or_le (cmpK ps[t].k key) 0 with h7 | h7
            · have := cmpK_trans (HS.out.lt (i := h) (j := t) (by omega) ht) h7; omega
            · exact h7, HB2.out⟩
        case measure => simp [intOf]; omega
    · obtain rfl : i = j := by omega
      by_cases hin : i < n
      · have hin2 : (i : Int) < (n : Int) := by omega
        have hil : i < ps.length := by rw [HL.out]; exact hin
        obtain ⟨b, off, -, hbs, rfl, hcell⟩ := (HP.out.below HB.out).at (by omega)
        have hr := hcell i hil
        obtain ⟨kv, hkv⟩ : ∃ kv, kv = ps[i]'hil := ⟨_, rfl⟩
        rw [← hkv] at hr
        obtain ⟨ob, hob⟩ : ∃ ob, ob = off + i * 2 := ⟨_, rfl⟩
        rw [← hob] at hr
        have hob2 : off + i * 2 = ob := hob.symm
        have ld0 := run_loadPair hr
        have HKV := Lib.hid hkv
        have HHL := Lib.hid hil
        clear hcell hr hkv hob
        obtain ⟨X, hX⟩ : ∃ X, X = cmpK kv.k key := ⟨_, rfl⟩
        have HX := Lib.hid hX
        have HCF : Hid (∀ u, Calls Try.prog 79 #[.agg #[.string kv.k, .string kv.v], .string key] u fun e w' => e = .returned (.int .i64 X) ∧ Below u.heap.size u w') := Lib.hid (fun u => by rw [hX]; exact findFn_any _ _ _ u)
        clear hX
        have hfd : ∀ B : Bool, (B = true ↔ X = 0) → B = decide (∃ h : i < ps.length, ps[i].k = key) := fun B hB => by
          have h5 := HHL.out
          have e1 : (∃ h : i < ps.length, ps[i].k = key) ↔ X = 0 := ⟨fun ⟨_, e⟩ => by rw [HX.out, HKV.out]; exact (cmpK_eq _ _).2 e, fun e => ⟨h5, by rw [HX.out, HKV.out] at e; exact (cmpK_eq _ _).1 e⟩⟩
          rw [Bool.eq_iff_iff, hB, decide_eq_true_iff, e1]
        have HFD := Lib.hid hfd
        clear hfd
        by_cases hX0 : X = 0
        · have HX0 := Lib.hid hX0
          have hx1 : (X == 0) = true := by rw [hX0]; rfl
          clear hX0
          go_wp2_with (go_at_call 79; refine (HCF.out _).mono ?_; rintro e w2 ⟨rfl, hb2⟩; have HB2 := Lib.hid (HB.out.trans (hb2.mono HB.out.size)); clear hb2)
          go_ret2
          exact ⟨i, congrArg (fun B => Ending.returned (.tuple #[.int .i64 (i : Int), .bool B])) (HFD.out true (by simp [HX0.out])), ⟨by have := HL.out; omega, H1.out, H2.out⟩, HB2.out⟩
        · have HX0 := Lib.hid hX0
          have hx1 : (X == 0) = false := by simpa using hX0
          clear hX0
          go_wp2_with (go_at_call 79; refine (HCF.out _).mono ?_; rintro e w2 ⟨rfl, hb2⟩; have HB2 := Lib.hid (HB.out.trans (hb2.mono HB.out.size)); clear hb2)
          go_ret2
          exact ⟨i, congrArg (fun B => Ending.returned (.tuple #[.int .i64 (i : Int), .bool B])) (HFD.out false (by simp [HX0.out])), ⟨by have := HL.out; omega, H1.out, H2.out⟩, HB2.out⟩
      · have hin2 : (n : Int) ≤ (i : Int) := by omega
        have hfd : decide (∃ h : i < ps.length, ps[i].k = key) = false := decide_eq_false (fun ⟨h, _⟩ => by have := HL.out; omega)
        have HFD := Lib.hid hfd
        clear hfd
        go_wp2_with fail
        go_ret2
        exact ⟨i, congrArg (fun B => Ending.returned (.tuple #[.int .i64 (i : Int), .bool B])) HFD.out.symm, ⟨by have := HL.out; omega, H1.out, H2.out⟩, HB.out⟩
end Go.Proofs.Ytfgmhidgkemfoaa
namespace Go.Proofs.Ytfgmhidgkemfoaa
open Go.RowKit
set_option linter.unusedSimpArgs false
set_option linter.unusedVariables false
/-- a tree of nodes, each with the block in which it lies -/
inductive BT where
  | mk (g : Nat) (ps : List KV) (ks : List BT)
def BT.g : BT → Nat
  | .mk g _ _ => g
def BT.ps : BT → List KV
  | .mk _ ps _ => ps
def BT.ks : BT → List BT
  | .mk _ _ ks => ks
theorem BT.eta (t : BT) : t = .mk t.g t.ps t.ks := by cases t; rfl
/-- pointers to nodes -/
def pnts (gs : List Nat) : List Value := gs.map fun g => .pointer (some ⟨g, 0, none⟩)
theorem pnts_len (gs : List Nat) : (pnts gs).length = gs.length := by simp [pnts]
def Ks (D : Nat → Prop) (w : World) (a : Option Addr) (n c : Nat) (gs : List Nat) : Prop := gs.length = n ∧ Sl D w a n c (pnts gs) 1
theorem Ks.kept {D S : Nat → Prop} {w w' : World} {a : Option Addr} {n c : Nat} {gs : List Nat} (h : Ks D w a n c gs) (hk : Kept S w w') (hd : ∀ b, b < w.heap.size → D b → ¬ S b) : Ks D w' a n c gs := ⟨h.1, h.2.kept (by decide) hk hd⟩
theorem Ks.below {D : Nat → Prop} {w w' : World} {a : Option Addr} {n c : Nat} {gs : List Nat} (h : Ks D w a n c gs) (hb : Below w.heap.size w w') : Ks D w' a n c gs := h.kept (Kept.of_below (fun _ => False) hb) (fun _ _ _ h => h)
theorem Ks.cells {D : Nat → Prop} {w : World} {a : Option Addr} {n c : Nat} {gs : List Nat} (h : Ks D w a n c gs) (hn : 0 < n) : ∃ b off, D b ∧ b < w.heap.size ∧ a = some ⟨b, off, none⟩ ∧ ∀ i (hi : i < gs.length), w.cell? ⟨b, off + i, none⟩ = some (.pointer (some ⟨gs[i], 0, none⟩)) := by
  obtain ⟨h1, h2, h3, h4, h5, h6⟩ := h
  obtain ⟨b, off, hD, ha, hr⟩ := h6 hn
  exact ⟨b, off, hD, range_lt hr (by rw [pnts_len]; omega), ha, fun i hi => hr i _ (by simp [pnts, hi])⟩
theorem Ks.dom {D D' : Nat → Prop} {w : World} {a : Option Addr} {n c : Nat} {gs : List Nat} (h : Ks D w a n c gs) (hd : ∀ b, D b → D' b) : Ks D' w a n c gs := ⟨h.1, h.2.dom hd⟩
theorem Ps.dom {D D' : Nat → Prop} {w : World} {a : Option Addr} {n c : Nat} {ps : List KV} (h : Ps D w a n c ps) (hd : ∀ b, D b → D' b) : Ps D' w a n c ps := ⟨h.1, h.2.dom hd⟩
/-- a tree lies in blocks of D -/
inductive NdD (D : Nat → Prop) (w : World) : BT → Prop
  | mk {g : Nat} {a b : Option Addr} {n c m e : Nat} {ps : List KV} {ks : List BT} (h0 : D g) (h1 : w.heap[g]? = some (.cells #[.slice a n c, .slice b m e] 94 (0, 0))) (h2 : Ps D w a n c ps) (h3 : Ks D w b m e (ks.map BT.g)) (h5 : ∀ k, k ∈ ks → NdD D w k) : NdD D w (.mk g ps ks)
theorem NdD.kept {D S : Nat → Prop} {w w' : World} (hk : Kept S w w') (hd : ∀ b, b < w.heap.size → D b → ¬ S b) {t : BT} (h : NdD D w t) : NdD D w' t := by
  induction h with
  | mk h0 h1 h2 h3 h5 ih => exact .mk h0 (hk.heap h1 (hd _ (Array.getElem?_eq_some_iff.1 h1).1 h0)) (h2.kept hk hd) (h3.kept hk hd) ih
theorem NdD.under {D : Nat → Prop} {w w' : World} (hb : Below w.heap.size w w') {t : BT} (h : NdD D w t) : NdD D w' t := h.kept (Kept.of_below (fun _ => False) hb) (fun _ _ _ h => h)
theorem NdD.dom {D D' : Nat → Prop} {w : World} (hd : ∀ b, D b → D' b) {t : BT} (h : NdD D w t) : NdD D' w t := by
  induction h with
  | mk h0 h1 h2 h3 h5 ih => exact .mk (hd _ h0) h1 (h2.dom hd) (h3.dom hd) ih
theorem Sl.in {D : Nat → Prop} {w : World} {a : Option Addr} {n c : Nat} {xs : List Value} {size : Nat} (h : Sl D w a n c xs size) (hz : 0 < size) : Sl (fun b => D b ∧ b < w.heap.size) w a n c xs size := by
  obtain ⟨h1, h2, h3, h4, h5⟩ := h
  refine ⟨h1, h2, h3, h4, fun hn => ?_⟩
  obtain ⟨b, off, hD, ha, hr⟩ := h5 hn
  exact ⟨b, off, ⟨hD, range_lt hr (by rw [h1]; exact Nat.mul_pos hn hz)⟩, ha, hr⟩
theorem NdD.in {D : Nat → Prop} {w : World} {t : BT} (h : NdD D w t) : NdD (fun b => D b ∧ b < w.heap.size) w t := by
  induction h with
  | mk h0 h1 h2 h3 h5 ih => exact .mk ⟨h0, (Array.getElem?_eq_some_iff.1 h1).1⟩ h1 ⟨h2.1, h2.2.in (by decide)⟩ ⟨h3.1, h3.2.in (by decide)⟩ ih
theorem NdD.facts {D : Nat → Prop} {w : World} {t : BT} (h : NdD D w t) : ∃ a n c b m e, D t.g ∧ w.heap[t.g]? = some (.cells #[.slice a n c, .slice b m e] 94 (0, 0)) ∧ w.cell? ⟨t.g, 0, none⟩ = some (.slice a n c) ∧ w.cell? ⟨t.g, 1, none⟩ = some (.slice b m e) ∧ Ps D w a n c t.ps ∧ Ks D w b m e (t.ks.map BT.g) ∧ ∀ k, k ∈ t.ks → NdD D w k := by
  cases h with
  | mk h0 h1 h2 h3 h5 => exact ⟨_, _, _, _, _, _, h0, h1, cell_of_row w _ 0 _ _ _ h1, cell_of_row w _ 1 _ _ _ h1, h2, h3, h5⟩
/-- what lies in the block g is the tree t -/
def Nd (w : World) (g : Nat) (t : BT) : Prop := t.g = g ∧ NdD (fun _ => True) w t
theorem NdD.nd {D : Nat → Prop} {w : World} {t : BT} (h : NdD D w t) : Nd w t.g t := ⟨rfl, h.dom (fun _ _ => trivial)⟩
theorem Nd.under {w w' : World} (hb : Below w.heap.size w w') {g : Nat} {t : BT} (h : Nd w g t) : Nd w' g t := ⟨h.1, h.2.under hb⟩
theorem Nd.lt {w : World} {g : Nat} {t : BT} (h : Nd w g t) : g < w.heap.size := by
  obtain ⟨rfl, h⟩ := h
  obtain ⟨_, _, _, _, _, _, -, h1, -⟩ := h.facts
  exact (Array.getElem?_eq_some_iff.1 h1).1
theorem Nd.facts {w : World} {g : Nat} {t : BT} (h : Nd w g t) : ∃ a n c b m e gs, w.heap[g]? = some (.cells #[.slice a n c, .slice b m e] 94 (0, 0)) ∧ w.cell? ⟨g, 0, none⟩ = some (.slice a n c) ∧ w.cell? ⟨g, 1, none⟩ = some (.slice b m e) ∧ Ps (fun _ => True) w a n c t.ps ∧ Ks (fun _ => True) w b m e gs ∧ gs.length = t.ks.length ∧ ∀ i (hi : i < gs.length) (hk : i < t.ks.length), Nd w gs[i] t.ks[i] := by
  obtain ⟨rfl, h⟩ := h
  obtain ⟨a, n, c, b, m, e, -, h1, h2, h3, h4, h5, h6⟩ := h.facts
  exact ⟨a, n, c, b, m, e, t.ks.map BT.g, h1, h2, h3, h4, h5, by simp, fun i hi hk => ⟨by simp, h6 _ (List.getElem_mem hk)⟩⟩
set_option maxRecDepth 100000 in
theorem find_any {w : World} {g : Nat} {t : BT} (h : Nd w g t) (key : ByteArray) (hs : Sorted t.ps) (hn : t.ps.length ≤ 1000000) :
    Calls Try.prog 59 #[.pointer (some ⟨g, 0, none⟩), .string key] w fun e w' => ∃ i : Nat, e = .returned (.tuple #[.int .i64 (i : Int), .bool (decide (∃ h : i < t.ps.length, t.ps[i].k = key))]) ∧ Place t.ps key i ∧ Below w.heap.size w w' := by
  obtain ⟨a, n, c, b, m, e, gs, -, c0, -, hp, -, -, -⟩ := h.facts
  have HC := Lib.hid (search_any _ a n c t.ps key w hp hs (by have := hp.1; omega))
  clear hp h hs
  unfold FN at HC
  go_enter Try.func59, Try.ntmps59
  go_wp2_with (go_at_call 78; refine HC.out.mono ?_; rintro e w2 ⟨i, rfl, hpl, hb⟩; have HPL := Lib.hid hpl; have HB := Lib.hid hb; clear hpl hb)
  go_ret2
  exact ⟨i, rfl, HPL.out, HB.out⟩
set_option maxRecDepth 100000 in
theorem leaf_any {w : World} {g : Nat} {t : BT} (h : Nd w g t) :
    Calls Try.prog 69 #[.pointer (some ⟨g, 0, none⟩)] w fun e w' => e = .returned (.bool (decide (t.ks.length = 0))) ∧ w = w' := by
  obtain ⟨a, n, c, b, m, e, gs, -, -, c1, -, hk, hl, -⟩ := h.facts
  have hm : m = t.ks.length := by rw [← hl]; exact hk.1.symm
  rw [← hm]
  clear hk hl h hm
  go_enter Try.func69, Try.ntmps69
  go_wp2_with fail
  go_ret
  refine ⟨congrArg (fun B => Ending.returned (Value.bool B)) (?_ : ((m : Int) == 0) = decide (m = 0)), rfl⟩
  rw [Bool.eq_iff_iff]
  simp
set_option maxRecDepth 100000 in
theorem kid_leaf {w : World} {g : Nat} {t : BT} (h : Nd w g t) (hk : t.ks.length = 0) (i : Int) :
    Calls Try.prog 49 #[.pointer (some ⟨g, 0, none⟩), .int .i64 i] w fun e w' => e = .returned (.pointer none) ∧ w = w' := by
  have HC := leaf_any h
  rw [decide_eq_true hk] at HC
  have HC := Lib.hid HC
  clear h hk
  go_enter Try.func49, Try.ntmps49
  go_wp2_with (go_at_call 69; refine HC.out.mono ?_; rintro e w2 ⟨rfl, rfl⟩)
  go_ret
  exact ⟨rfl, rfl⟩
set_option maxRecDepth 100000 in
theorem kid_any {w : World} {g : Nat} {t : BT} (h : Nd w g t) (i : Nat) (hi : i < t.ks.length) :
    Calls Try.prog 49 #[.pointer (some ⟨g, 0, none⟩), .int .i64 (i : Int)] w fun e w' => ∃ gk, e = .returned (.pointer (some ⟨gk, 0, none⟩)) ∧ Nd w gk t.ks[i] ∧ w = w' := by
  have HC := leaf_any h
  rw [decide_eq_false (by omega)] at HC
  have HC := Lib.hid HC
  obtain ⟨a, n, c, b, m, e, gs, -, -, c1, -, hk, hl, hn⟩ := h.facts
  have hig : i < gs.length := by rw [hl]; exact hi
  have hm := hk.1
  have hle : m ≤ e := hk.2.2.1
  have hle2 : e ≤ 9223372036854775807 := hk.2.2.2.1
  obtain ⟨bb, off, -, hbb, rfl, hcell⟩ := hk.cells (by omega)
  have ci := hcell i hig
  have HN := Lib.hid (hn i hig hi)
  obtain ⟨gk, hgk⟩ : ∃ gk, gk = gs[i]'hig := ⟨_, rfl⟩
  rw [← hgk] at ci HN
  have him : (i : Int) < (m : Int) := by omega
  clear h hk hl hn hcell hgk hm
  go_enter Try.func49, Try.ntmps49
  go_wp2_with (go_at_call 69; refine HC.out.mono ?_; rintro e w2 ⟨rfl, rfl⟩)
  go_ret
  exact ⟨gk, rfl, HN.out, rfl⟩
set_option maxRecDepth 100000 in
/-- as kid_any, in a later world: the child lies where it lay -/
theorem kid_under {w u : World} {g : Nat} {t : BT} (h : Nd w g t) (hb : Below w.heap.size w u) (i : Nat) (hi : i < t.ks.length) :
    Calls Try.prog 49 #[.pointer (some ⟨g, 0, none⟩), .int .i64 (i : Int)] u fun e w' => ∃ gk, e = .returned (.pointer (some ⟨gk, 0, none⟩)) ∧ Nd w gk t.ks[i] ∧ u = w' := by
  have HC := leaf_any (h.under hb)
  rw [decide_eq_false (by omega)] at HC
  have HC := Lib.hid HC
  have hgl := h.lt
  obtain ⟨a, n, c, b, m, e, gs, -, -, c1, -, hk, hl, hn⟩ := h.facts
  have hig : i < gs.length := by rw [hl]; exact hi
  have hm := hk.1
  have hle : m ≤ e := hk.2.2.1
  have hle2 : e ≤ 9223372036854775807 := hk.2.2.2.1
  obtain ⟨bb, off, -, hbb, rfl, hcell⟩ := hk.cells (by omega)
  have ci := (hb.cell (p := ⟨bb, off + i, none⟩) hbb).trans (hcell i hig)
  have c1 := (hb.cell (p := ⟨g, 1, none⟩) hgl).trans c1
  have HN := Lib.hid (hn i hig hi)
  obtain ⟨gk, hgk⟩ : ∃ gk, gk = gs[i]'hig := ⟨_, rfl⟩
  rw [← hgk] at ci HN
  have him : (i : Int) < (m : Int) := by omega
  clear h hk hl hn hcell hgk hm
  go_enter Try.func49, Try.ntmps49
  go_wp2_with (go_at_call 69; refine HC.out.mono ?_; rintro e w2 ⟨rfl, rfl⟩)
  go_ret
  exact ⟨gk, rfl, HN.out, rfl⟩
end Go.Proofs.Ytfgmhidgkemfoaa
namespace Go.Proofs.Ytfgmhidgkemfoaa
set_option linter.unusedSimpArgs false
set_option linter.unusedVariables false
mutual
/-- the pairs of a tree, in order -/
def BT.toL : BT → List KV
  | .mk _ ps ks => toLs ps ks
def toLs : List KV → List BT → List KV
  | ps, [] => ps
  | [], k :: ks => k.toL ++ toLs [] ks
  | p :: ps, k :: ks => k.toL ++ p :: toLs ps ks
end
theorem toL_mk (g : Nat) (ps : List KV) (ks : List BT) : (BT.mk g ps ks).toL = toLs ps ks := by rw [BT.toL]
theorem toL_eq (t : BT) : t.toL = toLs t.ps t.ks := by cases t; rw [BT.toL]; rfl
theorem toLs_leaf (ps : List KV) : toLs ps [] = ps := by unfold toLs; rfl
/-- what stands before the child i, and behind it -/
def preL : List KV → List BT → Nat → List KV
  | p :: ps, k :: ks, i + 1 => k.toL ++ p :: preL ps ks i
  | _, _, _ => []
def sufL : List KV → List BT → List KV
  | p :: ps, k :: ks => p :: (k.toL ++ sufL ps ks)
  | _, _ => []
theorem toLs_one (ps : List KV) (k : BT) (ks : List BT) (h : ks.length = ps.length) : toLs ps (k :: ks) = k.toL ++ sufL ps ks := by
  induction ks generalizing ps k with
  | nil =>
    have : ps = [] := List.eq_nil_of_length_eq_zero (by simpa using h.symm)
    subst this
    rw [toLs, toLs_leaf]
    rfl
  | cons k2 ks ih =>
    cases ps with
    | nil => simp at h
    | cons p ps =>
      rw [toLs, ih ps k2 (by simpa using h)]
      rfl
theorem toLs_split : ∀ (ps : List KV) (ks : List BT) (i : Nat) (hi : i < ks.length), ks.length = ps.length + 1 → toLs ps ks = preL ps ks i ++ (ks[i].toL ++ sufL (ps.drop i) (ks.drop (i + 1)))
  | ps, k :: ks, 0, _, h => by
    rw [toLs_one ps k ks (by simpa using h)]
    cases ps <;> simp [preL]
  | [], k :: ks, i + 1, hi, h => by exfalso; simp only [List.length_cons, List.length_nil] at h hi; omega
  | p :: ps, k :: ks, i + 1, hi, h => by
    have hi2 : i < ks.length := by simpa using hi
    rw [toLs, toLs_split ps ks i hi2 (by simpa using h)]
    simp [preL]
  | _, [], i, hi, _ => absurd hi (by simp)
/-- a node of a tree of height h: at most 8 pairs, children of one height, at least 3 pairs in each -/
def BT.Wf : Nat → BT → Prop
  | 0, _ => False
  | h + 1, t => t.ps.length ≤ 8 ∧ ((h = 0 ∧ t.ks = []) ∨ (h ≠ 0 ∧ t.ks.length = t.ps.length + 1 ∧ ∀ k ∈ t.ks, k.Wf h ∧ 3 ≤ k.ps.length))
theorem sorted_app {a b : List KV} : Sorted (a ++ b) ↔ Sorted a ∧ Sorted b ∧ ∀ x ∈ a, ∀ y ∈ b, cmpK x.k y.k < 0 := List.pairwise_append
theorem sorted_cons {x : KV} {b : List KV} : Sorted (x :: b) ↔ (∀ y ∈ b, cmpK x.k y.k < 0) ∧ Sorted b := List.pairwise_cons
theorem mem_pre : ∀ (ps : List KV) (ks : List BT) (i t : Nat) (ht : t < ps.length), t < i → i < ks.length → ps[t] ∈ preL ps ks i
  | p :: ps, k :: ks, i + 1, 0, _, _, _ => by simp [preL]
  | p :: ps, k :: ks, i + 1, t + 1, ht, hti, hi => by
    have := mem_pre ps ks i t (by simpa using ht) (by omega) (by simpa using hi)
    simp [preL, this]
  | p :: ps, [], i, t, _, _, hi => absurd hi (by simp)
  | [], _, _, t, ht, _, _ => absurd ht (by simp)
  | p :: ps, k :: ks, 0, t, _, h, _ => absurd h (by omega)
/-- the pairs of a node are among those of the tree, in order -/
theorem ps_sub : ∀ (ps : List KV) (ks : List BT), ks.length = ps.length + 1 → ps.Sublist (toLs ps ks)
  | [], _, _ => List.nil_sublist _
  | p :: ps, k :: ks, h => by
    rw [toLs]
    exact List.Sublist.trans ((ps_sub ps ks (by simpa using h)).cons_cons p) (List.sublist_append_right _ _)
  | p :: ps, [], h => by simp at h
theorem Sorted.ps {t : BT} {h : Nat} (hw : t.Wf h) (hs : Sorted t.toL) : Sorted t.ps := by
  cases h with
  | zero => exact hw.elim
  | succ h =>
    rw [toL_eq] at hs
    rcases hw.2 with ⟨-, e⟩ | ⟨-, e, -⟩
    · rw [e, toLs_leaf] at hs; exact hs
    · exact hs.sublist (ps_sub _ _ e)
end Go.Proofs.Ytfgmhidgkemfoaa
namespace Go.Proofs.Ytfgmhidgkemfoaa
open Go.RowKit
set_option linter.unusedSimpArgs false
set_option linter.unusedVariables false
/-- the last pair whose key is at most a key -/
def floorL (l : List KV) (key : ByteArray) : Option KV := (l.filter fun p => decide (cmpK p.k key ≤ 0)).getLast?
theorem floorL_app (a b : List KV) (key : ByteArray) : floorL (a ++ b) key = (floorL b key).or (floorL a key) := by
  unfold floorL
  rw [List.filter_append, List.getLast?_append]
theorem floorL_none (b : List KV) (key : ByteArray) (h : ∀ p ∈ b, 0 < cmpK p.k key) : floorL b key = none := by
  unfold floorL
  have : b.filter (fun p => decide (cmpK p.k key ≤ 0)) = [] := by
    rw [List.filter_eq_nil_iff]
    intro p hp
    have := h p hp
    simp
    omega
  rw [this]
  rfl
theorem floorL_all (a : List KV) (key : ByteArray) (h : ∀ p ∈ a, cmpK p.k key ≤ 0) : floorL a key = a.getLast? := by
  unfold floorL
  have : a.filter (fun p => decide (cmpK p.k key ≤ 0)) = a := by
    rw [List.filter_eq_self]
    intro p hp
    simpa using h p hp
  rw [this]
theorem cmpK_le {a b c : ByteArray} (h : cmpK a b < 0) (h2 : cmpK b c ≤ 0) : cmpK a c < 0 := by
  by_cases e : cmpK b c = 0
  · rw [(cmpK_eq b c).1 e] at h; exact h
  · exact cmpK_trans h (by omega)
theorem cmpK_ge {a b c : ByteArray} (h : 0 ≤ cmpK a c) (h2 : cmpK a b < 0) : 0 < cmpK b c := by
  have h3 := cmpK_flip b c
  have h4 := cmpK_flip a c
  have h5 := cmpK_flip a b
  by_cases e : 0 < cmpK b c
  · exact e
  · have := cmpK_le (a := a) h2 (by omega : cmpK b c ≤ 0)
    omega
/-- a leaf -/
theorem floor_leaf {ps : List KV} {key : ByteArray} {i : Nat} (hs : Sorted ps) (hp : Place ps key i) (hf : ¬ ∃ h : i < ps.length, ps[i].k = key) : floorL ps key = if i = 0 then none else ps[i - 1]? := by
  obtain ⟨hi, h1, h2⟩ := hp
  have e : ps = ps.take i ++ ps.drop i := (List.take_append_drop i ps).symm
  have hd : ∀ p ∈ ps.drop i, 0 < cmpK p.k key := by
    intro p hp
    obtain ⟨t, ht, rfl⟩ := List.mem_iff_getElem.1 hp
    rw [List.length_drop] at ht
    rw [List.getElem_drop]
    have h3 := h2 (i + t) (by omega) (by omega)
    by_cases h4 : cmpK ps[i + t].k key = 0
    · exfalso
      have h5 := (cmpK_eq _ _).1 h4
      by_cases h6 : t = 0
      · subst h6; exact hf ⟨by omega, h5⟩
      · have h7 := hs.lt (i := i) (j := i + t) (by omega) (by omega)
        rw [h5] at h7
        have h8 := h2 i (by omega) (Nat.le_refl _)
        omega
    · omega
  have ht : ∀ p ∈ ps.take i, cmpK p.k key ≤ 0 := by
    intro p hp
    obtain ⟨t, ht, rfl⟩ := List.mem_iff_getElem.1 hp
    rw [List.length_take] at ht
    rw [List.getElem_take]
    have := h1 t (by omega) (by omega)
    omega
  rw [e, floorL_app, floorL_none _ _ hd, Option.none_or, floorL_all _ _ ht, List.getLast?_eq_getElem?, List.length_take]
  by_cases h0 : i = 0
  · subst h0; simp
  · rw [if_neg h0, show min i ps.length - 1 = i - 1 by omega, List.take_append_drop, List.getElem?_take, if_pos (by omega)]
/-- what a place in a tree's block says of a root -/
def RootAt (w : World) (v : Value) : Option BT → Prop
  | none => v = .pointer none
  | some t => ∃ g, v = .pointer (some ⟨g, 0, none⟩) ∧ Nd w g t
def treeL : Option BT → List KV
  | none => []
  | some t => t.toL
/-- a Tree -/
def Tr (w : World) (g : Nat) (t : Option BT) : Prop := ∃ v, w.heap[g]? = some (.cells #[v, .int .i64 ((treeL t).length : Int)] 87 (0, 0)) ∧ RootAt w v t
theorem RootAt.under {w w' : World} (hb : Below w.heap.size w w') {v : Value} {t : Option BT} (h : RootAt w v t) : RootAt w' v t := by
  cases t with
  | none => exact h
  | some t => obtain ⟨g, h1, h2⟩ := h; exact ⟨g, h1, h2.under hb⟩
theorem Tr.under {w w' : World} (hb : Below w.heap.size w w') {g : Nat} {t : Option BT} (h : Tr w g t) : Tr w' g t := by
  obtain ⟨v, h1, h2⟩ := h
  exact ⟨v, (hb.block _ (Array.getElem?_eq_some_iff.1 h1).1).trans h1, h2.under hb⟩
theorem Tr.facts {w : World} {g : Nat} {t : Option BT} (h : Tr w g t) : ∃ v, w.cell? ⟨g, 0, none⟩ = some v ∧ w.cell? ⟨g, 1, none⟩ = some (.int .i64 ((treeL t).length : Int)) ∧ RootAt w v t := by
  obtain ⟨v, h1, h2⟩ := h
  exact ⟨v, cell_of_row w g 0 _ _ _ h1, cell_of_row w g 1 _ _ _ h1, h2⟩
/-- a tree that keeps the rules: its height -/
def TOk (t : Option BT) (h : Nat) : Prop := match t with
  | none => h = 0
  | some b => b.Wf h ∧ 1 ≤ b.ps.length
set_option maxRecDepth 100000 in
theorem len_any {w : World} {g : Nat} {t : Option BT} (h : Tr w g t) :
    Calls Try.prog 23 #[.pointer (some ⟨g, 0, none⟩)] w fun e w' => e = .returned (.int .i64 ((treeL t).length : Int)) ∧ w = w' := by
  obtain ⟨v, -, c1, -⟩ := h.facts
  obtain ⟨L, hL⟩ : ∃ L, L = (treeL t).length := ⟨_, rfl⟩
  rw [← hL] at c1 ⊢
  clear hL h
  go_enter Try.func23, Try.ntmps23
  go_wp2_with fail
  go_ret
  exact ⟨rfl, rfl⟩
end Go.Proofs.Ytfgmhidgkemfoaa
namespace Go.Proofs.Ytfgmhidgkemfoaa
set_option linter.unusedSimpArgs false
set_option linter.unusedVariables false
theorem preL_zero (ps : List KV) (ks : List BT) : preL ps ks 0 = [] := by cases ps <;> cases ks <;> rfl
theorem preL_snoc : ∀ (ps : List KV) (ks : List BT) (i : Nat) (hi : i < ps.length), i + 1 < ks.length → ∃ A, preL ps ks (i + 1) = A ++ [ps[i]]
  | p :: ps, k :: ks, 0, _, _ => ⟨k.toL, by rw [preL, preL_zero]; rfl⟩
  | p :: ps, k :: ks, i + 1, hi, hk => by
    obtain ⟨A, hA⟩ := preL_snoc ps ks i (by simpa using hi) (by simpa using hk)
    exact ⟨k.toL ++ p :: A, by rw [preL, hA]; simp⟩
  | [], _, _, hi, _ => absurd hi (by simp)
  | _ :: _, [], _, _, hk => absurd hk (by simp)
theorem sufL_cons (ps : List KV) (ks : List BT) (i : Nat) (hi : i < ps.length) (hk : ks.length = ps.length + 1) : ∃ B, sufL (ps.drop i) (ks.drop (i + 1)) = ps[i] :: B := by
  have e1 : ps.drop i = ps[i] :: ps.drop (i + 1) := List.drop_eq_getElem_cons hi
  have e2 : ks.drop (i + 1) = ks[i + 1]'(by omega) :: ks.drop (i + 2) := List.drop_eq_getElem_cons (by omega)
  rw [e1, e2]
  exact ⟨_, rfl⟩
theorem sufL_nil (ps : List KV) (ks : List BT) (i : Nat) (hi : ps.length ≤ i) : sufL (ps.drop i) (ks.drop (i + 1)) = [] := by
  rw [List.drop_eq_nil_of_le hi]
  rfl
theorem floor_inner {ps : List KV} {ks : List BT} {key : ByteArray} {i : Nat} (hl : ks.length = ps.length + 1) (hs : Sorted (toLs ps ks)) (hp : Place ps key i) (hik : i < ks.length) (hf : ¬ ∃ h : i < ps.length, ps[i].k = key) :
    floorL (toLs ps ks) key = (floorL ks[i].toL key).or (if i = 0 then none else ps[i - 1]?) ∧ Sorted ks[i].toL := by
  obtain ⟨hi, h1, h2⟩ := hp
  have e := toLs_split ps ks i hik hl
  rw [e] at hs ⊢
  obtain ⟨s1, s2, s3⟩ := sorted_app.1 hs
  obtain ⟨s4, s5, s6⟩ := sorted_app.1 s2
  have hd : ∀ p ∈ sufL (ps.drop i) (ks.drop (i + 1)), 0 < cmpK p.k key := by
    intro p hpp
    by_cases hip : i < ps.length
    · obtain ⟨B, hB⟩ := sufL_cons ps ks i hip hl
      rw [hB] at hpp s5
      have h3 := h2 i hip (Nat.le_refl _)
      have h4 : 0 < cmpK ps[i].k key := by
        by_cases h5 : cmpK ps[i].k key = 0
        · exact absurd ⟨hip, (cmpK_eq _ _).1 h5⟩ hf
        · omega
      rcases List.mem_cons.1 hpp with rfl | hpp
      · exact h4
      · exact cmpK_ge (by omega) ((sorted_cons.1 s5).1 p hpp)
    · rw [sufL_nil ps ks i (by omega)] at hpp
      cases hpp
  refine ⟨?_, s4⟩
  rw [floorL_app, floorL_app, floorL_none _ _ hd, Option.none_or]
  congr 1
  by_cases h0 : i = 0
  · subst h0
    rw [preL_zero, if_pos rfl]
    rfl
  · obtain ⟨j, rfl⟩ : ∃ j, i = j + 1 := ⟨i - 1, by omega⟩
    obtain ⟨A, hA⟩ := preL_snoc ps ks j (by omega) hik
    rw [hA] at s1 ⊢
    have h5 := h1 j (by omega) (by omega)
    rw [floorL_all, List.getLast?_append, if_neg h0]
    · rw [show j + 1 - 1 = j by omega, List.getElem?_eq_getElem (by omega)]
      rfl
    · intro p hpp
      rcases List.mem_append.1 hpp with hpp | hpp
      · have := (sorted_app.1 s1).2.2 p hpp ps[j] (by simp)
        have := cmpK_trans this h5
        omega
      · rw [List.mem_singleton.1 hpp]; omega
theorem floor_found {ps : List KV} {ks : List BT} {i : Nat} (hl : ks = [] ∨ ks.length = ps.length + 1) (hs : Sorted (toLs ps ks)) (hi : i < ps.length) : floorL (toLs ps ks) ps[i].k = some ps[i] := by
  have key : ∃ A B, toLs ps ks = A ++ ps[i] :: B := by
    rcases hl with rfl | hl
    · rw [toLs_leaf]
      exact ⟨ps.take i, ps.drop (i + 1), by rw [← List.drop_eq_getElem_cons hi, List.take_append_drop]⟩
    · have e := toLs_split ps ks i (by omega) hl
      obtain ⟨B, hB⟩ := sufL_cons ps ks i hi hl
      rw [hB] at e
      exact ⟨preL ps ks i ++ (ks[i]'(by omega)).toL, B, by rw [e]; simp⟩
  obtain ⟨A, B, e⟩ := key
  rw [e] at hs ⊢
  obtain ⟨s1, s2, s3⟩ := sorted_app.1 hs
  have s4 := (sorted_cons.1 s2).1
  have e2 : A ++ ps[i] :: B = (A ++ [ps[i]]) ++ B := by simp
  rw [e2, floorL_app, floorL_none B, Option.none_or, floorL_all, List.getLast?_append]
  · rfl
  · intro p hp
    rcases List.mem_append.1 hp with hp | hp
    · have := s3 p hp ps[i] (by simp); omega
    · rw [List.mem_singleton.1 hp, (cmpK_eq _ _).2 rfl]; omega
  · intro p hp
    have h1 := s4 p hp
    have h2 := cmpK_flip ps[i].k p.k
    omega
end Go.Proofs.Ytfgmhidgkemfoaa
namespace Go.Proofs.Ytfgmhidgkemfoaa
open Go.RowKit
set_option linter.unusedSimpArgs false
set_option linter.unusedVariables false
/-- a subtree of height k, or none -/
def Sub (s : Option BT) (k : Nat) : Prop := (s = none ∧ k = 0) ∨ ∃ b, s = some b ∧ b.Wf k
theorem TOk.sub {t : Option BT} {h : Nat} (ht : TOk t h) : Sub t h := by
  cases t with
  | none => exact .inl ⟨rfl, ht⟩
  | some b => exact .inr ⟨b, rfl, ht.1⟩
set_option maxRecDepth 100000 in
set_option maxHeartbeats 1000000 in
theorem height_any {w : World} {g : Nat} {t : Option BT} {H : Nat} (h : Tr w g t) (ht : TOk t H) (hH : H ≤ 100000) :
    Calls Try.prog 22 #[.pointer (some ⟨g, 0, none⟩)] w fun e w' => e = .returned (.int .i64 (H : Int)) ∧ Below w.heap.size w w' := by
  obtain ⟨v, c0, -, hr⟩ := h.facts
  have HR := Lib.hid hr
  have HS := Lib.hid ht.sub
  clear h hr ht
  cases t with
  | none =>
    have hv : v = .pointer none := HR.out
    subst hv
    have hH0 : H = 0 := by
      rcases HS.out with ⟨-, e⟩ | ⟨b, e, -⟩
      · exact e
      · cases e
    subst hH0
    clear HR HS
    go_enter Try.func22, Try.ntmps22
    go_wp2_with fail
    go_loopw [3, 4] (fun u v wr => u = .int .i64 0 ∧ v = .pointer none ∧ Below w.heap.size w wr) (fun _ _ _ => 0)
    case atStart => exact ⟨rfl, rfl, Below.refl _ _⟩
    case round =>
      obtain ⟨rfl, rfl, hb⟩ := hrel
      have HB := Lib.hid hb
      clear hb
      go_wp2_with fail
      go_ret
      exact ⟨rfl, HB.out⟩
  | some b0 =>
    obtain ⟨g0, hv, hn⟩ := HR.out
    subst hv
    have HN := Lib.hid hn
    have HW : Hid (b0.Wf H) := Lib.hid (by
      rcases HS.out with ⟨e, -⟩ | ⟨b, e, hw⟩
      · cases e
      · cases e; exact hw)
    clear HR HS hn
    go_enter Try.func22, Try.ntmps22
    go_wp2_with fail
    go_loopw [3, 4] (fun u v wr => ∃ (k : Nat) (s : Option BT) (x : Value), x = v ∧ k ≤ H ∧ u = .int .i64 ((H : Int) - (k : Int)) ∧ RootAt wr x s ∧ Sub s k ∧ Below w.heap.size w wr) (fun u _ _ => H - (intOf u).toNat)
    case atStart => exact ⟨H, some b0, _, rfl, Nat.le_refl _, (by first | (congr 1; done) | (congr 1; omega)), ⟨g0, rfl, HN.out⟩, .inr ⟨b0, rfl, HW.out⟩, Below.refl _ _⟩
    case round =>
      obtain ⟨k, s, x, hx, hk, rfl, hr, hs, hb⟩ := hrel
      subst hx
      have HB := Lib.hid hb
      rcases hs with ⟨rfl, rfl⟩ | ⟨b, rfl, hw⟩
      · have hx : x = .pointer none := hr
        subst hx
        clear hb hr
        go_wp2_with fail
        go_ret
        exact ⟨by first | (congr 2; done) | (congr 2; omega), HB.out⟩
      · obtain ⟨g1, rfl, hn⟩ := hr
        cases k with
        | zero => exact hw.elim
        | succ k =>
          have hwi : IntKind.i64.wrap ((H : Int) - ((k + 1 : Nat) : Int) + 1) = (H : Int) - (k : Int) := by rw [i64_id _ (by omega) (by omega)]; omega
          rcases hw.2 with ⟨e0, e1⟩ | ⟨e0, e1, e2⟩
          · have HK := Lib.hid (kid_leaf hn (by rw [e1]; rfl) 0)
            clear hb hn hw e1
            subst e0
            go_wp2_with (go_at_call 49; refine HK.out.mono ?_; rintro e w2 ⟨rfl, rfl⟩)
            go_roundw
            case rel => exact ⟨0, none, _, rfl, Nat.zero_le _, (by first | (congr 1; done) | (congr 1; omega)), rfl, .inl ⟨rfl, rfl⟩, HB.out⟩
            case measure => simp [intOf]; omega
          · have h0 : 0 < b.ks.length := by omega
            have HK := Lib.hid (kid_any hn 0 h0)
            have HW2 := Lib.hid (e2 _ (List.getElem_mem h0)).1
            clear hb hn hw e1 e2
            go_wp2_with (go_at_call 49; refine HK.out.mono ?_; rintro e w2 ⟨gk, rfl, hnk, rfl⟩; have HNK := Lib.hid hnk; clear hnk)
            go_roundw
            case rel => exact ⟨k, some (b.ks[0]'h0), _, rfl, by omega, (by first | (congr 1; done) | (congr 1; omega)), ⟨gk, rfl, HNK.out⟩, .inr ⟨_, rfl, HW2.out⟩, HB.out⟩
            case measure => simp [intOf]; omega
end Go.Proofs.Ytfgmhidgkemfoaa
namespace Go.Proofs.Ytfgmhidgkemfoaa
open Go.RowKit
set_option linter.unusedSimpArgs false
set_option linter.unusedVariables false
attribute [local go_sem ↓] exec_loadPair exec_at_zeroP exec_at_succP Go.wp_at_zero Go.wp_at_succ
def emptyS : ByteArray := ⟨#[]⟩
/-- the cells of a pair, or of none -/
def fkv : Option KV → KV
  | none => ⟨emptyS, emptyS⟩
  | some p => p
def kcells (p : KV) : Array Value := #[.string p.k, .string p.v]
theorem range_kv {w : World} {g : Nat} {p : KV} {t : TypeId} (h : w.heap[g]? = some (.cells (kcells p) t (0, 0))) : w.rangeAt g 0 p.cells := fun j u hu => by
  rw [Nat.zero_add, cell_of_row w g j _ _ _ h]
  simpa [kcells, KV.cells] using hu
theorem kcells_info : (Try.prog.info? 65).map (·.size) = some 2 := by kernel_rfl
/-- a block that holds a pair -/
def PB (w : World) (g : Nat) : Prop := ∃ p : KV, w.heap[g]? = some (.cells (kcells p) 65 (0, 0))
def storePairA (v x : Value) : Sem Next := do Instr.storeAt 65 v x; pure .skip
theorem exec_storePair (ρ : Operand → Value) (d : Option Tmp) (x y : Operand) (ty : TypeId) (pos : String) (af : Array Edge) (gd : Option (Nat × Bool)) :
    execOp ρ { dst := d, op := .store 65 x y, type := ty, pos := pos, after := af, guard := gd } = storePairA (ρ x) (ρ y) := rfl
theorem run_storePair (w : World) (g : Nat) (k v : ByteArray) (h : PB w g) : (storePairA (.pointer (some ⟨g, 0, none⟩)) (.agg #[.string k, .string v])).run Try.prog w = .ok .skip (w.setRow g #[.string k, .string v]) := by
  obtain ⟨old, hg⟩ := h
  unfold storePairA
  simp only [Instr.storeAt, Instr.sureAddr, Sem.run_bind, Sem.run_pure, Result.andThen_ok, run_storeVar_row w g 65 65 _ #[.string k, .string v] hg kcells_info rfl (by simp [Value.oneCell'])]
theorem results_floor (tmps : Array Value) (w : World) (g : Nat) (x y : Value) (b : Bool) (hp : tmps.getD 4 undef = .pointer (some ⟨g, 0, none⟩)) (hb : tmps.getD 5 undef = .bool b) (hg : w.heap[g]? = some (.cells #[x, y] 65 (0, 0))) :
    (results Try.f35 tmps).run Try.prog w = .ok (.tuple #[.agg #[x, y], .bool b]) w := by
  rw [results_cell_tmp (p := 4) (u := 5) (ty := 65) rfl, hp, hb]
  simp only [asAddr, Sem.run_pure, Result.andThen_ok]
  rw [run_loadVar_row w g 65 65 #[x, y] (0, 0) _ hg Try.underlying65 rfl kcells_info]
  rfl
attribute [local go_sem ↓] exec_storePair
attribute [local go_sem] run_storePair
set_option maxRecDepth 100000 in
set_option maxHeartbeats 2000000 in
theorem floor_any {w : World} {g : Nat} {t : Option BT} {H : Nat} (h : Tr w g t) (ht : TOk t H) (hs : Sorted (treeL t)) (key : ByteArray) :
    Calls Try.prog 35 #[.pointer (some ⟨g, 0, none⟩), .string key] w fun e w' => e = .returned (.tuple #[.agg (kcells (fkv (floorL (treeL t) key))), .bool (floorL (treeL t) key).isSome]) ∧ Below w.heap.size w w' := by
  obtain ⟨v, c0, -, hr⟩ := h.facts
  have hgl : g < w.heap.size := by obtain ⟨_, h1, _⟩ := h; exact (Array.getElem?_eq_some_iff.1 h1).1
  have HR := Lib.hid hr
  have HS := Lib.hid ht.sub
  have HSO := Lib.hid hs
  obtain ⟨F, hF⟩ : ∃ F, F = floorL (treeL t) key := ⟨_, rfl⟩
  rw [← hF]
  have HF := Lib.hid hF
  clear h hr ht hs hF
  go_enter Try.func35, Try.ntmps35
  go_upto_region 2 with fail
  obtain ⟨w1, hw1⟩ : ∃ w1, w1 = (w.alloc (.cells #[.string ⟨#[]⟩, .string ⟨#[]⟩] 65)).alloc (.cells #[.string ⟨#[]⟩, .string ⟨#[]⟩] 65) := ⟨_, rfl⟩
  obtain ⟨g4, hg4⟩ : ∃ g4, g4 = w.heap.size := ⟨_, rfl⟩
  obtain ⟨g6, hg6⟩ : ∃ g6, g6 = g4 + 1 := ⟨_, rfl⟩
  have hb1 : Below w.heap.size w w1 := by rw [hw1]; exact ((Below.refl _ _).alloc (Nat.le_refl _) _).alloc (by simp) _
  have h4 : w1.heap[g4]? = some (.cells (kcells (fkv none)) 65 (0, 0)) := by rw [hw1, hg4]; exact heap_old (heap_new rfl)
  have h6 : w1.heap[g6]? = some (.cells (kcells (fkv none)) 65 (0, 0)) := by rw [hw1, hg6, hg4]; exact heap_new (by simp)
  have hz : w.heap.size ≤ g4 ∧ w.heap.size ≤ g6 ∧ g4 ≠ g6 := by omega
  rw [← hw1]
  rw [← hg4, ← hg6]
  have c01 : w1.cell? ⟨g, 0, none⟩ = some v := (hb1.cell (p := ⟨g, 0, none⟩) hgl).trans c0
  have HB1 := Lib.hid hb1
  have H4 := Lib.hid h4
  have H6 := Lib.hid h6
  have HZ := Lib.hid hz
  clear hw1 hg4 hg6 hb1 h4 h6 hz c0
  go_upto_region 3 with fail
  go_wp2_with fail
  go_loopg [7, 8, 9, 10] H (fun k u7 u8 u9 u10 wr => ∃ (s : Option BT) (x : Value) (f : Option KV), x = u8 ∧ u7 = .bool f.isSome ∧ RootAt w x s ∧ Sub s k ∧ Sorted (treeL s) ∧ F = (floorL (treeL s) key).or f ∧ Below w.heap.size w wr ∧ wr.heap[g4]? = some (.cells (kcells (fkv none)) 65 (0, 0)) ∧ wr.heap[g6]? = some (.cells (kcells (fkv f)) 65 (0, 0)))
  case atStart => exact ⟨t, v, none, rfl, rfl, HR.out, HS.out, HSO.out, by rw [HF.out]; cases floorL (treeL t) key <;> rfl, HB1.out, H4.out, H6.out⟩
  case round =>
    clear HB1 H4 H6 HR HS HSO HF c01
    obtain ⟨s, x, f, hx, rfl, hr, hs, hso, hF, hb, h4, h6⟩ := hrel
    subst hx
    have HF := Lib.hid hF
    have HB := Lib.hid hb
    have H4 := Lib.hid h4
    have H6 := Lib.hid h6
    rcases hs with ⟨rfl, rfl⟩ | ⟨b, rfl, hw⟩
    · have hx : x = .pointer none := hr
      subst hx
      have ld6 := run_loadPair (range_kv h6)
      clear hb hr hF h4 h6
      have p4 : PB wr g4 := ⟨_, H4.out⟩
      go_wp2_with fail
      refine bodyPost_ret (results_floor _ _ g4 _ _ f.isSome rfl rfl (setRow_heap _ _ _ _ _ _ H4.out)) rfl ⟨?_, ((Kept.of_below (fun _ => False) HB.out).setRow (fun h => by have := HZ.out; omega) _).below (Nat.le_refl _) (fun _ _ h => h)⟩
      have e : F = f := by rw [HF.out]; rfl
      rw [e]
      rfl
    · obtain ⟨g1, rfl, hn⟩ := hr
      cases gk with
      | zero => exact hw.elim
      | succ k =>
      have HN := Lib.hid hn
      have HSP := Lib.hid (hso : Sorted b.toL)
      have HWF := Lib.hid hw
      have HFI : Hid (∀ u, Below w.heap.size w u → Calls Try.prog 59 #[.pointer (some ⟨g1, 0, none⟩), .string key] u fun e w' => ∃ i : Nat, e = .returned (.tuple #[.int .i64 (i : Int), .bool (decide (∃ h : i < b.ps.length, b.ps[i].k = key))]) ∧ Place b.ps key i ∧ Below u.heap.size u w') := Lib.hid (fun u hu => find_any (hn.under hu) key (Sorted.ps hw hso) (by have := hw.1; omega))
      clear hn hso hw hb hF h4 h6
      go_upto_region 6 with (go_at_call 59; refine (HFI.out _ HB.out).mono ?_; rintro e w2 ⟨i, rfl, hpl, hb2⟩; have HPL := Lib.hid hpl; have HB2 := Lib.hid (HB.out.trans (hb2.mono HB.out.size)); have H42 := Lib.hid ((hb2.block _ (heap_lt H4.out)).trans H4.out); have H62 := Lib.hid ((hb2.block _ (heap_lt H6.out)).trans H6.out); clear hpl hb2)
      obtain ⟨a, n, c, b2, m, e, gs, -, c0, c1, hps, -, -, -⟩ := (HN.out.under HB2.out).facts
      have hpsl := hps.1
      have hnc : n ≤ c := hps.2.2.1
      have hnm : c ≤ 9223372036854775807 := hps.2.2.2.1
      have hpl := HPL.out
      have h4b := H42.out
      have h6b := H62.out
      have hw := HWF.out
      have hi8 : i ≤ 8 := by have := hw.1; have := hpl.1; omega
      have hi1 : (i : Int) ≤ 8 := by omega
      by_cases hfd : ∃ h : i < b.ps.length, b.ps[i].k = key
      · have hd1 : decide (∃ h : i < b.ps.length, b.ps[i].k = key) = true := decide_eq_true hfd
        rw [hd1]
        obtain ⟨hib, hik⟩ := hfd
        have hin : (i : Int) < (n : Int) := by omega
        obtain ⟨bb, off, -, hbb, rfl, hcell⟩ := hps.at (by omega)
        have hr := hcell i hib
        obtain ⟨kv, hkv⟩ : ∃ kv, kv = b.ps[i]'hib := ⟨_, rfl⟩
        rw [← hkv] at hr
        obtain ⟨ob, hob⟩ : ∃ ob, ob = off + i * 2 := ⟨_, rfl⟩
        rw [← hob] at hr
        have hob2 : off + i * 2 = ob := hob.symm
        have ld0 := run_loadPair hr
        have p4 : PB w2 g4 := ⟨_, h4b⟩
        have HFV : Hid (F = some kv) := Lib.hid (by
          rw [HF.out]
          have hl : b.ks = [] ∨ b.ks.length = b.ps.length + 1 := by
            rcases hw.2 with ⟨-, e1⟩ | ⟨-, e1, -⟩
            · exact .inl e1
            · exact .inr e1
          have := floor_found hl (by rw [← toL_eq]; exact HSP.out) hib
          rw [← toL_eq, hik] at this
          show (floorL b.toL key).or f = _
          rw [this, hkv]
          rfl)
        clear hcell hr hkv hob hps h4b h6b hpl hd1 hik hw
        go_wp2_with fail
        refine bodyPost_ret (results_floor _ _ g4 _ _ true rfl rfl (setRow_heap _ _ _ _ _ _ H42.out)) rfl ⟨?_, ((Kept.of_below (fun _ => False) HB2.out).setRow (fun h => by have := HZ.out; omega) _).below (Nat.le_refl _) (fun _ _ h => h)⟩
        rw [HFV.out]
        rfl
      · have hd1 : decide (∃ h : i < b.ps.length, b.ps[i].k = key) = false := decide_eq_false hfd
        rw [hd1]
        rcases hw.2 with ⟨e0, e1⟩ | ⟨e0, e1, e2⟩
        · subst e0
          have HE1 := Lib.hid e1
          have hfl : F = (if i = 0 then none else b.ps[i - 1]?).or f := by
            rw [HF.out]
            show (floorL b.toL key).or f = _
            rw [toL_eq, e1, toLs_leaf, floor_leaf (Sorted.ps hw HSP.out) hpl hfd]
          clear hw e1 hd1
          by_cases hi0 : i = 0
          · have HFF : Hid (F = (floorL (treeL none) key).or f) := Lib.hid (by rw [hfl, if_pos hi0]; rfl)
            clear hfl hfd
            subst hi0
            have HB3 := HB2
            have H63 := Lib.hid h6b
            have H43 := Lib.hid h4b
            clear hps h4b h6b hpl
            go_upto_region 10 with fail
            obtain ⟨w3, hw3⟩ : ∃ w3, w3 = w2 := ⟨_, rfl⟩
            rw [← hw3] at HB3 H63 H43 ⊢
            clear hw3
            have HK := Lib.hid (kid_leaf (HN.out.under HB3.out) (by rw [HE1.out]; rfl) (0 : Int))
            go_wp2_with (go_at_call 49; refine HK.out.mono ?_; rintro e w4 ⟨rfl, rfl⟩)
            go_roundg 0
            case measure => omega
            case rel => exact ⟨none, _, f, rfl, by first | rfl | simp, rfl, .inl ⟨rfl, rfl⟩, List.Pairwise.nil, HFF.out, HB3.out, H43.out, H63.out⟩
          · have hfl2 : F = (b.ps[i - 1]?).or f := by rw [hfl, if_neg hi0]
            have HF3 := Lib.hid hfl2
            clear hfl hfl2 hfd
            have hi0 : (0 : Int) < (i : Int) := by omega
            have him : i - 1 < b.ps.length := by have := hpl.1; omega
            have hwm : IntKind.i64.wrap ((i : Int) - 1) = ((i - 1 : Nat) : Int) := by rw [i64_id _ (by omega) (by omega)]; omega
            obtain ⟨j, hj⟩ : ∃ j, j = i - 1 := ⟨_, rfl⟩
            rw [← hj] at him hwm
            have hjn : (j : Int) < (n : Int) := by omega
            obtain ⟨bb, off, -, hbb, rfl, hcell⟩ := hps.at (by omega)
            have hr := hcell j him
            obtain ⟨kv, hkv⟩ : ∃ kv, kv = b.ps[j]'him := ⟨_, rfl⟩
            rw [← hkv] at hr
            obtain ⟨ob, hob⟩ : ∃ ob, ob = off + j * 2 := ⟨_, rfl⟩
            rw [← hob] at hr
            have hob2 : off + j * 2 = ob := hob.symm
            have ld0 := run_loadPair hr
            have HKV := Lib.hid hkv
            have HJ := Lib.hid hj
            have HFF : Hid (F = (floorL (treeL none) key).or (some kv)) := Lib.hid (by rw [HF3.out, ← HJ.out, List.getElem?_eq_getElem (by have := HPL.out.1; omega), ← HKV.out]; rfl)
            have p6 : PB w2 g6 := ⟨_, h6b⟩
            have HB3 : Hid (Below w.heap.size w (w2.setRow g6 #[.string kv.k, .string kv.v])) := Lib.hid (((Kept.of_below (fun _ => False) HB2.out).setRow (fun h => by have := HZ.out; omega) _).below (Nat.le_refl _) (fun _ _ h => h))
            have H63 : Hid ((w2.setRow g6 #[.string kv.k, .string kv.v]).heap[g6]? = some (.cells (kcells (fkv (some kv))) 65 (0, 0))) := Lib.hid (setRow_heap _ _ _ _ _ _ h6b)
            have H43 : Hid ((w2.setRow g6 #[.string kv.k, .string kv.v]).heap[g4]? = some (.cells (kcells (fkv none)) 65 (0, 0))) := Lib.hid ((setRow_other _ _ _ _ (by have := HZ.out; omega)).trans h4b)
            clear hcell hr hkv hob hj hps h4b h6b hpl
            go_upto_region 10 with fail
            obtain ⟨w3, hw3⟩ : ∃ w3, w3 = w2.setRow g6 #[.string kv.k, .string kv.v] := ⟨_, rfl⟩
            rw [← hw3] at HB3 H63 H43 ⊢
            clear hw3 ld0 p6
            have HK := Lib.hid (kid_leaf (HN.out.under HB3.out) (by rw [HE1.out]; rfl) (i : Int))
            go_wp2_with (go_at_call 49; refine HK.out.mono ?_; rintro e w4 ⟨rfl, rfl⟩)
            go_roundg 0
            case measure => omega
            case rel => exact ⟨none, _, some kv, rfl, by first | rfl | simp, rfl, .inl ⟨rfl, rfl⟩, List.Pairwise.nil, HFF.out, HB3.out, H43.out, H63.out⟩
        · have hik : i < b.ks.length := by have := hpl.1; omega
          have hfl := floor_inner e1 (by rw [← toL_eq]; exact HSP.out) hpl hik hfd
          have HSK := Lib.hid hfl.2
          have HWK := Lib.hid (e2 _ (List.getElem_mem hik)).1
          have hfl : F = (floorL (b.ks[i]'hik).toL key).or ((if i = 0 then none else b.ps[i - 1]?).or f) := by
            rw [HF.out]
            show (floorL b.toL key).or f = _
            rw [toL_eq, hfl.1, Option.or_assoc]
          clear hw e1 e2 hd1 e0
          by_cases hi0 : i = 0
          · have hfl2 : F = (floorL (b.ks[i]'hik).toL key).or f := by rw [hfl, if_pos hi0]; rfl
            have HFF0 := Lib.hid hfl2
            clear hfl hfl2 hfd
            subst hi0
            have HFF : Hid (F = (floorL (treeL (some (b.ks[0]'hik))) key).or f) := Lib.hid HFF0.out
            have HB3 := HB2
            have H63 := Lib.hid h6b
            have H43 := Lib.hid h4b
            clear hps h4b h6b hpl
            go_upto_region 10 with fail
            obtain ⟨w3, hw3⟩ : ∃ w3, w3 = w2 := ⟨_, rfl⟩
            rw [← hw3] at HB3 H63 H43 ⊢
            clear hw3
            have HK := Lib.hid (kid_under HN.out HB3.out 0 hik)
            go_wp2_with (go_at_call 49; refine HK.out.mono ?_; rintro e w4 ⟨gq, rfl, hnq, rfl⟩; have HNQ := Lib.hid hnq; clear hnq)
            go_roundg k
            case measure => omega
            case rel => exact ⟨some (b.ks[0]'hik), _, f, rfl, by first | rfl | simp, ⟨gq, rfl, HNQ.out⟩, .inr ⟨_, rfl, HWK.out⟩, HSK.out, HFF.out, HB3.out, H43.out, H63.out⟩
          · have hfl2 : F = (floorL (b.ks[i]'hik).toL key).or ((b.ps[i - 1]?).or f) := by rw [hfl, if_neg hi0]
            have HF3 := Lib.hid hfl2
            clear hfl hfl2 hfd
            have hi0 : (0 : Int) < (i : Int) := by omega
            have him : i - 1 < b.ps.length := by have := hpl.1; omega
            have hwm : IntKind.i64.wrap ((i : Int) - 1) = ((i - 1 : Nat) : Int) := by rw [i64_id _ (by omega) (by omega)]; omega
            obtain ⟨j, hj⟩ : ∃ j, j = i - 1 := ⟨_, rfl⟩
            rw [← hj] at him hwm
            have hjn : (j : Int) < (n : Int) := by omega
            obtain ⟨bb, off, -, hbb, rfl, hcell⟩ := hps.at (by omega)
            have hr := hcell j him
            obtain ⟨kv, hkv⟩ : ∃ kv, kv = b.ps[j]'him := ⟨_, rfl⟩
            rw [← hkv] at hr
            obtain ⟨ob, hob⟩ : ∃ ob, ob = off + j * 2 := ⟨_, rfl⟩
            rw [← hob] at hr
            have hob2 : off + j * 2 = ob := hob.symm
            have ld0 := run_loadPair hr
            have HKV := Lib.hid hkv
            have HJ := Lib.hid hj
            have HFF : Hid (F = (floorL (treeL (some (b.ks[i]'hik))) key).or (some kv)) := Lib.hid (by rw [HF3.out, ← HJ.out, List.getElem?_eq_getElem (by have := HPL.out.1; omega), ← HKV.out]; rfl)
            have p6 : PB w2 g6 := ⟨_, h6b⟩
            have HB3 : Hid (Below w.heap.size w (w2.setRow g6 #[.string kv.k, .string kv.v])) := Lib.hid (((Kept.of_below (fun _ => False) HB2.out).setRow (fun h => by have := HZ.out; omega) _).below (Nat.le_refl _) (fun _ _ h => h))
            have H63 : Hid ((w2.setRow g6 #[.string kv.k, .string kv.v]).heap[g6]? = some (.cells (kcells (fkv (some kv))) 65 (0, 0))) := Lib.hid (setRow_heap _ _ _ _ _ _ h6b)
            have H43 : Hid ((w2.setRow g6 #[.string kv.k, .string kv.v]).heap[g4]? = some (.cells (kcells (fkv none)) 65 (0, 0))) := Lib.hid ((setRow_other _ _ _ _ (by have := HZ.out; omega)).trans h4b)
            clear hcell hr hkv hob hj hps h4b h6b hpl
            go_upto_region 10 with fail
            obtain ⟨w3, hw3⟩ : ∃ w3, w3 = w2.setRow g6 #[.string kv.k, .string kv.v] := ⟨_, rfl⟩
            rw [← hw3] at HB3 H63 H43 ⊢
            clear hw3 ld0 p6
            have HK := Lib.hid (kid_under HN.out HB3.out i hik)
            go_wp2_with (go_at_call 49; refine HK.out.mono ?_; rintro e w4 ⟨gq, rfl, hnq, rfl⟩; have HNQ := Lib.hid hnq; clear hnq)
            go_roundg k
            case measure => omega
            case rel => exact ⟨some (b.ks[i]'hik), _, some kv, rfl, by first | rfl | simp, ⟨gq, rfl, HNQ.out⟩, .inr ⟨_, rfl, HWK.out⟩, HSK.out, HFF.out, HB3.out, H43.out, H63.out⟩
end Go.Proofs.Ytfgmhidgkemfoaa
namespace Go.Proofs.Ytfgmhidgkemfoaa
open Go.RowKit
set_option linter.unusedSimpArgs false
set_option linter.unusedVariables false
attribute [local go_sem ↓] exec_loadPair exec_storePair exec_at_zeroP exec_at_succP Go.wp_at_zero Go.wp_at_succ
attribute [local go_sem] run_storePair
theorem str_beq (a b : ByteArray) : (a.toList == b.toList) = decide (a = b) := by
  rw [ByteArray.toList_eq, ByteArray.toList_eq, Bool.eq_iff_iff]
  simp only [beq_iff_eq, decide_eq_true_eq]
  constructor
  · intro h
    obtain ⟨⟨la⟩⟩ := a
    obtain ⟨⟨lb⟩⟩ := b
    simp only at h
    rw [h]
  · intro h; rw [h]
/-- the value of a key, off the greatest pair up to it -/
def gotF (F : Option KV) (key : ByteArray) : Option ByteArray := match F with
  | some p => if p.k = key then some p.v else none
  | none => none
def strO : Option ByteArray → ByteArray
  | some s => s
  | none => emptyS
set_option maxRecDepth 100000 in
set_option maxHeartbeats 1000000 in
theorem get_any {w : World} {g : Nat} {t : Option BT} {H : Nat} (h : Tr w g t) (ht : TOk t H) (hs : Sorted (treeL t)) (key : ByteArray) :
    Calls Try.prog 36 #[.pointer (some ⟨g, 0, none⟩), .string key] w fun e w' => e = .returned (.tuple #[.string (strO (gotF (floorL (treeL t) key) key)), .bool (gotF (floorL (treeL t) key) key).isSome]) ∧ Below w.heap.size w w' := by
  have HC := Lib.hid (floor_any h ht hs key)
  obtain ⟨F, hF⟩ : ∃ F, F = floorL (treeL t) key := ⟨_, rfl⟩
  rw [← hF] at HC ⊢
  clear hF h ht hs
  cases F with
  | none =>
    have HC2 : Hid (Calls Try.prog 35 #[.pointer (some ⟨g, 0, none⟩), .string key] w fun e w' => e = .returned (.tuple #[.agg #[.string ⟨#[]⟩, .string ⟨#[]⟩], .bool false]) ∧ Below w.heap.size w w') := HC
    clear HC
    go_enter Try.func36, Try.ntmps36
    go_wp2_with (first
      | (go_at_call 35; refine HC2.out.mono ?_; rintro e w2 ⟨rfl, hb⟩; have p6 : PB (w2.alloc (.cells #[.string ⟨#[]⟩, .string ⟨#[]⟩] 65)) w2.heap.size := ⟨⟨⟨#[]⟩, ⟨#[]⟩⟩, heap_new rfl⟩; have HB := Lib.hid hb; clear hb))
    go_ret2
    exact ⟨rfl, ((((Kept.of_below (fun _ => False) HB.out).alloc _).setRow (fun h => by have := HB.out.size; omega) _).below (Nat.le_refl _) (fun _ _ h => h))⟩
  | some p =>
    obtain ⟨pk, pv⟩ := p
    have HC2 : Hid (Calls Try.prog 35 #[.pointer (some ⟨g, 0, none⟩), .string key] w fun e w' => e = .returned (.tuple #[.agg #[.string pk, .string pv], .bool true]) ∧ Below w.heap.size w w') := HC
    clear HC
    go_enter Try.func36, Try.ntmps36
    go_upto_region 2 with (first
      | (go_at_call 35; refine HC2.out.mono ?_; rintro e w2 ⟨rfl, hb⟩; have p6 : PB (w2.alloc (.cells #[.string ⟨#[]⟩, .string ⟨#[]⟩] 65)) w2.heap.size := ⟨⟨⟨#[]⟩, ⟨#[]⟩⟩, heap_new rfl⟩; have HB := Lib.hid hb; clear hb))
    obtain ⟨w3, hw3⟩ : ∃ w3, w3 = (w2.alloc (.cells #[.string ⟨#[]⟩, .string ⟨#[]⟩] 65)).setRow w2.heap.size #[.string pk, .string pv] := ⟨_, rfl⟩
    obtain ⟨g6, hg6⟩ : ∃ g6, g6 = w2.heap.size := ⟨_, rfl⟩
    have hrow : w3.heap[g6]? = some (.cells #[.string pk, .string pv] 65 (0, 0)) := by rw [hw3, hg6]; exact setRow_heap _ _ _ _ _ _ (heap_new rfl)
    have hb3 : Below w.heap.size w w3 := by
      rw [hw3]
      exact ((((Kept.of_below (fun _ => False) HB.out).alloc _).setRow (fun h => by have := HB.out.size; omega) _).below (Nat.le_refl _) (fun _ _ h => h))
    have c0 : w3.cell? ⟨g6, 0, none⟩ = some (.string pk) := cell_of_row w3 g6 0 _ _ _ hrow
    have c1 : w3.cell? ⟨g6, 1, none⟩ = some (.string pv) := cell_of_row w3 g6 1 _ _ _ hrow
    rw [← hw3, ← hg6]
    have HB3 := Lib.hid hb3
    clear hw3 hg6 hrow hb3 p6
    by_cases hk : pk = key
    · subst hk
      go_wp2_with fail
      go_ret2
      exact ⟨by simp [gotF, strO], HB3.out⟩
    · have hk2 : (pk.toList == key.toList) = false := by rw [str_beq]; exact decide_eq_false hk
      go_wp2_with fail
      go_ret2
      exact ⟨by simp [gotF, strO, hk, emptyS], HB3.out⟩
end Go.Proofs.Ytfgmhidgkemfoaa
namespace Go.Proofs.Ytfgmhidgkemfoaa
open Go.RowKit
set_option linter.unusedSimpArgs false
set_option linter.unusedVariables false
theorem infoP : (Try.prog.info? 65).map (fun i => (i.zero, i.size, i.bytes)) = some (some (.agg #[.string ⟨#[]⟩, .string ⟨#[]⟩]), 2, 32) := by kernel_rfl
theorem infoN : (Try.prog.info? 85).map (fun i => (i.zero, i.size, i.bytes)) = some (some (.pointer none), 1, 8) := by kernel_rfl
theorem pcells_one (ps : List KV) : ∀ u ∈ pcells ps, u.oneCell' = true := by
  intro u hu
  unfold pcells at hu
  obtain ⟨p, -, hp⟩ := List.mem_flatMap.1 hu
  simp [KV.cells] at hp
  rcases hp with rfl | rfl <;> rfl
theorem pnts_one (gs : List Nat) : ∀ u ∈ pnts gs, u.oneCell' = true := by
  intro u hu
  obtain ⟨g, -, rfl⟩ := List.mem_map.1 hu
  rfl
/-- a row of pairs of one's own, in new memory -/
def MadeP (w : World) (v : Value) (ps : List KV) (w' : World) : Prop := ∃ k, Own w' 65 2 k v ps.length (pcells ps) ∧ (∀ j, k = some j → w.heap.size ≤ j) ∧ Below w.heap.size w w'
def MadeN (w : World) (v : Value) (gs : List Nat) (w' : World) : Prop := ∃ k, Own w' 85 1 k v gs.length (pnts gs) ∧ (∀ j, k = some j → w.heap.size ≤ j) ∧ Below w.heap.size w w'
theorem Own.emptyP (w : World) : Own (w.alloc (.cells #[] 65)) 65 2 (some w.heap.size) (.slice (some ⟨w.heap.size, 0, none⟩) 0 0) 0 [] := Own.made w 65 2 #[] 0 (Nat.zero_le _) rfl
theorem Own.emptyN (w : World) : Own (w.alloc (.cells #[] 85)) 85 1 (some w.heap.size) (.slice (some ⟨w.heap.size, 0, none⟩) 0 0) 0 [] := Own.made w 85 1 #[] 0 (Nat.zero_le _) rfl
set_option maxRecDepth 100000 in
set_option maxHeartbeats 400000 in
theorem clonePs_any (D : Nat → Prop) (a : Option Addr) (n c : Nat) (ps : List KV) (w : World) (hB : Ps D w a n c ps) (hn : n ≤ 1000000) :
    Calls Try.prog 81 #[.slice a n c] w fun e w' => ∃ v, e = .returned v ∧ MadeP w v ps w' := by
  obtain ⟨i0, hi, hz0, hz1, hz2⟩ := info_parts infoP
  cases a with
  | none =>
    have ke := fun (w : World) => Lib.run_eql_slice_nil (P := Try.prog) w 26 65 none n c 0 0 Try.underlying26
    have h0 := hB.2.2.2.2.1 rfl
    have h1 := hB.2.2.1
    subst h0
    obtain rfl : n = 0 := by omega
    obtain rfl : ps = [] := List.eq_nil_of_length_eq_zero hB.1
    clear hB
    go_enter Try.func81, Try.ntmps81
    go_wp2
    go_ret
    exact ⟨_, rfl, none, Own.nil _ _ _, (fun _ h => by cases h), Below.refl _ _⟩
  | some ad =>
    have HB := Lib.hid hB
    have HL := Lib.hid hB.1
    have ke := fun (w : World) => Lib.run_eql_slice_nil (P := Try.prog) w 26 65 (some ad) n c 0 0 Try.underlying26
    clear hB
    go_enter Try.func81, Try.ntmps81
    go_wp2_with (at_builtin; refine wpList_append_any _ rfl (.tmp 5) (.tmp 6) 26 26 rfl 65 i0 (.agg #[.string ⟨#[]⟩, .string ⟨#[]⟩]) 2 32 Try.underlying26 hi hz0 hz1 hz2 rfl (some w.heap.size) _ 0 [] rfl (Own.emptyP w) n (pcells ps) ((HB.out.2.kept (by decide) ((Kept.refl (fun _ => False) w).alloc _) (fun _ _ _ h => h)).src Try.underlying26 (pcells_one ps)) (by unfold maxLen; omega) (by omega) ?_)
    intro k' v' w' ho hf hK hn
    have R : MadeP w v' ps w' := ⟨k', by rw [HL.out]; simpa using ho, fun j hj => by
      rcases hf j hj with h | h
      · cases h; exact Nat.le_refl _
      · omega, ((Below.refl w.heap.size w).alloc (Nat.le_refl _) _).trans (hK.below (by simp) (fun j hj h => by cases h; omega))⟩
    have HR := Lib.hid R
    clear R ho hf hK hn
    go_wp2
    go_ret
    exact ⟨_, rfl, HR.out⟩
set_option maxRecDepth 100000 in
set_option maxHeartbeats 400000 in
theorem cloneNs_any (D : Nat → Prop) (a : Option Addr) (n c : Nat) (gs : List Nat) (w : World) (hB : Ks D w a n c gs) (hn : n ≤ 1000000) :
    Calls Try.prog 82 #[.slice a n c] w fun e w' => ∃ v, e = .returned v ∧ MadeN w v gs w' := by
  obtain ⟨i0, hi, hz0, hz1, hz2⟩ := info_parts infoN
  cases a with
  | none =>
    have ke := fun (w : World) => Lib.run_eql_slice_nil (P := Try.prog) w 92 85 none n c 0 0 Try.underlying92
    have h0 := hB.2.2.2.2.1 rfl
    have h1 := hB.2.2.1
    subst h0
    obtain rfl : n = 0 := by omega
    obtain rfl : gs = [] := List.eq_nil_of_length_eq_zero hB.1
    clear hB
    go_enter Try.func82, Try.ntmps82
    go_wp2
    go_ret
    exact ⟨_, rfl, none, Own.nil _ _ _, (fun _ h => by cases h), Below.refl _ _⟩
  | some ad =>
    have HB := Lib.hid hB
    have HL := Lib.hid hB.1
    have ke := fun (w : World) => Lib.run_eql_slice_nil (P := Try.prog) w 92 85 (some ad) n c 0 0 Try.underlying92
    clear hB
    go_enter Try.func82, Try.ntmps82
    go_wp2_with (at_builtin; refine wpList_append_any _ rfl (.tmp 5) (.tmp 6) 92 92 rfl 85 i0 (.pointer none) 1 8 Try.underlying92 hi hz0 hz1 hz2 rfl (some w.heap.size) _ 0 [] rfl (Own.emptyN w) n (pnts gs) ((HB.out.2.kept (by decide) ((Kept.refl (fun _ => False) w).alloc _) (fun _ _ _ h => h)).src Try.underlying92 (pnts_one gs)) (by unfold maxLen; omega) (by omega) ?_)
    intro k' v' w' ho hf hK hn
    have R : MadeN w v' gs w' := ⟨k', by rw [HL.out]; simpa using ho, fun j hj => by
      rcases hf j hj with h | h
      · cases h; exact Nat.le_refl _
      · omega, ((Below.refl w.heap.size w).alloc (Nat.le_refl _) _).trans (hK.below (by simp) (fun j hj h => by cases h; omega))⟩
    have HR := Lib.hid R
    clear R ho hf hK hn
    go_wp2
    go_ret
    exact ⟨_, rfl, HR.out⟩
end Go.Proofs.Ytfgmhidgkemfoaa
namespace Go.Proofs.Ytfgmhidgkemfoaa
set_option linter.unusedSimpArgs false
set_option linter.unusedVariables false
mutual
/-- how many nodes have a property -/
def BT.cnt (P : Nat → Bool) : BT → Nat
  | .mk g _ ks => (P g).toNat + cntL P ks
def cntL (P : Nat → Bool) : List BT → Nat
  | [] => 0
  | k :: ks => k.cnt P + cntL P ks
end
theorem cnt_mk (P : Nat → Bool) (g : Nat) (ps : List KV) (ks : List BT) : (BT.mk g ps ks).cnt P = (P g).toNat + cntL P ks := by rw [BT.cnt]
theorem cnt_eq (P : Nat → Bool) (t : BT) : t.cnt P = (P t.g).toNat + cntL P t.ks := by cases t; rw [BT.cnt]; rfl
theorem cntL_nil (P : Nat → Bool) : cntL P [] = 0 := by rw [cntL]
theorem cntL_cons (P : Nat → Bool) (k : BT) (ks : List BT) : cntL P (k :: ks) = k.cnt P + cntL P ks := by rw [cntL]
theorem cntL_app (P : Nat → Bool) (a b : List BT) : cntL P (a ++ b) = cntL P a + cntL P b := by
  induction a with
  | nil => rw [cntL_nil, List.nil_append, Nat.zero_add]
  | cons k ks ih => rw [List.cons_append, cntL_cons, cntL_cons, ih, Nat.add_assoc]
theorem toNat_le (b : Bool) : b.toNat ≤ 1 := by cases b <;> decide
theorem toLs_cons (p : KV) (ps : List KV) (k : BT) (ks : List BT) : toLs (p :: ps) (k :: ks) = k.toL ++ p :: toLs ps ks := by rw [toLs]
theorem toLs_last (k : BT) : toLs [] [k] = k.toL := by rw [toLs, toLs_leaf, List.append_nil]
/-- two nodes and a pair between them, in one -/
theorem toLs_app : ∀ (pl : List KV) (kl : List BT) (p : KV) (pr : List KV) (kr : List BT), kl.length = pl.length + 1 → toLs (pl ++ p :: pr) (kl ++ kr) = toLs pl kl ++ p :: toLs pr kr
  | [], [k], p, pr, kr, _ => by rw [List.nil_append, List.singleton_append, toLs_cons, toLs_last]
  | [], [], _, _, _, h => by simp at h
  | [], _ :: _ :: _, _, _, _, h => by simp at h
  | q :: pl, k :: kl, p, pr, kr, h => by rw [List.cons_append, List.cons_append, toLs_cons, toLs_app pl kl p pr kr (by simpa using h), toLs_cons, List.append_assoc, List.cons_append]
  | q :: pl, [], _, _, _, h => by simp at h
theorem preL_set : ∀ (ps : List KV) (ks : List BT) (i : Nat) (k : BT), preL ps (ks.set i k) i = preL ps ks i
  | ps, ks, 0, k => by rw [preL_zero, preL_zero]
  | p :: ps, k0 :: ks, i + 1, k => by rw [List.set_cons_succ, preL, preL_set ps ks i k, preL]
  | [], k0 :: ks, i + 1, k => by rw [List.set_cons_succ]; rfl
  | _, [], i + 1, k => by rw [List.set_nil]
theorem preL_setP : ∀ (ps : List KV) (ks : List BT) (i : Nat) (q : KV), preL (ps.set i q) ks i = preL ps ks i
  | ps, ks, 0, k => by rw [preL_zero, preL_zero]
  | p :: ps, k0 :: ks, i + 1, k => by rw [List.set_cons_succ, preL, preL_setP ps ks i k, preL]
  | [], k0 :: ks, i + 1, k => by rw [List.set_nil]
  | [], [], i + 1, k => by rw [List.set_nil]
  | p :: ps, [], i + 1, k => by rw [List.set_cons_succ]; rfl
/-- another child -/
theorem toLs_set (ps : List KV) (ks : List BT) (i : Nat) (hi : i < ks.length) (hl : ks.length = ps.length + 1) (k : BT) : toLs ps (ks.set i k) = preL ps ks i ++ (k.toL ++ sufL (ps.drop i) (ks.drop (i + 1))) := by
  rw [toLs_split ps (ks.set i k) i (by simpa using hi) (by simpa using hl), preL_set, List.getElem_set_self, List.drop_set_of_lt (by omega)]
/-- another child and another pair behind it -/
theorem toLs_set2 (ps : List KV) (ks : List BT) (i : Nat) (hi : i < ps.length) (hl : ks.length = ps.length + 1) (k : BT) (q : KV) : ∃ B, toLs ps ks = preL ps ks i ++ ((ks[i]'(by omega)).toL ++ ps[i] :: B) ∧ toLs (ps.set i q) (ks.set i k) = preL ps ks i ++ (k.toL ++ q :: B) ∧ toLs (ps.set i q) ks = preL ps ks i ++ ((ks[i]'(by omega)).toL ++ q :: B) := by
  have e1 : ps.drop i = ps[i] :: ps.drop (i + 1) := List.drop_eq_getElem_cons hi
  have e2 : ks.drop (i + 1) = ks[i + 1]'(by omega) :: ks.drop (i + 2) := List.drop_eq_getElem_cons (by omega)
  have e3 : (ps.set i q).drop i = q :: ps.drop (i + 1) := by
    rw [List.drop_eq_getElem_cons (by simpa using hi), List.getElem_set_self, List.drop_set_of_lt (by omega)]
  refine ⟨(ks[i + 1]'(by omega)).toL ++ sufL (ps.drop (i + 1)) (ks.drop (i + 2)), ?_, ?_, ?_⟩
  · rw [toLs_split ps ks i (by omega) hl, e1, e2]
    rfl
  · rw [toLs_set (ps.set i q) ks i (by omega) (by simpa using hl) k, preL_setP, e3, e2]
    rfl
  · rw [toLs_split (ps.set i q) ks i (by omega) (by simpa using hl), preL_setP, e3, e2]
    rfl
/-- a child in two -/
theorem toLs_split1 (m : KV) (L R : BT) : ∀ (ps : List KV) (ks : List BT) (i : Nat) (hi : i < ks.length), ks.length = ps.length + 1 → ks[i].toL = L.toL ++ m :: R.toL → toLs (ps.take i ++ m :: ps.drop i) (ks.take i ++ L :: R :: ks.drop (i + 1)) = toLs ps ks
  | ps, k :: ks, 0, _, hl, h => by
    simp only [List.take_zero, List.drop_zero, List.nil_append, List.drop_succ_cons]
    rw [toLs_cons, toLs_one ps R ks (by simpa using hl), toLs_one ps k ks (by simpa using hl)]
    have h : k.toL = L.toL ++ m :: R.toL := h
    rw [h]
    simp
  | p :: ps, k :: ks, i + 1, hi, hl, h => by
    simp only [List.take_succ_cons, List.drop_succ_cons, List.cons_append]
    rw [toLs_cons, toLs_cons, toLs_split1 m L R ps ks i (by simpa using hi) (by simpa using hl) (by simpa using h)]
  | [], k :: ks, i + 1, hi, hl, _ => by exfalso; simp only [List.length_cons, List.length_nil] at hl hi; omega
  | _, [], i, hi, _, _ => absurd hi (by simp)
/-- two children in one -/
theorem toLs_join (J : BT) : ∀ (ps : List KV) (ks : List BT) (i : Nat) (hi : i < ps.length) (hl : ks.length = ps.length + 1), J.toL = (ks[i]'(by omega)).toL ++ ps[i] :: (ks[i + 1]'(by omega)).toL → toLs (ps.take i ++ ps.drop (i + 1)) (ks.take i ++ J :: ks.drop (i + 2)) = toLs ps ks
  | p :: ps, k :: k2 :: ks, 0, _, hl, h => by
    simp only [List.take_zero, List.drop_zero, List.nil_append, List.drop_succ_cons]
    rw [toLs_cons, toLs_one ps J ks (by simpa using hl), toLs_one ps k2 ks (by simpa using hl)]
    have h : J.toL = k.toL ++ p :: k2.toL := h
    rw [h]
    simp
  | p :: ps, [k], 0, _, hl, _ => by simp at hl
  | p :: ps, k :: ks, i + 1, hi, hl, h => by
    simp only [List.take_succ_cons, List.drop_succ_cons, List.cons_append]
    rw [toLs_cons, toLs_cons, toLs_join J ps ks i (by simpa using hi) (by simpa using hl) (by simpa using h)]
  | p :: ps, [], _, _, hl, _ => by simp at hl
  | [], _, _, hi, _, _ => absurd hi (by simp)
/-- where a key belongs among the children -/
theorem place_inner {ps : List KV} {ks : List BT} {key : ByteArray} {i : Nat} (hl : ks.length = ps.length + 1) (hs : Sorted (toLs ps ks)) (hp : Place ps key i) (hik : i < ks.length) (hf : ¬ ∃ h : i < ps.length, ps[i].k = key) :
    (∀ x ∈ preL ps ks i, cmpK x.k key < 0) ∧ (∀ x ∈ sufL (ps.drop i) (ks.drop (i + 1)), 0 < cmpK x.k key) ∧ Sorted ks[i].toL := by
  obtain ⟨hi, h1, h2⟩ := hp
  have e := toLs_split ps ks i hik hl
  rw [e] at hs
  obtain ⟨s1, s2, s3⟩ := sorted_app.1 hs
  obtain ⟨s4, s5, s6⟩ := sorted_app.1 s2
  refine ⟨?_, ?_, s4⟩
  · intro p hpp
    by_cases h0 : i = 0
    · subst h0
      rw [preL_zero] at hpp
      cases hpp
    · obtain ⟨j, rfl⟩ : ∃ j, i = j + 1 := ⟨i - 1, by omega⟩
      obtain ⟨A, hA⟩ := preL_snoc ps ks j (by omega) hik
      rw [hA] at s1 hpp
      have h5 := h1 j (by omega) (by omega)
      rcases List.mem_append.1 hpp with hpp | hpp
      · have := (sorted_app.1 s1).2.2 p hpp ps[j] (by simp)
        exact cmpK_trans this h5
      · rw [List.mem_singleton.1 hpp]; exact h5
  · intro p hpp
    by_cases hip : i < ps.length
    · obtain ⟨B, hB⟩ := sufL_cons ps ks i hip hl
      rw [hB] at hpp s5
      have h3 := h2 i hip (Nat.le_refl _)
      have h4 : 0 < cmpK ps[i].k key := by
        by_cases h5 : cmpK ps[i].k key = 0
        · exact absurd ⟨hip, (cmpK_eq _ _).1 h5⟩ hf
        · omega
      rcases List.mem_cons.1 hpp with rfl | hpp
      · exact h4
      · exact cmpK_ge (by omega) ((sorted_cons.1 s5).1 p hpp)
    · rw [sufL_nil ps ks i (by omega)] at hpp
      cases hpp
/-- the pairs with a pair, and without a key -/
def insL (l : List KV) (p : KV) : List KV := l.filter (fun q => decide (cmpK q.k p.k < 0)) ++ p :: l.filter (fun q => decide (0 < cmpK q.k p.k))
def delL (l : List KV) (key : ByteArray) : List KV := l.filter (fun q => decide (q.k ≠ key))
theorem fil_lt {A : List KV} {key : ByteArray} (h : ∀ a ∈ A, cmpK a.k key < 0) : A.filter (fun q => decide (cmpK q.k key < 0)) = A ∧ A.filter (fun q => decide (0 < cmpK q.k key)) = [] :=
  ⟨List.filter_eq_self.2 (fun a ha => by simpa using h a ha), List.filter_eq_nil_iff.2 (fun a ha => by have := h a ha; simp; omega)⟩
theorem fil_gt {A : List KV} {key : ByteArray} (h : ∀ a ∈ A, 0 < cmpK a.k key) : A.filter (fun q => decide (cmpK q.k key < 0)) = [] ∧ A.filter (fun q => decide (0 < cmpK q.k key)) = A :=
  ⟨List.filter_eq_nil_iff.2 (fun a ha => by have := h a ha; simp; omega), List.filter_eq_self.2 (fun a ha => by simpa using h a ha)⟩
theorem insL_mid {A M S : List KV} {p : KV} (hA : ∀ a ∈ A, cmpK a.k p.k < 0) (hS : ∀ a ∈ S, 0 < cmpK a.k p.k) : insL (A ++ (M ++ S)) p = A ++ (insL M p ++ S) := by
  unfold insL
  rw [List.filter_append, List.filter_append, List.filter_append, List.filter_append, (fil_lt hA).1, (fil_lt hA).2, (fil_gt hS).1, (fil_gt hS).2]
  simp
theorem insL_new {A S : List KV} {p : KV} (hA : ∀ a ∈ A, cmpK a.k p.k < 0) (hS : ∀ a ∈ S, 0 < cmpK a.k p.k) : insL (A ++ S) p = A ++ p :: S := by
  have := insL_mid (M := []) hA hS
  rw [List.nil_append] at this
  rw [this]
  rfl
theorem insL_old {A S : List KV} {p q : KV} (hA : ∀ a ∈ A, cmpK a.k p.k < 0) (hS : ∀ a ∈ S, 0 < cmpK a.k p.k) (hq : q.k = p.k) : insL (A ++ q :: S) p = A ++ p :: S := by
  have h := insL_mid (M := [q]) hA hS
  have hc : cmpK q.k p.k = 0 := by rw [hq]; exact (cmpK_eq _ _).2 rfl
  have h2 : insL [q] p = [p] := by unfold insL; simp [hc]
  rw [h2] at h
  exact h
theorem sorted_around {A S : List KV} {q : KV} (hs : Sorted (A ++ q :: S)) : (∀ a ∈ A, cmpK a.k q.k < 0) ∧ (∀ a ∈ S, 0 < cmpK a.k q.k) := by
  obtain ⟨s1, s2, s3⟩ := sorted_app.1 hs
  refine ⟨fun a ha => s3 a ha q (by simp), fun a ha => ?_⟩
  have := (sorted_cons.1 s2).1 a ha
  have := cmpK_flip q.k a.k
  omega
theorem delL_none {A : List KV} {key : ByteArray} (h : ∀ a ∈ A, a.k ≠ key) : delL A key = A := List.filter_eq_self.2 (fun a ha => by simpa using h a ha)
theorem ne_lt {a key : ByteArray} (h : cmpK a key < 0) : a ≠ key := fun e => by have := (cmpK_eq a key).2 e; omega
theorem ne_gt {a key : ByteArray} (h : 0 < cmpK a key) : a ≠ key := fun e => by have := (cmpK_eq a key).2 e; omega
theorem delL_mid {A M S : List KV} {key : ByteArray} (hA : ∀ a ∈ A, cmpK a.k key < 0) (hS : ∀ a ∈ S, 0 < cmpK a.k key) : delL (A ++ (M ++ S)) key = A ++ (delL M key ++ S) := by
  have h1 := delL_none (key := key) (fun a ha => ne_lt (hA a ha))
  have h2 := delL_none (key := key) (fun a ha => ne_gt (hS a ha))
  unfold delL at *
  rw [List.filter_append, List.filter_append, h1, h2]
theorem delL_old {A S : List KV} {q : KV} (hs : Sorted (A ++ q :: S)) : delL (A ++ q :: S) q.k = A ++ S := by
  obtain ⟨hA, hS⟩ := sorted_around hs
  have h := delL_mid (M := [q]) hA hS
  have h2 : delL [q] q.k = [] := by unfold delL; simp
  rw [h2, List.nil_append] at h
  exact h
/-- a leaf -/
theorem ins_leaf {ps : List KV} {p : KV} {i : Nat} (hs : Sorted ps) (hp : Place ps p.k i) (hf : ¬ ∃ h : i < ps.length, ps[i].k = p.k) : insL ps p = ps.take i ++ p :: ps.drop i := by
  obtain ⟨hi, h1, h2⟩ := hp
  have e : ps = ps.take i ++ ps.drop i := (List.take_append_drop i ps).symm
  conv => lhs; rw [e]
  refine insL_new ?_ ?_
  · intro q hq
    obtain ⟨t, ht, rfl⟩ := List.mem_iff_getElem.1 hq
    rw [List.length_take] at ht
    rw [List.getElem_take]
    exact h1 t (by omega) (by omega)
  · intro q hq
    obtain ⟨t, ht, rfl⟩ := List.mem_iff_getElem.1 hq
    rw [List.length_drop] at ht
    rw [List.getElem_drop]
    have h3 := h2 (i + t) (by omega) (by omega)
    by_cases h4 : cmpK ps[i + t].k p.k = 0
    · exfalso
      have h5 := (cmpK_eq _ _).1 h4
      by_cases h6 : t = 0
      · subst h6; exact hf ⟨by omega, h5⟩
      · have h7 := hs.lt (i := i) (j := i + t) (by omega) (by omega)
        rw [h5] at h7
        have h8 := h2 i (by omega) (Nat.le_refl _)
        omega
    · omega
theorem set_at (ps : List KV) (i : Nat) (hi : i < ps.length) (p : KV) : ps.set i p = ps.take i ++ p :: ps.drop (i + 1) := by
  rw [List.set_eq_take_append_cons_drop, if_pos hi]
theorem at_split {α : Type} (ps : List α) (i : Nat) (hi : i < ps.length) : ps = ps.take i ++ ps[i] :: ps.drop (i + 1) := by
  rw [← List.drop_eq_getElem_cons hi, List.take_append_drop]
theorem ins_leaf_old {ps : List KV} {p : KV} {i : Nat} (hs : Sorted ps) (hi : i < ps.length) (hk : ps[i].k = p.k) : insL ps p = ps.set i p := by
  have e := at_split ps i hi
  rw [e] at hs
  obtain ⟨hA, hS⟩ := sorted_around hs
  rw [set_at ps i hi]
  conv => lhs; rw [e]
  exact insL_old (by rw [← hk]; exact hA) (by rw [← hk]; exact hS) hk
theorem ins_inner_old {ps : List KV} {ks : List BT} {p : KV} {i : Nat} (hl : ks.length = ps.length + 1) (hs : Sorted (toLs ps ks)) (hi : i < ps.length) (hk : ps[i].k = p.k) : insL (toLs ps ks) p = toLs (ps.set i p) ks := by
  obtain ⟨B, e1, -, e3⟩ := toLs_set2 ps ks i hi hl (ks[i]'(by omega)) p
  rw [e3, e1]
  rw [e1, ← List.append_assoc] at hs
  obtain ⟨hA, hS⟩ := sorted_around hs
  rw [← List.append_assoc, ← List.append_assoc]
  exact insL_old (by rw [← hk]; exact hA) (by rw [← hk]; exact hS) hk
theorem ins_inner {ps : List KV} {ks : List BT} {p : KV} {i : Nat} (hl : ks.length = ps.length + 1) (hs : Sorted (toLs ps ks)) (hp : Place ps p.k i) (hik : i < ks.length) (hf : ¬ ∃ h : i < ps.length, ps[i].k = p.k) (k : BT) (hk : k.toL = insL ks[i].toL p) : insL (toLs ps ks) p = toLs ps (ks.set i k) := by
  obtain ⟨hA, hS, -⟩ := place_inner hl hs hp hik hf
  rw [toLs_set ps ks i hik hl, toLs_split ps ks i hik hl, insL_mid hA hS, hk]
theorem del_leaf {ps : List KV} {i : Nat} (hs : Sorted ps) (hi : i < ps.length) : delL ps ps[i].k = ps.take i ++ ps.drop (i + 1) := by
  have e := at_split ps i hi
  have hs2 := hs
  rw [e] at hs2
  have := delL_old hs2
  rw [← e] at this
  exact this
theorem del_inner {ps : List KV} {ks : List BT} {key : ByteArray} {i : Nat} (hl : ks.length = ps.length + 1) (hs : Sorted (toLs ps ks)) (hp : Place ps key i) (hik : i < ks.length) (hf : ¬ ∃ h : i < ps.length, ps[i].k = key) (k : BT) (hk : k.toL = delL ks[i].toL key) : delL (toLs ps ks) key = toLs ps (ks.set i k) := by
  obtain ⟨hA, hS, -⟩ := place_inner hl hs hp hik hf
  rw [toLs_set ps ks i hik hl, toLs_split ps ks i hik hl, delL_mid hA hS, hk]
/-- the pair before it takes its place -/
theorem del_inner_old {ps : List KV} {ks : List BT} {i : Nat} (hl : ks.length = ps.length + 1) (hs : Sorted (toLs ps ks)) (hi : i < ps.length) (k : BT) (A : List KV) (q : KV) (hq : (ks[i]'(by omega)).toL = A ++ [q]) (hk : k.toL = delL (A ++ [q]) q.k) : delL (toLs ps ks) ps[i].k = toLs (ps.set i q) (ks.set i k) := by
  obtain ⟨B, e1, e2, -⟩ := toLs_set2 ps ks i hi hl k q
  rw [e2, e1]
  rw [e1, ← List.append_assoc] at hs
  rw [← List.append_assoc, delL_old hs, hk]
  obtain ⟨s1, -, -⟩ := sorted_app.1 hs
  obtain ⟨-, s2, -⟩ := sorted_app.1 s1
  rw [hq] at s2 ⊢
  rw [delL_old s2]
  simp
end Go.Proofs.Ytfgmhidgkemfoaa
namespace Go.Proofs.Ytfgmhidgkemfoaa
open Go.RowKit
set_option linter.unusedSimpArgs false
set_option linter.unusedVariables false
/-- the blocks that are not the node's own -/
def Off (D : Nat → Prop) (B g : Nat) (kp kk : Option Nat) : Nat → Prop := fun b => (D b ∨ B ≤ b) ∧ b ≠ g ∧ kp ≠ some b ∧ kk ≠ some b
/-- a node that is being made: its block g and its two rows are its own, and lie in memory that is new since w0; its children ks, and further trees xs, lie elsewhere -/
structure ONx (D : Nat → Prop) (w0 w : World) (g : Nat) (kp kk : Option Nat) (vp vk : Value) (ps : List KV) (ks xs : List BT) : Prop where
  blk : w.heap[g]? = some (.cells #[vp, vk] 94 (0, 0))
  hp : Own w 65 2 kp vp ps.length (pcells ps)
  hk : Own w 85 1 kk vk ks.length (pnts (ks.map BT.g))
  d1 : kp ≠ some g
  d2 : kk ≠ some g
  d3 : ∀ j, kp = some j → kk ≠ some j
  n0 : w0.heap.size ≤ g
  n1 : ∀ j, kp = some j → w0.heap.size ≤ j
  n2 : ∀ j, kk = some j → w0.heap.size ≤ j
  kids : ∀ k, k ∈ ks ++ xs → NdD (Off D w0.heap.size g kp kk) w k
  below : Below w0.heap.size w0 w
def ON (D : Nat → Prop) (w0 w : World) (g : Nat) (ps : List KV) (ks xs : List BT) : Prop := ∃ kp kk vp vk, ONx D w0 w g kp kk vp vk ps ks xs
section
variable {D : Nat → Prop} {w0 w : World} {g : Nat} {kp kk : Option Nat} {vp vk : Value} {ps : List KV} {ks xs : List BT}
theorem ONx.lt (h : ONx D w0 w g kp kk vp vk ps ks xs) : g < w.heap.size := (Array.getElem?_eq_some_iff.1 h.blk).1
theorem ONx.under {w' : World} (h : ONx D w0 w g kp kk vp vk ps ks xs) (hb : Below w.heap.size w w') : ONx D w0 w' g kp kk vp vk ps ks xs :=
  ⟨(hb.block _ h.lt).trans h.blk, h.hp.kept (Kept.of_below (fun _ => False) hb) (fun _ _ h => h), h.hk.kept (Kept.of_below (fun _ => False) hb) (fun _ _ h => h), h.d1, h.d2, h.d3, h.n0, h.n1, h.n2, fun k hk => (h.kids k hk).under hb, h.below.trans (hb.mono h.below.size)⟩
theorem ONx.sub {ys : List BT} (h : ONx D w0 w g kp kk vp vk ps ks xs) (hs : ∀ k ∈ ys, k ∈ ks ++ xs) : ONx D w0 w g kp kk vp vk ps ks ys :=
  ⟨h.blk, h.hp, h.hk, h.d1, h.d2, h.d3, h.n0, h.n1, h.n2, fun k hk => by
    rcases List.mem_append.1 hk with hk | hk
    · exact h.kids k (List.mem_append.2 (.inl hk))
    · exact h.kids k (hs k hk), h.below⟩
/-- what a call makes of children lies elsewhere, too -/
theorem ONx.add {w' : World} {r : BT} (h : ONx D w0 w g kp kk vp vk ps ks xs) (hb : Below w.heap.size w w') (hr : NdD (fun b => Off D w0.heap.size g kp kk b ∨ w.heap.size ≤ b) w' r) : ONx D w0 w' g kp kk vp vk ps ks (r :: xs) := by
  have h2 := h.under hb
  refine ⟨h2.blk, h2.hp, h2.hk, h2.d1, h2.d2, h2.d3, h2.n0, h2.n1, h2.n2, fun k hk => ?_, h2.below⟩
  have key : k = r ∨ k ∈ ks ++ xs := by
    rcases List.mem_append.1 hk with hk | hk
    · exact .inr (List.mem_append.2 (.inl hk))
    · rcases List.mem_cons.1 hk with hk | hk
      · exact .inl hk
      · exact .inr (List.mem_append.2 (.inr hk))
  rcases key with rfl | hk
  · refine hr.dom (fun b hbb => ?_)
    rcases hbb with hbb | hbb
    · exact hbb
    · have h3 := h.below.size
      have h4 := h.lt
      exact ⟨.inr (by omega), by omega, fun e => by have := h.hp.lt _ e; omega, fun e => by have := h.hk.lt _ e; omega⟩
  · exact h2.kids k hk
theorem ONx.nd (h : ONx D w0 w g kp kk vp vk ps ks xs) : NdD (fun b => D b ∨ w0.heap.size ≤ b) w (.mk g ps ks) := by
  obtain ⟨a, c, hv, hs⟩ := h.hp.sl
  obtain ⟨b, e, hv2, hs2⟩ := h.hk.sl
  have h1 := h.blk
  rw [hv, hv2] at h1
  refine .mk (.inr h.n0) h1 ⟨rfl, hs.dom (fun x hx => .inr (h.n1 x hx))⟩ ⟨by simp, hs2.dom (fun x hx => .inr (h.n2 x hx))⟩ (fun k hk => (h.kids k (List.mem_append.2 (.inl hk))).dom (fun x hx => hx.1))
/-- another row of pairs -/
theorem ONx.newP {w2 : World} {kp2 : Option Nat} {vp2 : Value} {ps2 : List KV} (h : ONx D w0 w g kp kk vp vk ps ks xs) (ho : Own w2 65 2 kp2 vp2 ps2.length (pcells ps2)) (hn : ∀ j, kp2 = some j → kp = some j ∨ w.heap.size ≤ j) (hk : Kept (fun j => kp = some j) w w2) : ONx D w0 (w2.setCell ⟨g, 0, none⟩ vp2) g kp2 kk vp2 vk ps2 ks xs := by
  have hg : w2.heap[g]? = some (.cells #[vp, vk] 94 (0, 0)) := hk.heap h.blk h.d1
  have hgl : g < w.heap.size := h.lt
  have hgk : kp2 ≠ some g := fun e => by
    rcases hn g e with e2 | e2
    · exact h.d1 e2
    · omega
  have K2 : Kept (fun j => j = g) w2 (w2.setCell ⟨g, 0, none⟩ vp2) := (Kept.refl (fun j => j = g) w2).setCell (p := ⟨g, 0, none⟩) (fun _ => rfl) _
  have d3' : ∀ j, kp2 = some j → kk ≠ some j := fun j e e2 => by
    rcases hn j e with e3 | e3
    · exact h.d3 j e3 e2
    · have := h.hk.lt j e2; omega
  refine ⟨?_, ho.kept K2 (fun j e e2 => hgk (e2 ▸ e)), (h.hk.kept hk (fun j e e2 => h.d3 j e2 e)).kept K2 (fun j e e2 => h.d2 (e2 ▸ e)), hgk, h.d2, d3', h.n0, fun j e => ?_, h.n2, fun k hkk => ?_, ?_⟩
  · rw [heap_setCell_same w2 g 0 _ _ _ hg]; rfl
  · rcases hn j e with e3 | e3
    · exact h.n1 j e3
    · have := h.below.size; omega
  · have h1 := ((h.kids k hkk).in).kept hk (fun b _ hb e => hb.1.2.2.1 e)
    have h2 := h1.kept K2 (fun b _ hb e => hb.1.2.1 e)
    refine h2.dom (fun b hb => ⟨hb.1.1, hb.1.2.1, fun e => ?_, hb.1.2.2.2⟩)
    rcases hn b e with e3 | e3
    · exact hb.1.2.2.1 e3
    · have := hb.2; omega
  · exact (h.below.trans (hk.below h.below.size (fun j hj e => by have := h.n1 j e; omega))).trans (K2.below (Nat.le_trans h.below.size hk.size) (fun j hj e => by have := h.n0; omega))
/-- another row of children, among those that are known -/
theorem ONx.newK {w2 : World} {kk2 : Option Nat} {vk2 : Value} {ks2 : List BT} (h : ONx D w0 w g kp kk vp vk ps ks xs) (ho : Own w2 85 1 kk2 vk2 ks2.length (pnts (ks2.map BT.g))) (hn : ∀ j, kk2 = some j → kk = some j ∨ w.heap.size ≤ j) (hk : Kept (fun j => kk = some j) w w2) (hm : ∀ k ∈ ks2, k ∈ ks ++ xs) (hx : ∀ k ∈ xs, k ∈ ks ++ xs) : ONx D w0 (w2.setCell ⟨g, 1, none⟩ vk2) g kp kk2 vp vk2 ps ks2 xs := by
  have hg : w2.heap[g]? = some (.cells #[vp, vk] 94 (0, 0)) := hk.heap h.blk h.d2
  have hgl : g < w.heap.size := h.lt
  have hgk : kk2 ≠ some g := fun e => by
    rcases hn g e with e2 | e2
    · exact h.d2 e2
    · omega
  have K2 : Kept (fun j => j = g) w2 (w2.setCell ⟨g, 1, none⟩ vk2) := (Kept.refl (fun j => j = g) w2).setCell (p := ⟨g, 1, none⟩) (fun _ => rfl) _
  have d3' : ∀ j, kp = some j → kk2 ≠ some j := fun j e2 e => by
    rcases hn j e with e3 | e3
    · exact h.d3 j e2 e3
    · have := h.hp.lt j e2; omega
  refine ⟨?_, (h.hp.kept hk (fun j e e2 => h.d3 j e e2)).kept K2 (fun j e e2 => h.d1 (e2 ▸ e)), ho.kept K2 (fun j e e2 => hgk (e2 ▸ e)), h.d1, hgk, d3', h.n0, h.n1, fun j e => ?_, fun k hkk => ?_, ?_⟩
  · rw [heap_setCell_same w2 g 1 _ _ _ hg]; rfl
  · rcases hn j e with e3 | e3
    · exact h.n2 j e3
    · have := h.below.size; omega
  · have hkk : k ∈ ks ++ xs := by
      rcases List.mem_append.1 hkk with h1 | h1
      · exact hm k h1
      · exact hx k h1
    have h1 := ((h.kids k hkk).in).kept hk (fun b _ hb e => hb.1.2.2.2 e)
    have h2 := h1.kept K2 (fun b _ hb e => hb.1.2.1 e)
    refine h2.dom (fun b hb => ⟨hb.1.1, hb.1.2.1, hb.1.2.2.1, fun e => ?_⟩)
    rcases hn b e with e3 | e3
    · exact hb.1.2.2.2 e3
    · have := hb.2; omega
  · exact (h.below.trans (hk.below h.below.size (fun j hj e => by have := h.n2 j e; omega))).trans (K2.below (Nat.le_trans h.below.size hk.size) (fun j hj e => by have := h.n0; omega))
end
theorem Kept.setCells {S : Nat → Prop} {g : Nat} : ∀ (vs : List Value) (off : Nat) {a w : World}, Kept S a w → (g < a.heap.size → S g) → Kept S a (w.setCells g off vs)
  | [], _, _, _, h, _ => h
  | v :: r, off, a, w, h, hp => Kept.setCells r (off + 1) (h.setCell (p := ⟨g, off, none⟩) hp v) hp
theorem heap_setCells_own {t : TypeId} {g : Nat} : ∀ (vs : List Value) (off : Nat) (w : World) (cur : Array Value), w.heap[g]? = some (.cells cur t (0, 0)) → off + vs.length ≤ cur.size →
    ∃ cur', (w.setCells g off vs).heap[g]? = some (.cells cur' t (0, 0)) ∧ cur'.size = cur.size ∧ cur'.toList = cur.toList.take off ++ vs ++ cur.toList.drop (off + vs.length)
  | [], off, w, cur, hg, h => ⟨cur, hg, rfl, by simp⟩
  | v :: r, off, w, cur, hg, h => by
    simp only [List.length_cons] at h
    have h1 := heap_setCell_same w g off cur t v hg
    obtain ⟨cur', h2, h3, h4⟩ := heap_setCells_own r (off + 1) _ _ h1 (by simp; omega)
    refine ⟨cur', h2, by simpa using h3, ?_⟩
    rw [h4]
    simp only [Array.toList_setIfInBounds, List.length_cons]
    rw [List.drop_set_of_lt (by omega), show off + 1 + r.length = off + (r.length + 1) by omega]
    congr 1
    rw [List.take_set, List.set_eq_take_append_cons_drop]
    simp only [List.length_take, Array.length_toList]
    rw [if_pos (by omega), List.take_take, List.drop_take]
    simp [show min off (off + 1) = off by omega]
/-- cells of a row of one's own are set -/
theorem Own.set {w : World} {e : TypeId} {size : Nat} {k : Nat} {v : Value} {n : Nat} {xs ys vs : List Value} (h : Own w e size (some k) v n xs) (off : Nat) (hf : off + vs.length ≤ n * size) (hy : ys = xs.take off ++ vs ++ xs.drop (off + vs.length)) : Own (w.setCells k off vs) e size (some k) v n ys := by
  rcases h.2 with ⟨e0, -⟩ | ⟨g, cap, cur, e0, rfl, hg, hn, hm, hs, ht⟩
  · cases e0
  · cases e0
    have hc : n * size ≤ cur.size := by rw [hs]; exact Nat.mul_le_mul_right _ hn
    obtain ⟨cur', c1, c2, c3⟩ := heap_setCells_own vs off w cur hg (by omega)
    have hl := h.1
    refine ⟨?_, .inr ⟨k, cap, cur', rfl, rfl, c1, hn, hm, by rw [c2, hs], ?_⟩⟩
    · rw [hy]
      simp only [List.length_append, List.length_take, List.length_drop]
      omega
    · rw [c3, hy, ← ht]
      have e1 : (List.take off cur.toList).length = off := by rw [List.length_take, Array.length_toList]; omega
      rw [List.append_assoc, List.append_assoc, List.take_append, List.take_append, e1, List.take_take, List.take_take, List.drop_take, List.take_of_length_le (l := vs) (by omega)]
      congr 1
      · congr 1; omega
      · congr 1
        congr 1
        omega
/-- a pair is put in its place -/
theorem ONx.setP {D : Nat → Prop} {w0 w : World} {g kp : Nat} {kk : Option Nat} {vp vk : Value} {ps : List KV} {ks xs : List BT} (h : ONx D w0 w g (some kp) kk vp vk ps ks xs) (i : Nat) (hi : i < ps.length) (p : KV) : ONx D w0 (w.setCells kp (i * 2) p.cells) g (some kp) kk vp vk (ps.set i p) ks xs := by
  have K : Kept (fun j => j = kp) w (w.setCells kp (i * 2) p.cells) := Kept.setCells _ _ (Kept.refl _ w) (fun _ => rfl)
  have hne : g ≠ kp := fun e => h.d1 (by rw [e])
  refine ⟨K.heap h.blk hne, ?_, h.hk.kept K (fun j e e2 => h.d3 kp rfl (e2 ▸ e)), h.d1, h.d2, h.d3, h.n0, h.n1, h.n2, fun k hk => ?_, h.below.trans (K.below h.below.size (fun j hj e => by have := h.n1 kp rfl; omega))⟩
  · rw [List.length_set]
    refine h.hp.set (i * 2) (by show _ + 2 ≤ _; omega) ?_
    rw [set_at ps i hi]
    conv => rhs; rw [at_split ps i hi]
    have e : ∀ a b : List KV, pcells (a ++ b) = pcells a ++ pcells b := fun a b => by unfold pcells; rw [List.flatMap_append]
    have e2 : ∀ q (b : List KV), pcells (q :: b) = q.cells ++ pcells b := fun q b => by unfold pcells; rw [List.flatMap_cons]
    have l1 : (pcells (ps.take i)).length = i * 2 := by rw [pcells_len, List.length_take]; omega
    have l2 : p.cells.length = 2 := rfl
    have l3 : (ps[i]).cells.length = 2 := rfl
    rw [e, e, e2, e2]
    generalize pcells (ps.take i) = A at l1 ⊢
    generalize pcells (ps.drop (i + 1)) = C
    generalize ps[i].cells = q at l3 ⊢
    rw [← l1, List.take_left, ← List.append_assoc A q C, show A.length + p.cells.length = (A ++ q).length by rw [List.length_append, l2, l3], List.drop_left, List.append_assoc]
  · exact (h.kids k hk).kept K (fun b _ hb e => hb.2.2.1 (by rw [e]))
/-- a child is put in its place -/
theorem ONx.setK {D : Nat → Prop} {w0 w : World} {g kk : Nat} {kp : Option Nat} {vp vk : Value} {ps : List KV} {ks xs : List BT} (h : ONx D w0 w g kp (some kk) vp vk ps ks xs) (i : Nat) (hi : i < ks.length) (y : BT) (hy : y ∈ ks ++ xs) : ONx D w0 (w.setCell ⟨kk, i, none⟩ (.pointer (some ⟨y.g, 0, none⟩))) g kp (some kk) vp vk ps (ks.set i y) xs := by
  have K : Kept (fun j => j = kk) w (w.setCell ⟨kk, i, none⟩ (.pointer (some ⟨y.g, 0, none⟩))) := (Kept.refl (fun j => j = kk) w).setCell (p := ⟨kk, i, none⟩) (fun _ => rfl) _
  have hne : g ≠ kk := fun e => h.d2 (by rw [e])
  refine ⟨K.heap h.blk hne, h.hp.kept K (fun j e e2 => h.d3 j e (by rw [e2])), ?_, h.d1, h.d2, h.d3, h.n0, h.n1, h.n2, fun k hk => ?_, h.below.trans (K.below h.below.size (fun j hj e => by have := h.n2 kk rfl; omega))⟩
  · rw [List.length_set]
    refine h.hk.set (vs := [.pointer (some ⟨y.g, 0, none⟩)]) i (by simp; omega) ?_
    unfold pnts
    rw [List.map_set, List.map_set, List.set_eq_take_append_cons_drop, if_pos (by simpa using hi)]
    simp
  · have hk : k ∈ ks ++ xs := by
      rcases List.mem_append.1 hk with h1 | h1
      · rcases List.mem_or_eq_of_mem_set h1 with h2 | h2
        · exact List.mem_append.2 (.inl h2)
        · rw [h2]; exact hy
      · exact List.mem_append.2 (.inr h1)
    exact (h.kids k hk).kept K (fun b _ hb e => hb.2.2.2 (by rw [e]))
end Go.Proofs.Ytfgmhidgkemfoaa
namespace Go.Proofs.Ytfgmhidgkemfoaa
open Go.RowKit
set_option linter.unusedSimpArgs false
set_option linter.unusedVariables false
/-- a part of a slice of pairs -/
theorem Ps.part {D : Nat → Prop} {w : World} {a : Option Addr} {n c : Nat} {ps : List KV} (h : Ps D w a n c ps) (f u : Nat) (hf : f ≤ u) (hu : u ≤ n) : ∃ a', (a' = a.map fun x => ⟨x.block, x.off + f * 2, x.spot⟩) ∧ Ps D w a' (u - f) (c - f) ((ps.take u).drop f) := by
  obtain ⟨h1, h2, h3, h4, h5, h6⟩ := h
  refine ⟨_, rfl, by rw [List.length_drop, List.length_take]; omega, by rw [pcells_len, List.length_drop, List.length_take]; omega, by omega, by omega, fun e => ?_, fun hp => ?_⟩
  · have : a = none := by cases a with | none => rfl | some x => cases e
    have := h5 this
    omega
  · obtain ⟨b, off, hD, rfl, hr⟩ := h6 (by omega)
    refine ⟨b, off + f * 2, hD, rfl, fun j v hv => ?_⟩
    have hjl : j < (u - f) * 2 := by
      have := (List.getElem?_eq_some_iff.1 hv).1
      rw [pcells_len, List.length_drop, List.length_take] at this
      omega
    rw [Nat.add_assoc]
    refine hr (f * 2 + j) v ?_
    have e1 : j = j / 2 * 2 + j % 2 := by omega
    rw [e1, pcells_get _ (j / 2) (j % 2) (by rw [List.length_drop, List.length_take]; omega) (by omega)] at hv
    rw [show f * 2 + j = (f + j / 2) * 2 + j % 2 by omega, pcells_get _ (f + j / 2) (j % 2) (by omega) (by omega)]
    simp only [List.getElem_drop, List.getElem_take] at hv
    exact hv
theorem Ks.part {D : Nat → Prop} {w : World} {a : Option Addr} {n c : Nat} {gs : List Nat} (h : Ks D w a n c gs) (f u : Nat) (hf : f ≤ u) (hu : u ≤ n) : ∃ a', (a' = a.map fun x => ⟨x.block, x.off + f, x.spot⟩) ∧ Ks D w a' (u - f) (c - f) ((gs.take u).drop f) := by
  obtain ⟨h1, h2, h3, h4, h5, h6⟩ := h
  refine ⟨_, rfl, by rw [List.length_drop, List.length_take]; omega, by rw [pnts_len, List.length_drop, List.length_take]; omega, by omega, by omega, fun e => ?_, fun hp => ?_⟩
  · have : a = none := by cases a with | none => rfl | some x => cases e
    have := h5 this
    omega
  · obtain ⟨b, off, hD, rfl, hr⟩ := h6 (by omega)
    refine ⟨b, off + f, hD, rfl, fun j v hv => ?_⟩
    rw [Nat.add_assoc]
    refine hr (f + j) v ?_
    have hjl := (List.getElem?_eq_some_iff.1 hv).1
    rw [pnts_len, List.length_drop, List.length_take] at hjl
    unfold pnts at *
    rw [List.map_drop, List.map_take, List.getElem?_drop, List.getElem?_take, if_pos (by omega)] at hv
    exact hv
theorem NdD.off {E : Nat → Prop} {w w' : World} {t : BT} (h : NdD E w t) (hb : Below w.heap.size w w') {g : Nat} {kp kk : Option Nat} (hg : w.heap.size ≤ g) (h1 : ∀ j, kp = some j → w.heap.size ≤ j) (h2 : ∀ j, kk = some j → w.heap.size ≤ j) : NdD (Off E w.heap.size g kp kk) w' t :=
  (h.in.under hb).dom (fun b hb => ⟨.inl hb.1, by have := hb.2; omega, fun e => by have := h1 b e; have := hb.2; omega, fun e => by have := h2 b e; have := hb.2; omega⟩)
theorem run_buildN (a : Option Addr) (n c : Nat) (W : World) : (Instr.build 94 #[(0, .slice a n c)]).run Try.prog W = .ok (.agg #[.slice a n c, .slice none 0 0]) W := by kernel_rfl
set_option maxRecDepth 100000 in
set_option maxHeartbeats 1000000 in
/-- a part of a node, which is a node of one's own -/
theorem part_any {E : Nat → Prop} {w : World} {t : BT} (h : NdD E w t) (hkl : t.ks = [] ∨ t.ks.length = t.ps.length + 1) (f u : Nat) (hf : f < u) (hu : u ≤ t.ps.length) (hn : t.ps.length ≤ 1000) :
    Calls Try.prog 70 #[.pointer (some ⟨t.g, 0, none⟩), .int .i64 (f : Int), .int .i64 (u : Int)] w fun e w' => ∃ c, e = .returned (.pointer (some ⟨c, 0, none⟩)) ∧ ON E w w' c ((t.ps.take u).drop f) ((t.ks.take (u + 1)).drop f) (t :: t.ks) := by
  obtain ⟨a, n, c, b, m, e, hE, hgb, c0, c1, hps, hks, hkd⟩ := h.facts
  have hgl : t.g < w.heap.size := (Array.getElem?_eq_some_iff.1 hgb).1
  have hl := hps.1
  have hnc : n ≤ c := hps.2.2.1
  have hcm : c ≤ 9223372036854775807 := hps.2.2.2.1
  have hml := hks.1
  rw [List.length_map] at hml
  have hme : m ≤ e := hks.2.2.1
  have hem : e ≤ 9223372036854775807 := hks.2.2.2.1
  have hgnd := h.nd
  have HL := fun (v : World) (hb : Below w.heap.size w v) => leaf_any (hgnd.under hb)
  have HALL : Hid (∀ k, k ∈ t :: t.ks → NdD E w k) := Lib.hid (fun k hk => by
    rcases List.mem_cons.1 hk with rfl | hk
    · exact h
    · exact hkd k hk)
  obtain ⟨bb, off, -, hbb, rfl, -⟩ := hps.at (by omega)
  obtain ⟨a', rfl, hpp⟩ := hps.part f u (by omega) (by omega)
  have hpp : Ps E w (some ⟨bb, off + f * 2, none⟩) (u - f) (c - f) ((t.ps.take u).drop f) := hpp
  have HC := Lib.hid (clonePs_any _ _ _ _ _ w hpp (by omega))
  obtain ⟨qs, hqs⟩ : ∃ qs, qs = (t.ps.take u).drop f := ⟨_, rfl⟩
  rw [← hqs] at HC ⊢
  have hfu : (f : Int) ≤ (u : Int) := by omega
  have huc : (u : Int) ≤ (c : Int) := by omega
  have hcf : ¬ c = f := by omega
  have hbn := run_buildN
  rcases hkl with hk0 | hk1
  · have HL : Hid (∀ v, Below w.heap.size w v → Calls Try.prog 69 #[.pointer (some ⟨t.g, 0, none⟩)] v fun e w' => e = .returned (.bool true) ∧ v = w') := Lib.hid (fun v hb => by have := HL v hb; rw [hk0] at this; exact this)
    have hkr : (t.ks.take (u + 1)).drop f = [] := by rw [hk0]; simp
    rw [hkr]
    obtain ⟨tg, htg⟩ : ∃ tg, tg = t.g := ⟨_, rfl⟩
    obtain ⟨tk, htk⟩ : ∃ tk, tk = t :: t.ks := ⟨_, rfl⟩
    rw [← htk] at HALL ⊢
    rw [← htg] at c0 c1 HL ⊢
    clear hpp hps hqs h hl hkd hks hml hkr hk0 hgb hgl hgnd htg htk hE hn
    go_enter Try.func70, Try.ntmps70
    go_upto_region 2 with (first
      | (go_at_call 81; refine HC.out.mono ?_; rintro e w2 ⟨v, rfl, k, ho, hk, hb⟩; obtain ⟨av, cv, rfl, -⟩ := id ho.sl; have HO := Lib.hid ho; have HK := Lib.hid hk; have HB := Lib.hid hb; clear ho hk hb))
    obtain ⟨w3, hw3⟩ : ∃ w3, w3 = w2.alloc (.cells #[.slice av qs.length cv, .slice none 0 0] 94) := ⟨_, rfl⟩
    obtain ⟨gc, hgc⟩ : ∃ gc, gc = w2.heap.size := ⟨_, rfl⟩
    have hb3 : Below w.heap.size w w3 := by rw [hw3]; exact HB.out.alloc HB.out.size _
    have hon : ON E w w3 gc qs [] tk := by
      refine ⟨k, none, _, _, by rw [hw3, hgc]; exact heap_new rfl, ?_, Own.nil _ _ _, ?_, (by simp), (fun _ _ => by simp), by rw [hgc]; exact HB.out.size, HK.out, (fun _ h => by cases h), fun q hq => (HALL.out q (by simpa using hq)).off hb3 (by rw [hgc]; exact HB.out.size) HK.out (fun _ h => by cases h), hb3⟩
      · rw [hw3]; exact HO.out.kept ((Kept.refl (fun _ => False) w2).alloc _) (fun _ _ h => h)
      · intro e
        have := HO.out.lt gc e
        omega
    have HON := Lib.hid hon
    have HB3 := Lib.hid hb3
    rw [← hw3, ← hgc]
    clear hw3 hgc hb3 hon HO HK HALL
    go_wp2_with (go_at_call 69; refine (HL.out _ HB3.out).mono ?_; rintro e w4 ⟨rfl, rfl⟩)
    go_ret
    exact ⟨gc, rfl, HON.out⟩
  · have HL : Hid (∀ v, Below w.heap.size w v → Calls Try.prog 69 #[.pointer (some ⟨t.g, 0, none⟩)] v fun e w' => e = .returned (.bool false) ∧ v = w') := Lib.hid (fun v hb => by have := HL v hb; rw [decide_eq_false (by omega)] at this; exact this)
    obtain ⟨bk, ok, -, hbk, rfl, -⟩ := hks.cells (by omega)
    obtain ⟨a'', rfl, hkk⟩ := hks.part f (u + 1) (by omega) (by omega)
    have hkk : Ks E w (some ⟨bk, ok + f, none⟩) (u + 1 - f) (e - f) (((t.ks.map BT.g).take (u + 1)).drop f) := hkk
    have HCK : Hid (∀ v, Below w.heap.size w v → Calls Try.prog 82 #[.slice (some ⟨bk, ok + f, none⟩) (u + 1 - f) (e - f)] v fun e w' => ∃ x, e = .returned x ∧ MadeN v x (((t.ks.map BT.g).take (u + 1)).drop f) w') := Lib.hid (fun v hb => cloneNs_any _ _ _ _ _ v (hkk.below hb) (by omega))
    obtain ⟨ks2, hks2⟩ : ∃ ks2, ks2 = (t.ks.take (u + 1)).drop f := ⟨_, rfl⟩
    have e2 : ((t.ks.map BT.g).take (u + 1)).drop f = ks2.map BT.g := by rw [hks2, List.map_drop, List.map_take]
    rw [e2] at HCK
    rw [← hks2]
    have HKS : Hid (∀ k, k ∈ ks2 → k ∈ t.ks) := Lib.hid (fun k hk => by rw [hks2] at hk; exact List.mem_of_mem_take (List.mem_of_mem_drop hk))
    obtain ⟨tg, htg⟩ : ∃ tg, tg = t.g := ⟨_, rfl⟩
    rw [← htg] at c0 c1 HL hgl ⊢
    obtain ⟨tk, htk⟩ : ∃ tk, tk = t :: t.ks := ⟨_, rfl⟩
    have HKS : Hid (∀ k, k ∈ ks2 → k ∈ tk) := Lib.hid (fun k hk => by rw [htk]; exact List.mem_cons_of_mem _ (HKS.out k hk))
    rw [← htk] at HALL ⊢
    have hu1 : IntKind.i64.wrap ((u : Int) + 1) = (u : Int) + 1 := i64_id _ (by omega) (by omega)
    have hue : (u : Int) + 1 ≤ (e : Int) := by omega
    have hfu1 : (f : Int) ≤ (u : Int) + 1 := by omega
    have hut : ((u : Int) + 1).toNat = u + 1 := by omega
    have hef : ¬ e = f := by omega
    clear hpp hps hqs h hl hkd hks hml hgb hgnd htg htk hE hn hkk hks2 e2 hk1
    have CB : Hid (∀ v, Below w.heap.size w v → v.cell? ⟨tg, 1, none⟩ = some (.slice (some ⟨bk, ok, none⟩) m e)) := Lib.hid (fun v hb => (hb.cell (p := ⟨tg, 1, none⟩) hgl).trans c1)
    go_enter Try.func70, Try.ntmps70
    go_upto_region 2 with (first
      | (go_at_call 81; refine HC.out.mono ?_; rintro e w2 ⟨v, rfl, k, ho, hk, hb⟩; obtain ⟨av, cv, rfl, -⟩ := id ho.sl; have HO := Lib.hid ho; have HK := Lib.hid hk; have HB := Lib.hid hb; clear ho hk hb))
    obtain ⟨w3, hw3⟩ : ∃ w3, w3 = w2.alloc (.cells #[.slice av qs.length cv, .slice none 0 0] 94) := ⟨_, rfl⟩
    obtain ⟨gc, hgc⟩ : ∃ gc, gc = w2.heap.size := ⟨_, rfl⟩
    have hb3 : Below w.heap.size w w3 := by rw [hw3]; exact HB.out.alloc HB.out.size _
    have hon : ONx E w w3 gc k none (.slice av qs.length cv) (.slice none 0 0) qs [] tk := by
      refine ⟨by rw [hw3, hgc]; exact heap_new rfl, ?_, Own.nil _ _ _, ?_, (by simp), (fun _ _ => by simp), by rw [hgc]; exact HB.out.size, HK.out, (fun _ h => by cases h), fun q hq => (HALL.out q (by simpa using hq)).off hb3 (by rw [hgc]; exact HB.out.size) HK.out (fun _ h => by cases h), hb3⟩
      · rw [hw3]; exact HO.out.kept ((Kept.refl (fun _ => False) w2).alloc _) (fun _ _ h => h)
      · intro e
        have := HO.out.lt gc e
        omega
    have HON := Lib.hid hon
    have HB3 := Lib.hid hb3
    have c13 := CB.out _ hb3
    rw [← hw3, ← hgc]
    clear hw3 hgc hb3 hon HO HK HALL c0 c1
    go_wp2_with (first
      | (go_at_call 69; refine (HL.out _ HB3.out).mono ?_; rintro e w4 ⟨rfl, rfl⟩)
      | (go_at_call 82; refine (HCK.out _ HB3.out).mono ?_; rintro e w4 ⟨v4, rfl, k4, ho4, hk4, hb4⟩; rw [List.length_map] at ho4; obtain ⟨av4, cv4, rfl, -⟩ := id ho4.sl; have hbl4 := (hb4.block gc HON.out.lt).trans HON.out.blk; have cc4 := cell_of_row _ gc 1 _ _ _ hbl4; have fz4 := frozen_of_row _ gc 1 _ _ hbl4; have HO4 := Lib.hid ho4; have HK4 := Lib.hid hk4; have HB4 := Lib.hid hb4; clear ho4 hk4 hb4))
    go_ret
    exact ⟨gc, rfl, k, k4, _, _, HON.out.newK HO4.out (fun j e => .inr (HK4.out j e)) (Kept.of_below _ HB4.out) (fun q hq => by simpa using HKS.out q hq) (fun q hq => by simpa using hq)⟩
end Go.Proofs.Ytfgmhidgkemfoaa
namespace Go.Proofs.Ytfgmhidgkemfoaa
open Go.RowKit
set_option linter.unusedSimpArgs false
set_option linter.unusedVariables false
theorem run_copy_rowK {P : Program} (w : World) (dT sT ty elem : TypeId) (size g o dLen dCap : Nat) (a : Addr) (sLen sCap m : Nat) (cur : Array Value) (t : TypeId) (cs : List Value)
    (hu : P.underlying dT = some (.slice elem)) (hs : (P.info? elem).map (·.size) = some size)
    (hg : w.heap[g]? = some (.cells cur t (0, 0))) (hm : m = Nat.min sLen dLen) (hn : cs.length = m * size)
    (hsrc : ∀ j v, cs[j]? = some v → w.cell? (a.add j) = some v) (hfit : o + cs.length ≤ cur.size) (h1 : ∀ v ∈ cs, v.oneCell' = true) :
    (Builtin.copy_ #[dT, sT] ty #[.slice (some ⟨g, o, none⟩) dLen dCap, .slice (some a) sLen sCap]).run P w =
      .ok (goInt m) (w.setRow g (cur.toList.take o ++ cs ++ cur.toList.drop (o + cs.length)).toArray) := by
  have hl := run_loadCells_list (P := P) w a cs hsrc
  have hst := run_storeCells_at P g o t cs 0 cur w hg (by simpa using hfit) h1
  cases hq : P.info? elem with
  | none => simp [hq] at hs
  | some i =>
    have hi : i.size = size := by simpa [hq] using hs
    simp [Builtin.copy_, run_underlying hu, Builtin.lenOf, Builtin.firstCells, sizeOf, typeInfo, hq, hi, ← hn, ← hm, hl, hst]
/-- a row as it lies -/
theorem Own.row {w : World} {e : TypeId} {size : Nat} {g : Nat} {v : Value} {n : Nat} {xs : List Value} (h : Own w e size (some g) v n xs) : ∃ cap cur, v = .slice (some ⟨g, 0, none⟩) n cap ∧ w.heap[g]? = some (.cells cur e (0, 0)) ∧ n ≤ cap ∧ cap ≤ maxLen ∧ cur.size = cap * size ∧ cur.toList.take (n * size) = xs := by
  rcases h.2 with ⟨e0, -⟩ | ⟨g', cap, cur, e0, rest⟩
  · cases e0
  · cases e0; exact ⟨cap, cur, rest⟩
theorem Own.of {w : World} {e : TypeId} {size g cap n : Nat} {cur : Array Value} {xs : List Value} (hg : w.heap[g]? = some (.cells cur e (0, 0))) (hn : n ≤ cap) (hm : cap ≤ maxLen) (hs : cur.size = cap * size) (ht : cur.toList.take (n * size) = xs) : Own w e size (some g) (.slice (some ⟨g, 0, none⟩) n cap) n xs :=
  ⟨by rw [← ht, List.length_take, Array.length_toList, hs]; exact Nat.min_eq_left (Nat.mul_le_mul_right _ hn), .inr ⟨g, cap, cur, rfl, rfl, hg, hn, hm, hs, ht⟩⟩
/-- a row has been changed in its block, or lies in a new one -/
def RowTo (w w' : World) (k k' : Option Nat) : Prop := (∀ j, k' = some j → k = some j ∨ w.heap.size ≤ j) ∧ Kept (fun j => k = some j) w w'
def insC (xs pv : List Value) (a : Nat) : List Value := xs.take a ++ (pv ++ xs.drop a)
theorem shift_cells {α : Type} (cur xs pv : List α) (a s N : Nat) (hs : pv.length = s) (ha : a ≤ N) (hN : N + s ≤ cur.length) (hx : cur.take N = xs) :
    (((cur.take (a + s) ++ xs.drop a ++ cur.drop (a + s + (xs.drop a).length)).take a ++ pv ++ (cur.take (a + s) ++ xs.drop a ++ cur.drop (a + s + (xs.drop a).length)).drop (a + pv.length))).take (N + s) = xs.take a ++ (pv ++ xs.drop a) := by
  rw [← List.append_assoc (xs.take a)]
  have hl : xs.length = N := by rw [← hx, List.length_take]; omega
  have e1 : (cur.take (a + s) ++ xs.drop a ++ cur.drop (a + s + (xs.drop a).length)).take a = xs.take a := by
    rw [List.append_assoc, List.take_append_of_le_length (by rw [List.length_take]; omega), List.take_take, ← hx, List.take_take, show min a (a + s) = a by omega, show min a N = a by omega]
  have e2 : (cur.take (a + s) ++ xs.drop a ++ cur.drop (a + s + (xs.drop a).length)).drop (a + pv.length) = xs.drop a ++ cur.drop (a + s + (xs.drop a).length) := by
    rw [List.append_assoc]
    have h0 : (cur.take (a + s)).length = a + pv.length := by rw [List.length_take]; omega
    rw [← h0, List.drop_left]
  rw [e1, e2, ← List.append_assoc, List.take_append_of_le_length (by simp only [List.length_append, List.length_take, List.length_drop]; omega), List.take_of_length_le (by simp only [List.length_append, List.length_take, List.length_drop]; omega)]
theorem grow_cells {α : Type} (r xs pv : List α) (a s N : Nat) (hs : pv.length = s) (hl : xs.length = N) (ha : a ≤ N) (hN : N + s ≤ r.length) (hx : r.take a = xs.take a) :
    (((r.take a ++ pv ++ r.drop (a + pv.length)).take (a + s) ++ xs.drop a ++ (r.take a ++ pv ++ r.drop (a + pv.length)).drop (a + s + (xs.drop a).length))).take (N + s) = xs.take a ++ (pv ++ xs.drop a) := by
  rw [← List.append_assoc (xs.take a)]
  have e1 : (r.take a ++ pv ++ r.drop (a + pv.length)).take (a + s) = xs.take a ++ pv := by
    have h0 : (r.take a ++ pv).length = a + s := by simp only [List.length_append, List.length_take]; omega
    rw [← h0, List.take_left, hx]
  rw [e1, List.take_append_of_le_length (by simp only [List.length_append, List.length_take, List.length_drop]; omega), List.take_of_length_le (by simp only [List.length_append, List.length_take, List.length_drop]; omega)]
end Go.Proofs.Ytfgmhidgkemfoaa
namespace Go.Proofs.Ytfgmhidgkemfoaa
open Go.RowKit
set_option linter.unusedSimpArgs false
set_option linter.unusedVariables false
set_option maxRecDepth 100000 in
set_option maxHeartbeats 2000000 in
theorem insertP_any (w : World) (k : Option Nat) (v : Value) (n : Nat) (xs pv : List Value) (i S : Nat) (tS : TypeId) (hown : Own w 65 2 k v n xs) (hpl : pv.length = 2) (h1x : ∀ u ∈ xs, u.oneCell' = true) (h1p : ∀ u ∈ pv, u.oneCell' = true) (hi : i ≤ n) (hn : n ≤ 1000) (hS : w.heap[S]? = some (.cells pv.toArray tS (0, 0))) (hSk : k ≠ some S) :
    Calls Try.prog 71 #[v, .int .i64 (i : Int), .slice (some ⟨S, 0, none⟩) 1 1] w fun e w' => ∃ k' v', e = .returned v' ∧ Own w' 65 2 k' v' (n + 1) (insC xs pv (i * 2)) ∧ RowTo w w' k k' := by
  obtain ⟨i0, hi0, hz0, hz1, hz2⟩ := info_parts infoP
  have mixed : Try.prog.follows .mixedOrders = true := by kernel_rfl
  have hsz : (Try.prog.info? 65).map (·.size) = some 2 := by rw [hi0]; simp [hz1]
  have hSl : S < w.heap.size := (Array.getElem?_eq_some_iff.1 hS).1
  have hsp : ∀ (W : World), W.heap[S]? = some (.cells pv.toArray tS (0, 0)) → ∀ j u, pv[j]? = some u → W.cell? ⟨S, 0 + j, none⟩ = some u := fun W hW j u hj => by
    rw [Nat.zero_add, cell_of_row W S j _ _ _ hW]
    simpa using hj
  have hsrc : Src Try.prog 2 26 (.slice (some ⟨S, 0, none⟩) 1 1) 1 pv w := Src.ofSlice w Try.underlying26 ⟨S, 0, none⟩ 1 1 pv (by omega) (fun j u hj => by rw [Addr.add_lit]; exact hsp w hS j u hj) h1p
  have hxl := hown.1
  by_cases hin : i = n
  · subst hin
    have HR : ∀ k' v' w', Own w' 65 2 k' v' (i + 1) (xs ++ pv) → (∀ j, k' = some j → k = some j ∨ w.heap.size ≤ j) → Kept (fun j => k = some j) w w' → Own w' 65 2 k' v' (i + 1) (insC xs pv (i * 2)) ∧ RowTo w w' k k' := fun k' v' w' h1 h2 h3 => ⟨by unfold insC; rw [List.take_of_length_le (by omega), List.drop_eq_nil_of_le (by omega), List.append_nil]; exact h1, h2, h3⟩
    have HR := Lib.hid HR
    have HOWN := Lib.hid hown
    rcases hown.2 with ⟨rfl, rfl, rfl⟩ | ⟨g, cap, cur, rfl, rfl, hg, hnc, hcm, hcs, htk⟩
    · clear hown hS hxl hsp
      go_enter Try.func71, Try.ntmps71
      go_wp2_with (at_builtin; refine wpList_append_any _ rfl (.tmp 23) (.tmp 24) 26 26 rfl 65 i0 (.agg #[.string ⟨#[]⟩, .string ⟨#[]⟩]) 2 32 Try.underlying26 hi0 hz0 hz1 hz2 rfl none _ 0 xs rfl HOWN.out 1 pv hsrc (by unfold maxLen; omega) (by omega) ?_; intro k' v' w' h1 h2 h3 h4; have H1 := Lib.hid (HR.out _ _ _ h1 h2 h3); clear h1 h2 h3 h4)
      all_goals (go_ret; exact ⟨k', v', rfl, H1.out⟩)
    · have hcm2 : cap ≤ 9223372036854775807 := hcm
      clear hown hS hxl hsp hg hcs htk hcm
      go_enter Try.func71, Try.ntmps71
      go_wp2_with (at_builtin; refine wpList_append_any _ rfl (.tmp 23) (.tmp 24) 26 26 rfl 65 i0 (.agg #[.string ⟨#[]⟩, .string ⟨#[]⟩]) 2 32 Try.underlying26 hi0 hz0 hz1 hz2 rfl (some g) _ i xs rfl HOWN.out 1 pv hsrc (by unfold maxLen; omega) (by omega) ?_; intro k' v' w' h1 h2 h3 h4; have H1 := Lib.hid (HR.out _ _ _ h1 h2 h3); clear h1 h2 h3 h4)
      all_goals (go_ret; exact ⟨k', v', rfl, H1.out⟩)
  · have hlt : i < n := by omega
    obtain ⟨g, rfl⟩ : ∃ g, k = some g := by
      rcases hown.2 with ⟨-, -, e⟩ | ⟨g, _, _, e, -⟩
      · omega
      · exact ⟨g, e⟩
    obtain ⟨cap, cur, rfl, hg, hnc, hcm, hcs, htk⟩ := hown.row
    have hcm2 : cap ≤ 9223372036854775807 := hcm
    have hgl : g < w.heap.size := (Array.getElem?_eq_some_iff.1 hg).1
    have hne : S ≠ g := fun e => hSk (by rw [e])
    have hz2' : ¬ ((i : Int) = (n : Int)) := by omega
    have hu : Try.prog.underlying 26 = some (.slice 65) := Try.underlying26
    have hw1 : IntKind.i64.wrap ((i : Int) + 1) = (i : Int) + 1 := i64_id _ (by omega) (by omega)
    have hwn : IntKind.i64.wrap ((n : Int) + 1) = (n : Int) + 1 := i64_id _ (by omega) (by omega)
    have htn : ((i : Int) + 1).toNat = i + 1 := by omega
    have htn2 : ((n : Int) + 1).toNat = n + 1 := by omega
    have hin1 : (i : Int) ≤ (n : Int) := by omega
    have hin2 : (0 : Int) ≤ (i : Int) + 1 := by omega
    have hin3 : (i : Int) + 1 ≤ (n : Int) + 1 := by omega
    have hin4 : (i : Int) ≤ (n : Int) + 1 := by omega
    have hdl : (xs.drop (i * 2)).length = (n - i) * 2 := by rw [List.length_drop, hxl]; omega
    have hcc : ∀ (W : World), W.heap[g]? = some (.cells cur 65 (0, 0)) → ∀ j u, (xs.drop (i * 2))[j]? = some u → W.cell? ((⟨g, (i * 2), none⟩ : Addr).add j) = some u := fun W hW j u hj => by
      rw [Addr.add_lit, cell_of_row W g _ _ _ _ hW]
      rw [List.getElem?_drop, ← htk, List.getElem?_take] at hj
      split at hj
      · simpa using hj
      · cases hj
    have h1d : ∀ u ∈ xs.drop (i * 2), u.oneCell' = true := fun u hu => h1x u (List.mem_of_mem_drop hu)
    by_cases hroom : n + 1 ≤ cap
    · have hr1 : (n : Int) + 1 ≤ (cap : Int) := by omega
      have hci : ¬ cap = i := by omega
      have hci1 : ¬ cap = i + 1 := by omega
      have hov : ∀ lb cb, (callFunc 83 #[.slice (some ⟨S, 0, none⟩) 1 1, .slice (some ⟨g, ((i + 1) * 2), none⟩) lb cb]).run Try.prog w = .ok (.value (.bool false)) w := fun lb cb => by
        rw [run_callFunc_extern Try.func83 (by kernel_rfl) (by kernel_rfl) (by kernel_rfl) (e := Extern.SlicesOverlaps.overlaps #[26, 26] #[4]) (by kernel_rfl),
          Lib.run_overlaps_apart w 26 4 65 hu 2 Try.sizeOf65 ⟨S, 0, none⟩ ⟨g, ((i + 1) * 2), none⟩ 1 1 lb cb hne tS 65 pv.length (cap * 2) (by simp [World.shape?, hS]) (by simp [World.shape?, hg, hcs]) (by omega) (frozen_of_row w S 0 _ _ hS) (frozen_of_row w S _ _ _ hS)]
        rfl
      obtain ⟨r1, hr1d⟩ : ∃ r1 : List Value, r1 = cur.toList.take ((i * 2) + 2) ++ xs.drop (i * 2) ++ cur.toList.drop ((i * 2) + 2 + (xs.drop (i * 2)).length) := ⟨_, rfl⟩
      have hr1l : r1.length = cap * 2 := by rw [hr1d]; simp only [List.length_append, List.length_take, List.length_drop, Array.length_toList]; omega
      have hcp1 : ∀ ty dc sc, (Builtin.copy_ #[26, 26] ty #[.slice (some ⟨g, ((i + 1) * 2), none⟩) (n - i) dc, .slice (some ⟨g, (i * 2), none⟩) (n + 1 - i) sc]).run Try.prog w.drew = .ok (goInt (n - i : Nat)) (w.drew.setRow g r1.toArray) := fun ty dc sc => by
        have := run_copy_rowK (P := Try.prog) w.drew 26 26 ty 65 2 g ((i + 1) * 2) (n - i) dc ⟨g, (i * 2), none⟩ (n + 1 - i) sc (n - i) cur 65 (xs.drop (i * 2)) hu hsz hg (by simp only [Nat.min_def]; split <;> omega) hdl (hcc w.drew hg) (by rw [hdl, hcs]; omega) h1d
        rw [this, hr1d]
        first | done | simp only [show ((i + 1) * 2) = (i * 2) + 2 by omega]
      obtain ⟨W1, hW1⟩ : ∃ W1, W1 = w.drew.setRow g r1.toArray := ⟨_, rfl⟩
      rw [← hW1] at hcp1
      have hW1g : W1.heap[g]? = some (.cells r1.toArray 65 (0, 0)) := by rw [hW1]; exact setRow_heap _ _ _ _ _ _ hg
      have hW1S : W1.heap[S]? = some (.cells pv.toArray tS (0, 0)) := by rw [hW1]; exact (setRow_other _ _ _ _ hne).trans hS
      obtain ⟨r2, hr2d⟩ : ∃ r2 : List Value, r2 = r1.take (i * 2) ++ pv ++ r1.drop ((i * 2) + pv.length) := ⟨_, rfl⟩
      have hcp2 : ∀ ty dc, (Builtin.copy_ #[26, 26] ty #[.slice (some ⟨g, (i * 2), none⟩) (n + 1 - i) dc, .slice (some ⟨S, 0, none⟩) 1 1]).run Try.prog W1 = .ok (goInt (1 : Nat)) (W1.setRow g r2.toArray) := fun ty dc => by
        have := run_copy_rowK (P := Try.prog) W1 26 26 ty 65 2 g (i * 2) (n + 1 - i) dc ⟨S, 0, none⟩ 1 1 1 r1.toArray 65 pv hu hsz hW1g (by simp only [Nat.min_def]; split <;> omega) (by omega) (fun j u hj => by rw [Addr.add_lit]; exact hsp W1 hW1S j u hj) (by rw [List.size_toArray, hr1l, hpl]; omega) h1p
        rw [this, hr2d]
      have HF : Hid (Own (W1.setRow g r2.toArray) 65 2 (some g) (.slice (some ⟨g, 0, none⟩) (n + 1) cap) (n + 1) (insC xs pv (i * 2)) ∧ RowTo w (W1.setRow g r2.toArray) (some g) (some g)) := Lib.hid ⟨Own.of (setRow_heap _ _ _ _ _ _ hW1g) hroom hcm (by rw [hr2d]; simp only [List.size_toArray, List.length_append, List.length_take, List.length_drop]; omega) (by
          unfold insC
          rw [hr2d, hr1d, show (n + 1) * 2 = n * 2 + 2 by omega]
          exact shift_cells cur.toList xs pv (i * 2) 2 (n * 2) hpl (by omega) (by rw [Array.length_toList]; omega) htk), fun j h => .inl h, by
          rw [hW1]
          exact (((Kept.refl (fun j => some g = some j) w).drew).setRow (fun _ => rfl) _).setRow (fun _ => rfl) _⟩
      have HCP1 := Lib.hid hcp1
      have HCP2 := Lib.hid hcp2
      have HOV := Lib.hid hov
      clear hcp1 hcp2 hov hW1 hW1g hW1S hr1d hr2d hr1l hown hsrc hsp hcc hg hS htk hxl hdl h1d h1x h1p hpl hcs
      go_enter Try.func71, Try.ntmps71
      go_upto_region 15 with (simp only [HOV.out])
      go_region_law_o (refine step_copy_runI rfl (.tmp 73) (.tmp 76) 26 26 rfl (.slice (some ⟨g, ((i + 1) * 2), none⟩) (n - i) (cap - (i + 1))) (.slice (some ⟨g, (i * 2), none⟩) (n + 1 - i) (cap - i)) (by simp [Act.eval, Act.put]) (by simp [Act.eval, Act.put]) (HCP1.out _ _ _) ?_)
      go_upto_region 16 with fail
      go_wp2_with (refine wpList_copy_runI _ rfl (.tmp 80) (.tmp 81) 26 26 rfl (.slice (some ⟨g, (i * 2), none⟩) (n + 1 - i) (cap - i)) (.slice (some ⟨S, 0, none⟩) 1 1) rfl rfl (HCP2.out _ _) ?_)
      go_ret
      exact ⟨some g, _, rfl, HF.out⟩
    · obtain rfl : cap = n := by omega
      have hr1 : ¬ ((cap : Int) + 1 ≤ (cap : Int)) := by omega
      have hr2 : (cap : Int) < (cap : Int) + 1 := by omega
      have hci : ¬ cap = i := by omega
      obtain ⟨G, hG⟩ : ∃ G, G = grownCap w (cap + 1) cap 65 := ⟨_, rfl⟩
      have hGn : cap + 1 ≤ G := by rw [hG]; exact grownCap_ge w _ _ _
      have hGm : G ≤ maxLen := by rw [hG]; exact grownCap_le_maxLen w (cap + 1) cap 65 (by unfold maxLen; omega)
      have hG63 : G ≤ 9223372036854775807 := hGm
      have hGi : ¬ G = i := by omega
      have hGi1 : ¬ G = i + 1 := by omega
      have hin0 : i + (cap + 1 - i) = cap + 1 := by omega
      have hkk : (cap : Int) + 1 - (i : Int) = ((cap + 1 - i : Nat) : Int) := by omega
      have hwk : IntKind.i64.wrap ((cap : Int) + 1 - (i : Int)) = (cap : Int) + 1 - (i : Int) := i64_id _ (by omega) (by omega)
      have hold : (Builtin.firstCells i0.size i (.slice (some ⟨g, 0, none⟩) i cap)).run Try.prog w.drew = .ok (xs.take (i * 2)).toArray w.drew := by
        rw [hz1]
        refine run_firstCells_some w.drew 2 i ⟨g, 0, none⟩ i cap (xs.take (i * 2)) (by rw [List.length_take]; omega) (fun j u hj => ?_)
        rw [Addr.add_lit, Nat.zero_add, cell_of_row w.drew g _ _ _ _ hg]
        rw [← htk, List.getElem?_take, List.getElem?_take] at hj
        split at hj
        · split at hj
          · simpa using hj
          · cases hj
        · cases hj
      obtain ⟨ROW, hROW⟩ : ∃ ROW : Array Value, ROW = (xs.take (i * 2)).toArray ++ Builtin.zeroCells ((.agg #[.string ⟨#[]⟩, .string ⟨#[]⟩]) : Value).cells (cap + 1 - i) ++ Builtin.zeroCells ((.agg #[.string ⟨#[]⟩, .string ⟨#[]⟩]) : Value).cells (G - (cap + 1)) := ⟨_, rfl⟩
      have hRl : ROW.size = G * 2 := by rw [hROW]; simp [Builtin.zeroCells, Value.cells]; omega
      have hRt : ROW.toList.take (i * 2) = xs.take (i * 2) := by
        rw [hROW]
        simp only [Array.toList_append, List.append_assoc]
        rw [List.take_append_of_le_length (by rw [List.length_take]; omega), List.take_of_length_le (by simp only [List.length_take]; omega)]
      have hrz : ∀ ty, (Builtin.append_ #[26, 3] ty #[.slice (some ⟨g, 0, none⟩) i cap, .int .i64 ((cap : Int) + 1 - (i : Int))]).run Try.prog w = .ok (.slice (some ⟨w.heap.size, 0, none⟩) (cap + 1) G) (w.drew.alloc (.cells ROW 65)) := fun ty => by
        have h := Lib.run_append_grow_zeros (P := Try.prog) w 26 3 ty 65 i0 (.agg #[.string ⟨#[]⟩, .string ⟨#[]⟩]) .i64 .i64 hu Try.underlying3 hi0 hz0 (some ⟨g, 0, none⟩) i cap (xs.take (i * 2)) hold (cap + 1 - i) (by omega) (by omega) (by omega) (by omega) (by rw [hz2]; omega) (by rw [hz2, hin0]; exact growslice_fits (by omega) (by omega))
        rw [hin0] at h
        rw [hkk, hROW, hG]
        exact h
      obtain ⟨W1, hW1⟩ : ∃ W1, W1 = w.drew.alloc (.cells ROW 65) := ⟨_, rfl⟩
      obtain ⟨N, hN⟩ : ∃ N, N = w.heap.size := ⟨_, rfl⟩
      have hW1N : W1.heap[N]? = some (.cells ROW 65 (0, 0)) := by rw [hW1, hN]; exact heap_new rfl
      have hW1S : W1.heap[S]? = some (.cells pv.toArray tS (0, 0)) := by rw [hW1]; exact heap_old hS
      have hW1g : W1.heap[g]? = some (.cells cur 65 (0, 0)) := by rw [hW1]; exact heap_old hg
      have hgN : g ≠ N := by omega
      have hSN : S ≠ N := by omega
      obtain ⟨r1, hr1d⟩ : ∃ r1 : List Value, r1 = ROW.toList.take (i * 2) ++ pv ++ ROW.toList.drop ((i * 2) + pv.length) := ⟨_, rfl⟩
      have hr1l : r1.length = G * 2 := by rw [hr1d]; simp only [List.length_append, List.length_take, List.length_drop, Array.length_toList]; omega
      have hcp1 : ∀ W, W.heap = W1.heap → ∀ ty dc, (Builtin.copy_ #[26, 26] ty #[.slice (some ⟨N, (i * 2), none⟩) (cap + 1 - i) dc, .slice (some ⟨S, 0, none⟩) 1 1]).run Try.prog W = .ok (goInt (1 : Nat)) (W.setRow N r1.toArray) := fun W hW ty dc => by
        have := run_copy_rowK (P := Try.prog) W 26 26 ty 65 2 N (i * 2) (cap + 1 - i) dc ⟨S, 0, none⟩ 1 1 1 ROW 65 pv hu hsz (by rw [hW]; exact hW1N) (by simp only [Nat.min_def]; split <;> omega) (by omega) (fun j u hj => by rw [Addr.add_lit]; exact hsp W (by rw [hW]; exact hW1S) j u hj) (by rw [hpl, hRl]; omega) h1p
        rw [this, hr1d]
      have hW2N : (W1.setRow N r1.toArray).heap[N]? = some (.cells r1.toArray 65 (0, 0)) := setRow_heap _ _ _ _ _ _ hW1N
      have hW2g : (W1.setRow N r1.toArray).heap[g]? = some (.cells cur 65 (0, 0)) := (setRow_other _ _ _ _ hgN).trans hW1g
      obtain ⟨r2, hr2d⟩ : ∃ r2 : List Value, r2 = r1.take ((i * 2) + 2) ++ xs.drop (i * 2) ++ r1.drop ((i * 2) + 2 + (xs.drop (i * 2)).length) := ⟨_, rfl⟩
      have hcp2 : ∀ W, W.heap = (W1.setRow N r1.toArray).heap → ∀ ty dc sc, (Builtin.copy_ #[26, 26] ty #[.slice (some ⟨N, ((i + 1) * 2), none⟩) (cap - i) dc, .slice (some ⟨g, (i * 2), none⟩) (cap - i) sc]).run Try.prog W = .ok (goInt (cap - i : Nat)) (W.setRow N r2.toArray) := fun W hW ty dc sc => by
        have := run_copy_rowK (P := Try.prog) W 26 26 ty 65 2 N ((i + 1) * 2) (cap - i) dc ⟨g, (i * 2), none⟩ (cap - i) sc (cap - i) r1.toArray 65 (xs.drop (i * 2)) hu hsz (by rw [hW]; exact hW2N) (by simp only [Nat.min_def]; split <;> omega) hdl (hcc W (by rw [hW]; exact hW2g)) (by rw [hdl, List.size_toArray, hr1l]; omega) h1d
        rw [this, hr2d]
        first | done | simp only [show ((i + 1) * 2) = (i * 2) + 2 by omega]
      have HF : Hid (∀ W, Kept (fun j => some g = some j) w W → W.heap[N]? = some (.cells r2.toArray 65 (0, 0)) → Own W 65 2 (some N) (.slice (some ⟨N, 0, none⟩) (cap + 1) G) (cap + 1) (insC xs pv (i * 2)) ∧ RowTo w W (some g) (some N)) := Lib.hid (fun W hK hW => ⟨Own.of hW hGn hGm (by rw [hr2d]; simp only [List.size_toArray, List.length_append, List.length_take, List.length_drop]; omega) (by
          unfold insC
          rw [hr2d, hr1d, show (cap + 1) * 2 = cap * 2 + 2 by omega]
          exact grow_cells ROW.toList xs pv (i * 2) 2 (cap * 2) hpl hxl (by omega) (by rw [Array.length_toList]; omega) hRt), fun j h => by cases h; exact .inr (by omega), hK⟩)
      have HW1N := Lib.hid hW1N
      rw [← hN] at hrz
      have HRZ := Lib.hid hrz
      have HCP1 := Lib.hid hcp1
      have HCP2 := Lib.hid hcp2
      clear hcp1 hcp2 hrz hW1N hW1S hW1g hW2N hW2g hr1d hr2d hr1l hown hsrc hsp hcc hS htk hxl hdl h1d h1x h1p hpl hcs hROW hRl hRt hG hold hgN hSN hne hSk hkk hin0
      go_enter Try.func71, Try.ntmps71
      subst hN
      subst hW1
      go_upto_region 10 with (at_builtin; refine Lib.wpList_append_run _ rfl (.tmp 34) (.tmp 39) 26 3 rfl (.slice (some ⟨g, 0, none⟩) i cap) (.int .i64 ((cap : Int) + 1 - (i : Int))) rfl rfl _ _ (HRZ.out _) ?_)
      go_upto_region 11 with (refine wpList_copy_runI _ rfl (.tmp 43) (.tmp 44) 26 26 rfl (.slice (some ⟨w.heap.size, (i * 2), none⟩) (cap + 1 - i) (G - i)) (.slice (some ⟨S, 0, none⟩) 1 1) rfl rfl (HCP1.out _ (by rfl) _ _) ?_)
      go_region_law_o (refine step_copy_runI rfl (.tmp 50) (.tmp 53) 26 26 rfl (.slice (some ⟨w.heap.size, ((i + 1) * 2), none⟩) (cap - i) (G - (i + 1))) (.slice (some ⟨g, (i * 2), none⟩) (cap - i) (cap - i)) (by simp [Act.eval, Act.put]) (by simp [Act.eval, Act.put]) (HCP2.out _ (by rfl) _ _ _) ?_)
      go_wp2_with fail
      go_ret
      refine ⟨some w.heap.size, _, rfl, HF.out _ ?_ ?_⟩
      · exact (((((Kept.refl (fun j => some g = some j) w).alloc _).drew.setRow (fun h => absurd h (Nat.lt_irrefl _)) _).drew).setRow (fun h => absurd h (Nat.lt_irrefl _)) _)
      · exact setRow_heap (World.drew _) _ r1.toArray _ _ _ (setRow_heap (w.alloc (.cells ROW 65)).drew _ ROW r1.toArray _ _ (show (w.alloc (.cells ROW 65)).heap[_]? = _ from heap_new rfl))
end Go.Proofs.Ytfgmhidgkemfoaa

/-
  Texts K0, S1, M1, A0, S2, S3, S4, S5, R0, R1, R2, one behind the other.
-/
import Derived.Laws.AppendOwn
import Derived.Laws.OwnMore
import Derived.Deep.AppendSrc
import Derived.Deep.MidRow
import Derived.Lib.Hide
import Derived.Maps.RangeRun
import Derived.Maps.Range
import Derived.Maps.OwnOps
import Derived.Maps.RangeWalk
import GoSem.Claim
import Derived.WalkKit
import Derived.WalkSpells
import Derived.WalkLawsBesides
import Derived.Deep.Cut
import Derived.Deep.RegionWith
import Derived.Deep.DrawnRows
import Derived.StillTailTactics
import Derived.Carry
import Derived.Laws.CopyOwn
import Derived.Orders
import Derived.Tactics
import Derived.Test.YthffegfcgmhppaaDoorRows
namespace Go.Proofs.YthffegfcgmhppaaDoor
open Go.RowKit
/-- only blocks in S have changed -/
structure Kept (S : Nat → Prop) (w w' : World) : Prop where
  os : w'.os = w.os
  tape : w'.tape = w.tape
  output : w'.output = w.output
  size : w.heap.size ≤ w'.heap.size
  block : ∀ k, k < w.heap.size → ¬ S k → w'.heap[k]? = w.heap[k]?
theorem Kept.refl (S : Nat → Prop) (w : World) : Kept S w w := ⟨rfl, rfl, rfl, Nat.le_refl _, fun _ _ _ => rfl⟩
theorem Kept.trans {S T : Nat → Prop} {a b c : World} (h : Kept S a b) (k : Kept T b c) (hT : ∀ j, j < a.heap.size → T j → S j) : Kept S a c :=
  ⟨k.os.trans h.os, k.tape.trans h.tape, k.output.trans h.output, Nat.le_trans h.size k.size, fun i hi hs => (k.block i (Nat.lt_of_lt_of_le hi h.size) (fun ht => hs (hT i hi ht))).trans (h.block i hi hs)⟩
theorem Kept.mono {S T : Nat → Prop} {w w' : World} (h : Kept S w w') (hT : ∀ j, j < w.heap.size → S j → T j) : Kept T w w' :=
  ⟨h.os, h.tape, h.output, h.size, fun i hi ht => h.block i hi (fun hs => ht (hT i hi hs))⟩
theorem Kept.below {S : Nat → Prop} {w w' : World} {B : Nat} (h : Kept S w w') (hB : B ≤ w.heap.size) (hS : ∀ j, j < B → ¬ S j) : Below B w w' :=
  ⟨h.os, h.tape, h.output, h.size, fun k hk => h.block k (by omega) (hS k hk)⟩
theorem Kept.of_below {w w' : World} (S : Nat → Prop) (h : Below w.heap.size w w') : Kept S w w' := ⟨h.os, h.tape, h.output, h.size, fun k hk _ => h.block k hk⟩
theorem Kept.drew {S : Nat → Prop} {a w : World} (h : Kept S a w) : Kept S a w.drew := ⟨h.os, h.tape, h.output, h.size, h.block⟩
theorem Kept.alloc {S : Nat → Prop} {a w : World} (h : Kept S a w) (o : Obj) : Kept S a (w.alloc o) :=
  h.trans (T := S) ⟨rfl, rfl, rfl, by simp, fun k hk _ => Below.heap_alloc _ _ _ hk⟩ (fun _ _ h => h)
theorem Kept.setCell {S : Nat → Prop} {a w : World} (h : Kept S a w) {p : Addr} (hp : p.block < a.heap.size → S p.block) (u : Value) : Kept S a (w.setCell p u) :=
  ⟨h.os, h.tape, h.output, by simpa [World.setCell] using h.size, fun k hk hs => (Below.heap_setCell _ _ _ _ (fun e => hs (by rw [e]; exact hp (by rw [← e]; exact hk)))).trans (h.block k hk hs)⟩
theorem Kept.setRow {S : Nat → Prop} {a w : World} (h : Kept S a w) {g : Nat} (hp : g < a.heap.size → S g) (cs : Array Value) : Kept S a (w.setRow g cs) :=
  ⟨h.os, h.tape, h.output, by simpa [World.setRow] using h.size, fun k hk hs => (setRow_other w g k _ (fun e => hs (by rw [e]; exact hp (by rw [← e]; exact hk)))).trans (h.block k hk hs)⟩
theorem Kept.grown {w w' : World} {k : Option Nat} (h : w.grownBy w' k) : Kept (fun j => k = some j) w w' :=
  ⟨h.os, h.tape, h.output, h.size, fun j hj hs => h.block j hj (fun e => hs e.symm)⟩
theorem Kept.cell {S : Nat → Prop} {w w' : World} (h : Kept S w w') {p : Addr} (hp : p.block < w.heap.size) (hs : ¬ S p.block) : w'.cell? p = w.cell? p := World.cell?_of_block (w := w) (h.block p.block hp hs)
theorem Kept.frozen {S : Nat → Prop} {w w' : World} (h : Kept S w w') {p : Addr} (hp : p.block < w.heap.size) (hs : ¬ S p.block) : w'.frozen? p = w.frozen? p := World.frozen?_of_block (w := w) (h.block p.block hp hs)
theorem Kept.heap {S : Nat → Prop} {w w' : World} (h : Kept S w w') {g : Nat} {o : Obj} (hg : w.heap[g]? = some o) (hs : ¬ S g) : w'.heap[g]? = some o :=
  (h.block g (Array.getElem?_eq_some_iff.1 hg).1 hs).trans hg
/-- a row of one's own in block k: the nil slice, or the head of a block whose first cells are xs -/
def Own (w : World) (e : TypeId) (size : Nat) (k : Option Nat) (v : Value) (n : Nat) (xs : List Value) : Prop :=
  xs.length = n * size ∧ ((k = none ∧ v = .slice none 0 0 ∧ n = 0) ∨
    ∃ g cap cur, k = some g ∧ v = .slice (some ⟨g, 0, none⟩) n cap ∧ w.heap[g]? = some (.cells cur e (0, 0)) ∧ n ≤ cap ∧ cap ≤ maxLen ∧ cur.size = cap * size ∧ cur.toList.take (n * size) = xs)
theorem Own.nil (w : World) (e : TypeId) (size : Nat) : Own w e size none (.slice none 0 0) 0 [] := ⟨by simp, .inl ⟨rfl, rfl, rfl⟩⟩
theorem Own.made (w : World) (e : TypeId) (size : Nat) (cur : Array Value) (n : Nat) (hm : n ≤ maxLen) (hs : cur.size = n * size) :
    Own (w.alloc (.cells cur e)) e size (some w.heap.size) (.slice (some ⟨w.heap.size, 0, none⟩) n n) n cur.toList :=
  ⟨by simpa using hs, .inr ⟨w.heap.size, n, cur, rfl, rfl, heap_alloc_new w _, Nat.le_refl _, hm, hs, List.take_of_length_le (by simp [hs])⟩⟩
theorem Own.lt {w : World} {e : TypeId} {size : Nat} {k : Option Nat} {v : Value} {n : Nat} {xs : List Value} (h : Own w e size k v n xs) : ∀ j, k = some j → j < w.heap.size := by
  intro j hj
  rcases h.2 with ⟨rfl, _⟩ | ⟨g, cap, cur, rfl, _, hg, _⟩
  · cases hj
  · cases hj; exact (Array.getElem?_eq_some_iff.1 hg).1
theorem Own.kept {S : Nat → Prop} {w w' : World} {e : TypeId} {size : Nat} {k : Option Nat} {v : Value} {n : Nat} {xs : List Value} (h : Own w e size k v n xs) (hk : Kept S w w') (hs : ∀ j, k = some j → ¬ S j) : Own w' e size k v n xs := by
  refine ⟨h.1, ?_⟩
  rcases h.2 with hn | ⟨g, cap, cur, rfl, rfl, hg, rest⟩
  · exact .inl hn
  · exact .inr ⟨g, cap, cur, rfl, rfl, hk.heap hg (hs g rfl), rest⟩
/-- a slice that reads as these cells; its block lies in D -/
def Sl (D : Nat → Prop) (w : World) (a : Option Addr) (n c : Nat) (xs : List Value) (size : Nat) : Prop :=
  xs.length = n * size ∧ n ≤ c ∧ c ≤ maxLen ∧ (a = none → c = 0) ∧ (0 < n → ∃ b off, D b ∧ a = some ⟨b, off, none⟩ ∧ w.rangeAt b off xs)
theorem range_lt {w : World} {b off : Nat} {xs : List Value} (h : w.rangeAt b off xs) (hx : 0 < xs.length) : b < w.heap.size :=
  block_lt_of_cell (h 0 _ (List.getElem?_eq_getElem hx))
theorem Sl.kept {D S : Nat → Prop} {w w' : World} {a : Option Addr} {n c : Nat} {xs : List Value} {size : Nat} (h : Sl D w a n c xs size) (hz : 0 < size) (hk : Kept S w w') (hd : ∀ b, b < w.heap.size → D b → ¬ S b) : Sl D w' a n c xs size := by
  obtain ⟨h1, h2, h3, h4, h5⟩ := h
  refine ⟨h1, h2, h3, h4, fun hn => ?_⟩
  obtain ⟨b, off, hD, ha, hr⟩ := h5 hn
  have hb := range_lt hr (by rw [h1]; exact Nat.mul_pos hn hz)
  exact ⟨b, off, hD, ha, fun j v hv => (hk.cell hb (hd b hb hD)).trans (hr j v hv)⟩
theorem Sl.dom {D D' : Nat → Prop} {w : World} {a : Option Addr} {n c : Nat} {xs : List Value} {size : Nat} (h : Sl D w a n c xs size) (hd : ∀ b, D b → D' b) : Sl D' w a n c xs size := by
  obtain ⟨h1, h2, h3, h4, h5⟩ := h
  refine ⟨h1, h2, h3, h4, fun hn => ?_⟩
  obtain ⟨b, off, hD, ha, hr⟩ := h5 hn
  exact ⟨b, off, hd b hD, ha, hr⟩
theorem Sl.empty (D : Nat → Prop) (w : World) (a : Option Addr) (c : Nat) (size : Nat) (hc : c ≤ maxLen) (ha : a = none → c = 0) : Sl D w a 0 c [] size :=
  ⟨by simp, Nat.zero_le _, hc, ha, fun h => absurd h (by omega)⟩
theorem Own.sl {w : World} {e : TypeId} {size : Nat} {k : Option Nat} {v : Value} {n : Nat} {xs : List Value} (h : Own w e size k v n xs) : ∃ a c, v = .slice a n c ∧ Sl (fun b => k = some b) w a n c xs size := by
  rcases h.2 with ⟨rfl, rfl, rfl⟩ | ⟨g, cap, cur, rfl, rfl, hg, hn, hm, hsz, htk⟩
  · have : xs = [] := List.eq_nil_of_length_eq_zero (by simpa using h.1)
    subst this
    exact ⟨none, 0, rfl, Sl.empty _ _ _ _ _ (Nat.zero_le _) (fun _ => rfl)⟩
  · refine ⟨_, cap, rfl, h.1, hn, hm, (fun hh => by cases hh), fun hp => ⟨g, 0, rfl, rfl, fun j u hu => ?_⟩⟩
    rw [Nat.zero_add, cell_of_row w g j cur _ _ hg]
    rw [← htk, List.getElem?_take] at hu
    split at hu
    · simpa using hu
    · cases hu
theorem Sl.src {P : Program} {D : Nat → Prop} {w : World} {a : Option Addr} {n c : Nat} {xs : List Value} {size : Nat} {tx e' : TypeId} (h : Sl D w a n c xs size) (hk : P.underlying tx = some (.slice e')) (h1 : ∀ u ∈ xs, u.oneCell' = true) :
    Src P size tx (.slice a n c) n xs w := by
  obtain ⟨hl, hn, hm, ha, hr⟩ := h
  cases a with
  | none =>
    have := ha rfl
    subst this
    obtain rfl : n = 0 := by omega
    obtain rfl : xs = [] := List.eq_nil_of_length_eq_zero (by simpa using hl)
    exact Src.ofNil w hk 0
  | some ad =>
    refine Src.ofSlice w hk ad n c xs hl (fun j u hu => ?_) h1
    by_cases h0 : n = 0
    · subst h0
      obtain rfl : xs = [] := List.eq_nil_of_length_eq_zero (by simpa using hl)
      simp at hu
    · obtain ⟨b, off, _, hab, hcell⟩ := hr (by omega)
      cases hab
      rw [Addr.add_mid]
      exact hcell j u hu
section
variable {P : Program} (w : World)
theorem run_append_room2 (t tx ty e : TypeId) (i : TypeInfo) (ht : P.underlying t = some (.slice e)) (hi : P.info? e = some i)
    (g sLen sCap : Nat) (cur : Array Value) (hg : w.heap[g]? = some (.cells cur e (0, 0)))
    (x : Value) (m : Nat) (news : List Value) (hs : Src P i.size tx x m news w) (hroom : sLen + m ≤ sCap) (hfit : sLen * i.size + news.length ≤ cur.size) :
    (Builtin.append_ #[t, tx] ty #[.slice (some ⟨g, 0, none⟩) sLen sCap, x]).run P w =
      .ok (.slice (some ⟨g, 0, none⟩) (sLen + m) sCap) (w.setRow g (cur.toList.take (sLen * i.size) ++ news ++ cur.toList.drop (sLen * i.size + news.length)).toArray) := by
  have hst := run_storeCells_at P g (sLen * i.size) e news 0 cur w hg (by simpa using hfit) hs.one
  simp only [Nat.add_zero] at hst
  rcases hs.kind with ⟨e', hk⟩ | hk <;> simp [Builtin.append_, run_underlying ht, run_underlying hk, sizeOf, typeInfo, hi, hs.len, hroom, hs.cells, Addr.add_lit, hst]
/-- append onto a row of one's own, of whatever source: the row stays in its block or moves to a new one -/
theorem run_append_any (t tx ty e : TypeId) (i : TypeInfo) (z : Value) (size bytes : Nat) (ht : P.underlying t = some (.slice e)) (hi : P.info? e = some i) (hz : i.zero = some z)
    (hsize : i.size = size) (hby : i.bytes = bytes) (hzs : z.cells.size = size) (k : Option Nat) (v : Value) (n : Nat) (xs : List Value) (hown : Own w e size k v n xs)
    (x : Value) (m : Nat) (news : List Value) (hs : Src P size tx x m news w) (h63 : n + m ≤ maxLen) (hbytes : (n + m) * bytes ≤ 140737488355328) :
    ∃ k' v' w', (Builtin.append_ #[t, tx] ty #[v, x]).run P w = .ok v' w' ∧ Own w' e size k' v' (n + m) (xs ++ news) ∧ (∀ j, k' = some j → k = some j ∨ w.heap.size ≤ j) ∧ Kept (fun j => k = some j) w w' ∧ (0 < m → k' ≠ none) := by
  subst hsize
  subst hby
  have hsmall : n + m ≤ 9223372036854775807 := by simp only [maxLen] at h63; omega
  have hlen : (xs ++ news).length = (n + m) * i.size := by rw [List.length_append, hown.1, hs.newsLen, Nat.add_mul]
  have grows : ∀ (b : Option Addr) (old : Nat), v = .slice b n old → old < n + m → (Builtin.firstCells i.size n (.slice b n old)).run P w.drew = .ok xs.toArray w.drew → ∃ k' v' w', (Builtin.append_ #[t, tx] ty #[v, x]).run P w = .ok v' w' ∧ Own w' e i.size k' v' (n + m) (xs ++ news) ∧ (∀ j, k' = some j → k = some j ∨ w.heap.size ≤ j) ∧ Kept (fun j => k = some j) w w' ∧ (0 < m → k' ≠ none) := by
    intro b old hv ho hf
    subst hv
    have hr := run_append_grow_src (P := P) w t tx ty e i z ht hi hz b n old xs hf x m news hs ho (by omega) (growslice_fits (by omega) hbytes)
    have hge := grownCap_ge w (n + m) old e
    have hcm : grownCap w (n + m) old e ≤ maxLen := grownCap_le_maxLen w (n + m) old e h63
    refine ⟨some w.heap.size, _, _, hr, ⟨hlen, .inr ⟨w.heap.size, _, _, rfl, rfl, heap_alloc_new w.drew _, hge, hcm, ?_, ?_⟩⟩, ?_, ?_, ?_⟩
    · simp only [Array.size_append, List.size_toArray, size_zeroCells, hzs, hlen, ← Nat.add_mul]
      congr 1
      omega
    · simp only [Array.toList_append]
      rw [← hlen]
      exact List.take_left
    · intro j hj; cases hj; exact .inr (Nat.le_refl _)
    · exact (Kept.refl _ w).drew.alloc _
    · intro _ h; cases h
  rcases hown.2 with ⟨rfl, rfl, rfl⟩ | ⟨g, cap, cur, rfl, rfl, hg, hnc, hcm, hcs, htake⟩
  · have hx : xs = [] := List.eq_nil_of_length_eq_zero (by simpa using hown.1)
    subst hx
    by_cases hm : m = 0
    · subst hm
      have hn : news = [] := List.eq_nil_of_length_eq_zero (by simpa using hs.newsLen)
      subst hn
      refine ⟨none, .slice none 0 0, w, ?_, Own.nil w e i.size, (fun _ h => by cases h), Kept.refl _ _, fun h => absurd h (by omega)⟩
      have hc := hs.cells
      rcases hs.kind with ⟨e', hk⟩ | hk <;> simp [Builtin.append_, run_underlying ht, run_underlying hk, sizeOf, typeInfo, hi, hs.len, hc]
    · exact grows none 0 rfl (by omega) (run_firstCells_none w.drew i.size 0 0 0)
  · by_cases hroom : n + m ≤ cap
    · have hfit : n * i.size + news.length ≤ cur.size := by rw [hs.newsLen, hcs, ← Nat.add_mul]; exact Nat.mul_le_mul_right _ hroom
      have hr := run_append_room2 (P := P) w t tx ty e i ht hi g n cap cur hg x m news hs hroom hfit
      refine ⟨some g, _, _, hr, ⟨hlen, .inr ⟨g, cap, _, rfl, rfl, setRow_heap w g cur _ e _ hg, hroom, hcm, ?_, ?_⟩⟩, ?_, ?_, ?_⟩
      · simp only [List.size_toArray, List.length_append, List.length_take, List.length_drop, Array.length_toList]
        omega
      · rw [htake, ← hlen]
        exact List.take_left
      · intro j hj; cases hj; exact .inl rfl
      · exact (Kept.refl (fun j => some g = some j) w).setRow (fun _ => rfl) _
      · intro _ h; cases h
    · obtain ⟨a, c, hv, hsl⟩ := hown.sl
      cases hv
      refine grows _ cap rfl (by omega) (run_firstCells_some w.drew i.size n ⟨g, 0, none⟩ n cap xs hown.1 ?_)
      intro j u hu
      have h0 : 0 < n := by
        rcases Nat.eq_zero_or_pos n with rfl | h
        · have := hown.1
          have := (List.getElem?_eq_some_iff.1 hu).1
          omega
        · exact h
      obtain ⟨b, off, _, hab, hcell⟩ := hsl.2.2.2.2 h0
      cases hab
      rw [Addr.add_mid]
      exact hcell j u hu
theorem wpList_append_any {ops : Array Oper} {rest : List Oper} {o : Oper} {a : Act} {Q : Exit → Act → World → Prop} (hgd : o.guard = none) (s x : Operand) (t tx : TypeId)
    (ho : o.op = .call { callee := .builtin .append, args := #[s, x], argTypes := #[t, tx] })
    (e : TypeId) (i : TypeInfo) (z : Value) (size bytes : Nat) (ht : P.underlying t = some (.slice e)) (hi : P.info? e = some i) (hz : i.zero = some z)
    (hsize : i.size = size) (hby : i.bytes = bytes) (hzs : z.cells.size = size) (k : Option Nat) (v : Value) (n : Nat) (xs : List Value) (hv : a.eval s = v) (hown : Own w e size k v n xs)
    (m : Nat) (news : List Value) (hs : Src P size tx (a.eval x) m news w) (h63 : n + m ≤ maxLen) (hbytes : (n + m) * bytes ≤ 140737488355328)
    (h : ∀ k' v' w', Own w' e size k' v' (n + m) (xs ++ news) → (∀ j, k' = some j → k = some j ∨ w.heap.size ≤ j) → Kept (fun j => k = some j) w w' → (0 < m → k' ≠ none) → wpList P ops Q rest (a.put o.dst v') w') : wpList P ops Q (o :: rest) a w := by
  obtain ⟨k', v', w', hr, h2, h3, h4, h5⟩ := run_append_any (P := P) w t tx o.type e i z size bytes ht hi hz hsize hby hzs k v n xs hown (a.eval x) m news hs h63 hbytes
  refine wpList_plain hgd fun K hK => ?_
  unfold Oper.wp execOp
  simp only [ho, resolve, invoke, builtin, Sem.run_bind, Sem.run_pure, Result.andThen_ok, List.map_toArray, List.map_cons, List.map_nil, hv, hr]
  exact hK _ _ (h k' v' w' h2 h3 h4 h5)
end
end Go.Proofs.YthffegfcgmhppaaDoor
namespace Go.Proofs.YthffegfcgmhppaaDoor
open Go.RowKit
open Go.ChangeMaps Go.MapKept
def ikey (k : Int) : Value := .int .i64 k
def fput (f : Int → Option Value) (k : Int) (v : Value) : Int → Option Value := fun j => if j = k then some v else f j
theorem fput_same (f : Int → Option Value) (k : Int) (v : Value) : fput f k v k = some v := by unfold fput; rw [if_pos rfl]
theorem fput_other (f : Int → Option Value) {k j : Int} (v : Value) (h : j ≠ k) : fput f k v j = f j := by unfold fput; rw [if_neg h]
def fdel (f : Int → Option Value) (k : Int) : Int → Option Value := fun j => if j = k then none else f j
theorem fdel_same (f : Int → Option Value) (k : Int) : fdel f k k = none := by unfold fdel; rw [if_pos rfl]
theorem fdel_other (f : Int → Option Value) {k j : Int} (h : j ≠ k) : fdel f k j = f j := by unfold fdel; rw [if_neg h]
/-- block b is a map of at most N entries, whose keys are numbers: key k has the element f k -/
def Mp (w : World) (b N : Nat) (f : Int → Option Value) : Prop :=
  ∃ es clock, w.heap[b]? = some (.map es clock) ∧ Stamped es clock ∧ es.size ≤ N ∧ (∀ x ∈ es.toList, ∃ k : Int, (Lit.int .i64 k).wf = true ∧ x.key = ikey k ∧ f k = some x.val) ∧ ∀ k v, f k = some v → ∃ x ∈ es.toList, x.key = ikey k
theorem ikey_inj {a b : Int} (h : ikey a = ikey b) : a = b := by simpa [ikey] using h
theorem Mp.lt {w : World} {b N : Nat} {f : Int → Option Value} (h : Mp w b N f) : b < w.heap.size := by
  obtain ⟨es, clock, hb, _⟩ := h
  exact (Array.getElem?_eq_some_iff.1 hb).1
theorem Mp.mono {w : World} {b N M : Nat} {f : Int → Option Value} (h : Mp w b N f) (hM : N ≤ M) : Mp w b M f := by
  obtain ⟨es, clock, hb, hs, hn, h1, h2⟩ := h
  exact ⟨es, clock, hb, hs, Nat.le_trans hn hM, h1, h2⟩
theorem Mp.kept {S : Nat → Prop} {w w' : World} {b N : Nat} {f : Int → Option Value} (h : Mp w b N f) (hk : Kept S w w') (hs : ¬ S b) : Mp w' b N f := by
  obtain ⟨es, clock, hb, rest⟩ := h
  exact ⟨es, clock, hk.heap hb hs, rest⟩
theorem Mp.made (w : World) : Mp (w.alloc (.map #[] 0)) w.heap.size 0 (fun _ => none) :=
  ⟨#[], 0, heap_alloc_new w _, stamped_empty 0, Nat.le_refl _, by simp, fun k v h => by cases h⟩
theorem Mp.wf {w : World} {b N : Nat} {f : Int → Option Value} (h : Mp w b N f) {k : Int} {v : Value} (hk : f k = some v) : (Lit.int .i64 k).wf = true := by
  obtain ⟨es, clock, hb, hs, hn, h1, h2⟩ := h
  obtain ⟨x, hx, hxk⟩ := h2 k v hk
  obtain ⟨k', hw, hk', _⟩ := h1 x hx
  rw [hxk] at hk'
  rw [ikey_inj hk']; exact hw
section
variable {P : Program} {t kt et : TypeId} {w : World} {b N : Nat} {f : Int → Option Value}
theorem Mp.keys (hk : P.underlying kt = some (.int .i64)) {es : Array MapEntry} (h1 : ∀ x ∈ es.toList, ∃ k : Int, (Lit.int .i64 k).wf = true ∧ x.key = ikey k ∧ f k = some x.val) : ∀ e ∈ es.toList, ∃ l, keyOf P kt e.key = some l := by
  intro e he
  obtain ⟨k, hw, hke, _⟩ := h1 e he
  exact ⟨_, by rw [hke]; exact Maps.keyOf_int_mk hk hw⟩
/-- m[k], and v, ok := m[k] -/
theorem Mp.look (h : Mp w b N f) (ht : P.underlying t = some (.map kt et)) (hk : P.underlying kt = some (.int .i64)) {z : Value} (hz : (zeroValue et).run P w = .ok z w) (k : Int) (hw : (Lit.int .i64 k).wf = true) (c : Bool) :
    (Instr.lookup t (.map (some b)) (.int .i64 k) c).run P w = .ok (match f k with | some v => if c then .tuple #[v, .bool true] else v | none => if c then .tuple #[z, .bool false] else z) w := by
  obtain ⟨es, clock, hb, hs, hn, h1, h2⟩ := h
  have K := Maps.int_keyed hk
  have hkey := Maps.keyOf_int_mk hk hw
  rcases K.find w hkey es.toList (Mp.keys hk h1) with ⟨f1, f2⟩ | ⟨j, e0, f1, f2, f3⟩
  · have hf : f k = none := by
      cases hfk : f k with
      | none => rfl
      | some v => obtain ⟨x, hx, hxk⟩ := h2 k v hfk; exact absurd hxk (f2 x hx)
    rw [hf]
    simp [Instr.lookup, run_underlying ht, MapKept.run_getObj_map hb, K.check w _ hkey, f1, hz, Result.andThen]
  · have hm0 : e0 ∈ es.toList := List.mem_of_getElem? f2
    obtain ⟨k', _, hk', hfk⟩ := h1 e0 hm0
    rw [f3] at hk'
    have : k = k' := ikey_inj hk'
    subst this
    rw [hfk]
    simp [Instr.lookup, run_underlying ht, MapKept.run_getObj_map hb, K.check w _ hkey, f1, Result.andThen]
/-- m[k] = v -/
theorem Mp.put (h : Mp w b N f) (ht : P.underlying t = some (.map kt et)) (hk : P.underlying kt = some (.int .i64)) (k : Int) (hw : (Lit.int .i64 k).wf = true) (v : Value) :
    ∃ w', (Instr.mapUpdate t (.map (some b)) (.int .i64 k) v).run P w = .ok () w' ∧ Mp w' b (N + 1) (fput f k v) ∧ Kept (fun j => j = b) w w' ∧ w'.heap.size = w.heap.size := by
  obtain ⟨es, clock, hb, hs, hn, h1, h2⟩ := h
  have K := Maps.int_keyed hk
  have hkey := Maps.keyOf_int_mk hk hw
  have hkept : ∀ o : Obj, Kept (fun j => j = b) w (setBlock w b o) ∧ (setBlock w b o).heap.size = w.heap.size := fun o =>
    ⟨⟨rfl, rfl, rfl, by simp [setBlock], fun j _ hj => heap_setBlock_other hb _ hj⟩, by simp [setBlock]⟩
  rcases K.find w hkey es.toList (Mp.keys hk h1) with ⟨f1, f2⟩ | ⟨j, e0, f1, f2, f3⟩
  · refine ⟨setBlock w b (.map (es.push ⟨.int .i64 k, v, clock⟩) (clock + 1)), ?_, ⟨_, _, heap_setBlock_same hb _, stamped_push hs f2, by simp; omega, ?_, ?_⟩, (hkept _).1, (hkept _).2⟩
    · simp [Instr.mapUpdate, run_underlying ht, MapKept.run_getObj_map hb, K.check w false hkey, f1, MapKept.run_setObj_map _ hb, Result.andThen, setBlock]
    · intro x hx
      simp only [Array.toList_push, List.mem_append, List.mem_singleton] at hx
      rcases hx with hx | rfl
      · obtain ⟨k', hw', hk', hf'⟩ := h1 x hx
        refine ⟨k', hw', hk', ?_⟩
        rw [fput_other _ _ (fun e => f2 x hx (by rw [hk', e]; rfl))]; exact hf'
      · exact ⟨k, hw, rfl, fput_same _ _ _⟩
    · intro k' v' hv'
      by_cases e : k' = k
      · subst e; exact ⟨⟨.int .i64 k', v, clock⟩, by simp, rfl⟩
      · rw [fput_other _ _ e] at hv'
        obtain ⟨x, hx, hxk⟩ := h2 k' v' hv'
        exact ⟨x, by simp only [Array.toList_push, List.mem_append]; exact .inl hx, hxk⟩
  · have hj : es[j]? = some e0 := by simpa using f2
    have hjl : j < es.toList.length := (List.getElem?_eq_some_iff.1 f2).1
    have hlist : (es.modify j (fun e' => { e' with key := .int .i64 k, val := v })).toList = es.toList.set j { e0 with key := .int .i64 k, val := v } := by rw [Array.toList_modify, modify_eq_set _ _ _ _ f2]
    have hnd : es.toList.Pairwise (fun x y => x.key ≠ y.key) := ((stamped_iff es clock).1 hs).2.2
    have hoth : ∀ i e1, es.toList[i]? = some e1 → i ≠ j → e1.key ≠ .int .i64 k := by
      intro i e1 hi hne e
      have hil : i < es.toList.length := (List.getElem?_eq_some_iff.1 hi).1
      have e1' : es.toList[i] = e1 := (List.getElem?_eq_some_iff.1 hi).2
      have e0' : es.toList[j] = e0 := (List.getElem?_eq_some_iff.1 f2).2
      rcases Nat.lt_or_gt_of_ne hne with hlt | hgt
      · exact List.pairwise_iff_getElem.1 hnd i j hil hjl hlt (by rw [e1', e0', e, f3])
      · exact List.pairwise_iff_getElem.1 hnd j i hjl hil hgt (by rw [e1', e0', e, f3])
    refine ⟨setBlock w b (.map (es.modify j (fun e' => { e' with key := .int .i64 k, val := v })) clock), ?_, ⟨_, _, heap_setBlock_same hb _, stamped_modify hs _ _ (fun _ _ => rfl) (fun e' _ he' => by rw [hj] at he'; cases he'; exact f3.symm), by simp; omega, ?_, ?_⟩, (hkept _).1, (hkept _).2⟩
    · simp [Instr.mapUpdate, run_underlying ht, MapKept.run_getObj_map hb, K.check w false hkey, f1, hj, f3, K.stays w hkey, MapKept.run_setObj_map _ hb, Result.andThen, setBlock]
    · intro x hx
      rw [hlist] at hx
      obtain ⟨i, hi, ex⟩ := List.getElem_of_mem hx
      rw [List.getElem_set] at ex
      split at ex
      · subst ex; exact ⟨k, hw, rfl, fput_same _ _ _⟩
      · rename_i hne
        have hi' : i < es.toList.length := by simpa using hi
        have hxm : x ∈ es.toList := ex ▸ List.getElem_mem hi'
        obtain ⟨k', hw', hk', hf'⟩ := h1 x hxm
        refine ⟨k', hw', hk', ?_⟩
        rw [fput_other _ _ (fun e => hoth i x (by rw [List.getElem?_eq_getElem hi', ex]) (fun e1 => hne e1.symm) (by rw [hk', e]; rfl))]; exact hf'
    · intro k' v' hv'
      by_cases e : k' = k
      · subst e
        exact ⟨{ e0 with key := .int .i64 k', val := v }, by rw [hlist]; exact List.mem_iff_getElem.2 ⟨j, by simpa using hjl, by simp⟩, rfl⟩
      · rw [fput_other _ _ e] at hv'
        obtain ⟨x, hx, hxk⟩ := h2 k' v' hv'
        refine ⟨x, ?_, hxk⟩
        rw [hlist]
        obtain ⟨i, hi, ex⟩ := List.getElem_of_mem hx
        have hne : j ≠ i := by
          intro e2
          subst e2
          have e0' : es.toList[j] = e0 := (List.getElem?_eq_some_iff.1 f2).2
          rw [e0'] at ex
          rw [← ex, f3] at hxk
          exact e (ikey_inj hxk).symm
        exact List.mem_iff_getElem.2 ⟨i, by simpa using hi, by rw [List.getElem_set, if_neg hne]; exact ex⟩
/-- delete(m, k) -/
theorem Mp.del (h : Mp w b N f) (ht : P.underlying t = some (.map kt et)) (hk : P.underlying kt = some (.int .i64)) (k : Int) (hw : (Lit.int .i64 k).wf = true) (ty : TypeId) :
    ∃ w', (Builtin.delete_ #[t, kt] ty #[.map (some b), .int .i64 k]).run P w = .ok (.tuple #[]) w' ∧ Mp w' b N (fdel f k) ∧ Kept (fun j => j = b) w w' ∧ w'.heap.size = w.heap.size := by
  obtain ⟨es, clock, hb, hs, hn, h1, h2⟩ := h
  have K := Maps.int_keyed hk
  have hkey := Maps.keyOf_int_mk hk hw
  have hkept : ∀ o : Obj, Kept (fun j => j = b) w (setBlock w b o) ∧ (setBlock w b o).heap.size = w.heap.size := fun o =>
    ⟨⟨rfl, rfl, rfl, by simp [setBlock], fun j _ hj => heap_setBlock_other hb _ hj⟩, by simp [setBlock]⟩
  rcases K.find w hkey es.toList (Mp.keys hk h1) with ⟨f1, f2⟩ | ⟨j, e0, f1, f2, f3⟩
  · refine ⟨setBlock w b (.map es clock), ?_, ⟨_, _, heap_setBlock_same hb _, hs, hn, ?_, ?_⟩, (hkept _).1, (hkept _).2⟩
    · simp [Builtin.delete_, run_underlying ht, MapKept.run_getObj_map hb, K.check w _ hkey, f1, MapKept.run_setObj_map _ hb, Result.andThen, setBlock]
    · intro x hx
      obtain ⟨k', hw', hk', hf'⟩ := h1 x hx
      refine ⟨k', hw', hk', ?_⟩
      rw [fdel_other _ (fun e => f2 x hx (by rw [hk', e]; rfl))]; exact hf'
    · intro k' v' hv'
      by_cases e : k' = k
      · rw [e, fdel_same] at hv'; cases hv'
      · rw [fdel_other _ e] at hv'; exact h2 k' v' hv'
  · have hjl : j < es.toList.length := (List.getElem?_eq_some_iff.1 f2).1
    have hjs : j < es.size := by simpa using hjl
    have hsub : (es.eraseIdxIfInBounds j).toList = es.toList.eraseIdx j := by
      unfold Array.eraseIdxIfInBounds
      rw [dif_pos hjs]
      simp
    have hnd : es.toList.Pairwise (fun x y => x.key ≠ y.key) := ((stamped_iff es clock).1 hs).2.2
    have hoth : ∀ i e1, es.toList[i]? = some e1 → i ≠ j → e1.key ≠ .int .i64 k := by
      intro i e1 hi hne e
      have hil : i < es.toList.length := (List.getElem?_eq_some_iff.1 hi).1
      have e1' : es.toList[i] = e1 := (List.getElem?_eq_some_iff.1 hi).2
      have e0' : es.toList[j] = e0 := (List.getElem?_eq_some_iff.1 f2).2
      rcases Nat.lt_or_gt_of_ne hne with hlt | hgt
      · exact List.pairwise_iff_getElem.1 hnd i j hil hjl hlt (by rw [e1', e0', e, f3])
      · exact List.pairwise_iff_getElem.1 hnd j i hjl hil hgt (by rw [e1', e0', e, f3])
    have hmem : ∀ x, x ∈ (es.eraseIdxIfInBounds j).toList → x ∈ es.toList ∧ x.key ≠ .int .i64 k := by
      intro x hx
      rw [hsub, List.mem_eraseIdx_iff_getElem?] at hx
      obtain ⟨i, hne, hi⟩ := hx
      exact ⟨List.mem_of_getElem? hi, hoth i x hi hne⟩
    refine ⟨setBlock w b (.map (es.eraseIdxIfInBounds j) clock), ?_, ⟨_, _, heap_setBlock_same hb _, stamped_erase hs j, Nat.le_trans (MapFrom.size_erase es j) hn, ?_, ?_⟩, (hkept _).1, (hkept _).2⟩
    · simp [Builtin.delete_, run_underlying ht, MapKept.run_getObj_map hb, K.check w _ hkey, f1, MapKept.run_setObj_map _ hb, Result.andThen, setBlock]
    · intro x hx
      obtain ⟨hx1, hx2⟩ := hmem x hx
      obtain ⟨k', hw', hk', hf'⟩ := h1 x hx1
      refine ⟨k', hw', hk', ?_⟩
      rw [fdel_other _ (fun e => hx2 (by rw [hk', e]; rfl))]; exact hf'
    · intro k' v' hv'
      by_cases hne : k' = k
      · rw [hne, fdel_same] at hv'; cases hv'
      · rw [fdel_other _ hne] at hv'
        obtain ⟨x, hx, hxk⟩ := h2 k' v' hv'
        refine ⟨x, ?_, hxk⟩
        rw [hsub, List.mem_eraseIdx_iff_getElem?]
        obtain ⟨i, hi⟩ := List.getElem?_of_mem hx
        refine ⟨i, fun e => hne ?_, hi⟩
        subst e
        rw [hi] at f2
        cases f2
        rw [hxk] at f3
        exact ikey_inj f3
/-- clear(m) -/
theorem Mp.clear (h : Mp w b N f) (ht : P.underlying t = some (.map kt et)) (ty : TypeId) :
    ∃ w', (Builtin.clear_ #[t] ty #[.map (some b)]).run P w = .ok (.tuple #[]) w' ∧ Mp w' b 0 (fun _ => none) ∧ Kept (fun j => j = b) w w' ∧ w'.heap.size = w.heap.size := by
  obtain ⟨es, clock, hb, hs, hn, h1, h2⟩ := h
  refine ⟨setBlock w b (.map #[] clock), ?_, ⟨#[], clock, heap_setBlock_same hb _, stamped_empty clock, Nat.le_refl _, by simp, fun k v h => by cases h⟩, ⟨rfl, rfl, rfl, by simp [setBlock], fun j _ hj => heap_setBlock_other hb _ hj⟩, by simp [setBlock]⟩
  simp [Builtin.clear_, run_underlying ht, MapKept.run_getObj_map hb, MapKept.run_setObj_map _ hb, Result.andThen, setBlock]
/-- len(m) -/
theorem Mp.len (h : Mp w b N f) (ht : P.underlying t = some (.map kt et)) (ty : TypeId) : ∃ n : Nat, n ≤ N ∧ (Builtin.len_ #[t] ty #[.map (some b)]).run P w = .ok (.int .i64 (n : Int)) w := by
  obtain ⟨es, clock, hb, hs, hn, h1, h2⟩ := h
  exact ⟨es.size, hn, by simp [Builtin.len_, run_underlying ht, MapKept.run_getObj_map hb, goInt]⟩
/-- a range over a map is under way: left k says whether key k is still to come; cnt: how many are -/
def Rg (w : World) (r b N : Nat) (f : Int → Option Value) (left : Int → Bool) (cnt : Nat) : Prop :=
  ∃ es clock since seen c0, w.heap[b]? = some (.map es clock) ∧ Stamped es clock ∧ es.size ≤ N ∧ (∀ x ∈ es.toList, ∃ k : Int, (Lit.int .i64 k).wf = true ∧ x.key = ikey k ∧ f k = some x.val) ∧ (∀ k v, f k = some v → ∃ x ∈ es.toList, x.key = ikey k) ∧
    w.heap[r]? = some (.mapIter (some b) since seen c0) ∧ (∀ x ∈ es.toList, x.born < since) ∧ (leftOf es seen).size = cnt ∧
    (∀ x ∈ es.toList, ∀ k, x.key = ikey k → left k = !seen.contains x.born) ∧ (∀ k, left k = true → ∃ x ∈ es.toList, x.key = ikey k) ∧ since ≤ c0 ∧ since ≤ clock
variable {r cnt : Nat} {left : Int → Bool}
theorem Rg.mp (h : Rg w r b N f left cnt) : Mp w b N f := by
  obtain ⟨es, clock, since, seen, c0, hb, hs, hn, h1, h2, _⟩ := h
  exact ⟨es, clock, hb, hs, hn, h1, h2⟩
theorem Rg.ne (h : Rg w r b N f left cnt) : r ≠ b := by
  obtain ⟨es, clock, since, seen, c0, hb, _, _, _, _, hr, _⟩ := h
  intro e
  rw [e, hb] at hr
  cases hr
theorem Rg.lt (h : Rg w r b N f left cnt) : r < w.heap.size := by
  obtain ⟨es, clock, since, seen, c0, _, _, _, _, _, hr, _⟩ := h
  exact (Array.getElem?_eq_some_iff.1 hr).1
theorem Rg.left_eq (h : Rg w r b N f left cnt) : w.rangeLeft b r = cnt := by
  obtain ⟨es, clock, since, seen, c0, hb, _, _, _, _, hr, _, hc, _⟩ := h
  simp only [World.rangeLeft, hb, hr]
  exact hc
theorem Rg.kept {S : Nat → Prop} {w' : World} (h : Rg w r b N f left cnt) (hk : Kept S w w') (hb' : ¬ S b) (hr' : ¬ S r) : Rg w' r b N f left cnt := by
  obtain ⟨es, clock, since, seen, c0, hb, hs, hn, h1, h2, hr, rest⟩ := h
  exact ⟨es, clock, since, seen, c0, hk.heap hb hb', hs, hn, h1, h2, hk.heap hr hr', rest⟩
/-- range m -/
theorem Mp.range (h : Mp w b N f) (ht : P.underlying t = some (.map kt et)) :
    ∃ w', (Instr.range t (.map (some b))).run P w = .ok (.pointer (some ⟨w.heap.size, 0, none⟩)) w' ∧ (∃ cnt, Rg w' w.heap.size b N f (fun k => (f k).isSome) cnt) ∧ Kept (fun _ => False) w w' ∧ w'.heap.size = w.heap.size + 1 := by
  have hlt := h.lt
  obtain ⟨es, clock, hb, hs, hn, h1, h2⟩ := h
  refine ⟨_, run_range_map w t kt et b es clock ht hb, ⟨_, es, clock, clock, #[], clock, ((MapKept.heap_alloc w _).2 b hlt).trans hb, hs, hn, h1, h2, (MapKept.heap_alloc w _).1, hs.1, rfl, ?_, ?_, Nat.le_refl _, Nat.le_refl _⟩, (Kept.refl _ w).alloc _, by simp⟩
  · intro x hx k hxk
    obtain ⟨k', _, hk', hf'⟩ := h1 x hx
    rw [hxk] at hk'
    obtain rfl := ikey_inj hk'
    simp [hf']
  · intro k hk
    obtain ⟨v, hv⟩ := Option.isSome_iff_exists.1 hk
    exact h2 k v hv
theorem entry_eq {es : Array MapEntry} {clock : Nat} (hs : Stamped es clock) {x y : MapEntry} (hx : x ∈ es.toList) (hy : y ∈ es.toList) (h : x.key = y.key) : x = y := entry_eq_of_key ((stamped_iff es clock).1 hs).2.2 hx hy h
/-- the step -/
theorem Rg.next (h : Rg w r b N f left cnt) (ty : TypeId) :
    ((∀ k, left k = false) ∧ (Instr.next (.pointer (some ⟨r, 0, none⟩)) false ty).run P w = .ok (.tuple #[.bool false]) w) ∨
    ∃ (k : Int) (v : Value) (w' : World) (cnt' : Nat), left k = true ∧ f k = some v ∧ (Instr.next (.pointer (some ⟨r, 0, none⟩)) false ty).run P w = .ok (.tuple #[.bool true, .int .i64 k, v]) w' ∧
      Rg w' r b N f (fun j => left j && !decide (j = k)) cnt' ∧ cnt' < cnt ∧ Kept (fun j => j = r) w w' ∧ w'.heap.size = w.heap.size ∧ (Instr.entry (.pointer (some ⟨r, 0, none⟩))).run P w' = .ok (.tuple #[.int .i64 k, v]) w' := by
  have hne := h.ne
  obtain ⟨es, clock, since, seen, c0, hb, hs, hn, h1, h2, hr, hold, rfl, hl1, hl2, hsc, hsk⟩ := h
  rcases run_next_at (P := P) w ty r b since c0 seen es clock hr hb hold hsc with ⟨h0, hrun⟩ | ⟨e, he, w1, hal, hrun⟩
  · refine Or.inl ⟨fun k => ?_, hrun⟩
    cases hk : left k
    · rfl
    · obtain ⟨x, hx, hxk⟩ := hl2 k hk
      rw [hl1 x hx k hxk, all_seen es seen h0 x hx] at hk
      cases hk
  · obtain ⟨hem, hes⟩ := mem_left he
    obtain ⟨k, hw, hek, hfk⟩ := h1 e hem
    have hr1 : w1.heap[r]? = some (.mapIter (some b) since seen c0) := by rcases hal with rfl | rfl <;> exact hr
    have hb1 : w1.heap[b]? = some (.map es clock) := by rcases hal with rfl | rfl <;> exact hb
    have hset := heap_set (o' := .mapIter (some b) since (seen.push e.born) clock) hr1
    have hb' : (setBlock w1 r (.mapIter (some b) since (seen.push e.born) clock)).heap[b]? = some (.map es clock) := (hset.2 b (fun e1 => hne e1.symm)).trans hb1
    have hen := run_entry_at (P := P) _ r b since seen es clock e hset.1 hb' hem ((stamped_iff es clock).1 hs).2.1
    rw [hek] at hrun hen
    refine Or.inr ⟨k, e.val, _, _, by rw [hl1 e hem k hek, hes]; rfl, hfk, hrun,
      ⟨es, clock, since, seen.push e.born, clock, hb', hs, hn, h1, h2, hset.1, hold, rfl, fun x hx j hxj => ?_, fun j hj => hl2 j (by simp at hj; exact hj.1), hsk, hsk⟩, left_shrinks es seen e he, ?_, ?_, hen⟩
    · show (left j && !decide (j = k)) = _
      rw [hl1 x hx j hxj, contains_push]
      by_cases hjk : j = k
      · subst hjk
        have : x = e := entry_eq hs hx hem (hxj.trans hek.symm)
        subst this
        simp
      · have hxe : x.born ≠ e.born := by
          intro hbe
          have := born_inj ((stamped_iff es clock).1 hs).2.1 hx hem hbe
          subst this
          rw [hek] at hxj
          exact hjk (ikey_inj hxj).symm
        have : (x.born == e.born) = false := by simp [hxe]
        rw [this]
        simp [hjk]
    · rcases hal with rfl | rfl <;> exact ⟨rfl, rfl, rfl, by simp [setBlock], fun i _ hi => hset.2 i hi⟩
    · rcases hal with rfl | rfl <;> simp [setBlock]
end
end Go.Proofs.YthffegfcgmhppaaDoor
namespace Go.Proofs.YthffegfcgmhppaaDoor
/-- the groups of 7 bits of an unsigned number -/
def encU (n : Nat) : List UInt8 := if h : n < 128 then [UInt8.ofNat n] else UInt8.ofNat (128 + n % 128) :: encU (n / 128)
termination_by n
decreasing_by omega
theorem encU_small {n : Nat} (h : n < 128) : encU n = [UInt8.ofNat n] := by rw [encU, dif_pos h]
theorem encU_big {n : Nat} (h : ¬ n < 128) : encU n = UInt8.ofNat (128 + n % 128) :: encU (n / 128) := by rw [encU, dif_neg h]
theorem encU_len_pos (n : Nat) : 0 < (encU n).length := by
  by_cases h : n < 128
  · rw [encU_small h]; simp
  · rw [encU_big h]; simp
theorem encU_len (i : Nat) : ∀ n : Nat, n < 128 ^ (i + 1) → (encU n).length ≤ i + 1 := by
  induction i with
  | zero => intro n h; rw [encU_small (by simpa using h)]; simp
  | succ i ih =>
    intro n h
    by_cases hn : n < 128
    · rw [encU_small hn]; simp
    · rw [encU_big hn, List.length_cons]
      have := ih (n / 128) (by rw [Nat.div_lt_iff_lt_mul (by omega)]; rw [Nat.pow_succ] at h; exact h)
      omega
theorem encU_len10 (n : Nat) (h : n < 18446744073709551616) : (encU n).length ≤ 10 := encU_len 9 n (Nat.lt_of_lt_of_le h (by decide))
/-- what reading a number from some bytes gives, i groups having been read with the value acc: the value, the size, the error -/
def fnum : List UInt8 → Nat → Nat → Nat × Nat × Nat
  | [], _, _ => (0, 0, 6)
  | b :: r, i, acc =>
    if i = 9 ∧ 1 < b.toNat then (0, 0, 7)
    else if 128 ≤ b.toNat then fnum r (i + 1) (acc + b.toNat % 128 * 128 ^ i)
    else if b.toNat = 0 ∧ 0 < i then (0, 0, 7)
    else (acc + b.toNat % 128 * 128 ^ i, i + 1, 0)
theorem toNat_ofNat (n : Nat) (h : n < 256) : (UInt8.ofNat n).toNat = n := by simp; omega
theorem pow_le_pow128 {i j : Nat} (h : i ≤ j) : 128 ^ i ≤ 128 ^ j := Nat.pow_le_pow_right (by omega) h
theorem pow9 : 128 ^ 9 = 9223372036854775808 := by decide
theorem fnum_enc : ∀ (n : Nat) (r : List UInt8) (i acc : Nat), n * 128 ^ i < 18446744073709551616 → (0 < i → 0 < n) → i ≤ 9 → fnum (encU n ++ r) i acc = (acc + n * 128 ^ i, i + (encU n).length, 0) := by
  intro n
  induction n using Nat.strongRecOn with
  | _ n ih =>
    intro r i acc hb hp hi
    by_cases hn : n < 128
    · rw [encU_small hn, List.singleton_append, fnum, toNat_ofNat n (by omega)]
      have h1 : ¬ (i = 9 ∧ 1 < n) := by
        rintro ⟨rfl, h⟩
        rw [pow9] at hb
        omega
      rw [if_neg h1, if_neg (by omega), if_neg (by omega), Nat.mod_eq_of_lt hn]
      rfl
    · rw [encU_big hn, List.cons_append, fnum, toNat_ofNat _ (by omega)]
      have h1 : ¬ (i = 9 ∧ 1 < 128 + n % 128) := by
        rintro ⟨rfl, h⟩
        rw [pow9] at hb
        omega
      have e : n / 128 * 128 ^ (i + 1) + n % 128 * 128 ^ i = n * 128 ^ i := by
        rw [Nat.pow_succ, ← Nat.mul_assoc, Nat.mul_right_comm, ← Nat.add_mul, Nat.div_add_mod']
      have hi2 : i + 1 ≤ 9 := by
        rcases Nat.lt_or_ge i 9 with h | h
        · exact h
        · exfalso
          have := pow_le_pow128 h
          rw [pow9] at this
          have : 128 * 9223372036854775808 ≤ n * 128 ^ i := Nat.mul_le_mul (by omega) this
          omega
      have h2 : (128 + n % 128) % 128 = n % 128 := by omega
      rw [if_neg h1, if_pos (by omega), h2, ih (n / 128) (by omega) r (i + 1) _ (by omega) (fun _ => by omega) hi2]
      rw [List.length_cons, Nat.add_assoc acc, Nat.add_comm (n % 128 * 128 ^ i), e, Nat.add_right_comm i, Nat.add_assoc i]
/-- what is read without an error is an encoding -/
theorem fnum_ok : ∀ (l : List UInt8) (i acc v k : Nat), fnum l i acc = (v, k, 0) → i ≤ 9 → ∃ n r, l = encU n ++ r ∧ v = acc + n * 128 ^ i ∧ k = i + (encU n).length ∧ n * 128 ^ i < 18446744073709551616 ∧ (0 < i → 0 < n) := by
  intro l
  induction l with
  | nil => intro i acc v k h; simp [fnum] at h
  | cons b r ih =>
    intro i acc v k h hi
    rw [fnum] at h
    have hb := b.toNat_lt
    by_cases h1 : i = 9 ∧ 1 < b.toNat
    · rw [if_pos h1] at h; simp at h
    rw [if_neg h1] at h
    by_cases h2 : 128 ≤ b.toNat
    · rw [if_pos h2] at h
      have hi2 : i + 1 ≤ 9 := by omega
      obtain ⟨n, r', rfl, rfl, rfl, hn, hp⟩ := ih (i + 1) _ v k h hi2
      have hp' := hp (by omega)
      have e : (b.toNat % 128 + n * 128) * 128 ^ i = b.toNat % 128 * 128 ^ i + n * 128 ^ (i + 1) := by
        rw [Nat.add_mul, Nat.pow_succ, Nat.mul_assoc, Nat.mul_comm 128]
      refine ⟨b.toNat % 128 + n * 128, r', ?_, ?_, ?_, ?_, fun _ => by omega⟩
      · rw [encU_big (n := b.toNat % 128 + n * 128) (by omega), show (b.toNat % 128 + n * 128) / 128 = n by omega, show 128 + (b.toNat % 128 + n * 128) % 128 = b.toNat by omega]
        simp
      · rw [e, Nat.add_assoc]
      · rw [encU_big (n := b.toNat % 128 + n * 128) (by omega), show (b.toNat % 128 + n * 128) / 128 = n by omega, List.length_cons]
        omega
      · have hm : b.toNat % 128 * 128 ^ i < 128 ^ (i + 1) := by
          rw [Nat.pow_succ, Nat.mul_comm (128 ^ i)]
          exact Nat.mul_lt_mul_of_pos_right (by omega) (Nat.pow_pos (by omega))
        rw [e]
        have hd : (18446744073709551616 : Nat) = 2 ^ (64 - 7 * (i + 1)) * 128 ^ (i + 1) := by
          rw [show (128 : Nat) = 2 ^ 7 by rfl, ← Nat.pow_mul, ← Nat.pow_add, show 64 - 7 * (i + 1) + 7 * (i + 1) = 64 by omega]
        rw [hd] at hn ⊢
        have hn2 := Nat.lt_of_mul_lt_mul_right hn
        calc  b.toNat % 128 * 128 ^ i + n * 128 ^ (i + 1) < 128 ^ (i + 1) + n * 128 ^ (i + 1) := by omega
          _ = (n + 1) * 128 ^ (i + 1) := by rw [Nat.add_mul, Nat.one_mul, Nat.add_comm]
          _ ≤ 2 ^ (64 - 7 * (i + 1)) * 128 ^ (i + 1) := Nat.mul_le_mul_right _ hn2
    · rw [if_neg h2] at h
      by_cases h3 : b.toNat = 0 ∧ 0 < i
      · rw [if_pos h3] at h; simp at h
      rw [if_neg h3] at h
      simp only [Prod.mk.injEq, and_true] at h
      obtain ⟨rfl, rfl⟩ := h
      refine ⟨b.toNat, r, ?_, ?_, ?_, ?_, fun _ => by omega⟩
      · rw [encU_small (by omega)]; simp
      · rw [Nat.mod_eq_of_lt (by omega)]
      · rw [encU_small (by omega)]; rfl
      · rcases Nat.lt_or_ge i 9 with h | h
        · have h8 : 128 ^ i ≤ 128 ^ 8 := pow_le_pow128 (by omega)
          have : b.toNat * 128 ^ i ≤ 127 * 128 ^ 8 := Nat.mul_le_mul (by omega) h8
          have e8 : (127 : Nat) * 128 ^ 8 < 18446744073709551616 := by decide
          omega
        · obtain rfl : i = 9 := by omega
          rw [pow9]
          omega
/-- of a proper prefix of an encoding nothing is read -/
theorem fnum_cut : ∀ (n : Nat) (p : List UInt8) (i acc : Nat), n * 128 ^ i < 18446744073709551616 → i ≤ 9 → (∃ q, q ≠ [] ∧ encU n = p ++ q) → fnum p i acc = (0, 0, 6) := by
  intro n
  induction n using Nat.strongRecOn with
  | _ n ih =>
    intro p i acc hb hi hq
    obtain ⟨q, hq, he⟩ := hq
    cases p with
    | nil => rfl
    | cons x p =>
      by_cases hn : n < 128
      · rw [encU_small hn] at he
        simp at he
        exact (hq he.2.2).elim
      · rw [encU_big hn] at he
        simp only [List.cons_append, List.cons.injEq] at he
        obtain ⟨rfl, he⟩ := he
        have hi2 : i + 1 ≤ 9 := by
          rcases Nat.lt_or_ge i 9 with h | h
          · exact h
          · exfalso
            have := pow_le_pow128 h
            rw [pow9] at this
            have : 128 * 9223372036854775808 ≤ n * 128 ^ i := Nat.mul_le_mul (by omega) this
            omega
        have e : n / 128 * 128 ^ (i + 1) ≤ n * 128 ^ i := by
          rw [Nat.pow_succ, ← Nat.mul_assoc, Nat.mul_right_comm]
          exact Nat.mul_le_mul_right _ (by omega)
        rw [fnum, toNat_ofNat _ (by omega), if_neg (by omega), if_pos (by omega)]
        exact ih (n / 128) (by omega) p (i + 1) _ (by omega) hi2 ⟨q, hq, he⟩
theorem fnum_err (l : List UInt8) : ∀ i acc : Nat, (fnum l i acc).2.2 = 0 ∨ (fnum l i acc = (0, 0, 6)) ∨ fnum l i acc = (0, 0, 7) := by
  induction l with
  | nil => intro i acc; exact .inr (.inl rfl)
  | cons b r ih =>
    intro i acc
    rw [fnum]
    split
    · exact .inr (.inr rfl)
    · split
      · exact ih _ _
      · split
        · exact .inr (.inr rfl)
        · exact .inl rfl
/-- the number for which an unsigned number stands, and back -/
def zig (n : Int) : Nat := if n < 0 then (2 * (-(n + 1)) + 1).toNat else (2 * n).toNat
def zag (u : Nat) : Int := if u % 2 = 0 then ((u / 2 : Nat) : Int) else -((u / 2 : Nat) : Int) - 1
theorem zag_zig (n : Int) : zag (zig n) = n := by unfold zag zig; split <;> split <;> omega
theorem zig_zag (u : Nat) : zig (zag u) = u := by unfold zag zig; split <;> split <;> omega
theorem zig_lt (n : Int) (h1 : -9223372036854775808 ≤ n) (h2 : n ≤ 9223372036854775807) : zig n < 18446744073709551616 := by unfold zig; split <;> omega
theorem zag_bd (u : Nat) (h : u < 18446744073709551616) : -9223372036854775808 ≤ zag u ∧ zag u ≤ 9223372036854775807 := by unfold zag; split <;> omega
def encI (n : Int) : List UInt8 := encU (zig n)
def encB (b : Bool) : List UInt8 := if b then [1] else [0]
def encT (s : List UInt8) : List UInt8 := encU s.length ++ s
def encL (l : List Int) : List UInt8 := encU l.length ++ l.flatMap encI
end Go.Proofs.YthffegfcgmhppaaDoor
namespace Go.Proofs.YthffegfcgmhppaaDoor
open Go.RowKit
theorem heap_alloc_if (w : World) (o : Obj) (i : Nat) : (w.alloc o).heap[i]? = if i = w.heap.size then some o else w.heap[i]? := by
  show (w.heap.push o)[i]? = _
  rw [Array.getElem?_push]
theorem size_alloc1 (w : World) (o : Obj) : (w.alloc o).heap.size = w.heap.size + 1 := by
  show (w.heap.push o).size = _
  simp
theorem heap_new {w : World} {o : Obj} {g : Nat} (h : g = w.heap.size) : (w.alloc o).heap[g]? = some o := by
  rw [heap_alloc_if, if_pos h]
theorem heap_old {w : World} {o o' : Obj} {g : Nat} (h : w.heap[g]? = some o) : (w.alloc o').heap[g]? = some o := by
  have hl : g < w.heap.size := by
    by_cases hl : g < w.heap.size
    · exact hl
    · rw [Array.getElem?_eq_none (by omega)] at h; cases h
  rw [heap_alloc_if, if_neg (by omega), h]
theorem heap_lt {w : World} {o : Obj} {g : Nat} (h : w.heap[g]? = some o) : g < w.heap.size := by
  by_cases hl : g < w.heap.size
  · exact hl
  · rw [Array.getElem?_eq_none (by omega)] at h; cases h
def vals (l : List UInt8) : List Value := l.map fun x => Value.int .u8 (x.toNat : Int)
theorem vals_len (l : List UInt8) : (vals l).length = l.length := by simp [vals]
theorem vals_app (l m : List UInt8) : vals (l ++ m) = vals l ++ vals m := by simp [vals]
theorem vals_one (l : List UInt8) : ∀ u ∈ vals l, u.oneCell' = true := by simp [vals, Value.oneCell']
theorem vals_str (s : ByteArray) : byteCells s = vals s.data.toList := rfl
def ivals (l : List Int) : List Value := l.map (Value.int .i64)
theorem ivals_len (l : List Int) : (ivals l).length = l.length := by simp [ivals]
theorem ivals_app (l m : List Int) : ivals (l ++ m) = ivals l ++ ivals m := by simp [ivals]
theorem ivals_one (l : List Int) : ∀ u ∈ ivals l, u.oneCell' = true := by simp [ivals, Value.oneCell']
theorem info5 : (Tryd.prog.info? 5).map (fun i => (i.zero, i.size, i.bytes)) = some (some (.int .u8 0), 1, 1) := by kernel_rfl
theorem info3 : (Tryd.prog.info? 3).map (fun i => (i.zero, i.size, i.bytes)) = some (some (.int .i64 0), 1, 8) := by kernel_rfl
theorem i64_id (n : Int) (h0 : -9223372036854775808 ≤ n) (h1 : n ≤ 9223372036854775807) : IntKind.i64.wrap n = n := by
  rw [IntKind.wrap_i64]; omega
/-- a slice of bytes -/
def Bs (D : Nat → Prop) (w : World) (a : Option Addr) (n c : Nat) (l : List UInt8) : Prop := l.length = n ∧ Sl D w a n c (vals l) 1
/-- a slice of numbers -/
def Is (D : Nat → Prop) (w : World) (a : Option Addr) (n c : Nat) (l : List Int) : Prop := l.length = n ∧ Sl D w a n c (ivals l) 1
theorem Bs.kept {D S : Nat → Prop} {w w' : World} {a : Option Addr} {n c : Nat} {l : List UInt8} (h : Bs D w a n c l) (hk : Kept S w w') (hd : ∀ b, b < w.heap.size → D b → ¬ S b) : Bs D w' a n c l := ⟨h.1, h.2.kept (by decide) hk hd⟩
theorem Is.kept {D S : Nat → Prop} {w w' : World} {a : Option Addr} {n c : Nat} {l : List Int} (h : Is D w a n c l) (hk : Kept S w w') (hd : ∀ b, b < w.heap.size → D b → ¬ S b) : Is D w' a n c l := ⟨h.1, h.2.kept (by decide) hk hd⟩
theorem Bs.dom {D D' : Nat → Prop} {w : World} {a : Option Addr} {n c : Nat} {l : List UInt8} (h : Bs D w a n c l) (hd : ∀ b, D b → D' b) : Bs D' w a n c l := ⟨h.1, h.2.dom hd⟩
theorem Is.dom {D D' : Nat → Prop} {w : World} {a : Option Addr} {n c : Nat} {l : List Int} (h : Is D w a n c l) (hd : ∀ b, D b → D' b) : Is D' w a n c l := ⟨h.1, h.2.dom hd⟩
/-- a writer in block g has collected l, in block k -/
def Wr (w : World) (g : Nat) (k : Option Nat) (l : List UInt8) : Prop :=
  ∃ v, w.heap[g]? = some (.cells #[v] 66 (0, 0)) ∧ Own w 5 1 k v l.length (vals l) ∧ k ≠ some g
/-- from one world of a writer to a later one: nothing but its own blocks has changed, and its row moves to new blocks only -/
structure Link (g : Nat) (k : Option Nat) (w : World) (k' : Option Nat) (w' : World) : Prop where
  fresh : ∀ j, k' = some j → k = some j ∨ w.heap.size ≤ j
  kept : Kept (fun j => j = g ∨ k = some j) w w'
theorem Link.trans {g : Nat} {k k1 k2 : Option Nat} {w w1 w2 : World} (h : Link g k w k1 w1) (h2 : Link g k1 w1 k2 w2) : Link g k w k2 w2 := by
  refine ⟨fun j hj => ?_, h.kept.trans h2.kept (fun j hj ht => ?_)⟩
  · rcases h2.fresh j hj with e | e
    · exact h.fresh j e
    · exact .inr (Nat.le_trans h.kept.size e)
  · rcases ht with e | e
    · exact .inl e
    · rcases h.fresh j e with e | e
      · exact .inr e
      · omega
theorem Link.refl (g : Nat) (k : Option Nat) (w : World) : Link g k w k w := ⟨fun _ h => .inl h, Kept.refl _ _⟩
theorem Link.of_below {g : Nat} {k : Option Nat} {w w' : World} (h : Below w.heap.size w w') : Link g k w k w' := ⟨fun _ h => .inl h, Kept.of_below _ h⟩
/-- what a method of a writer does -/
def Wrote (g : Nat) (k : Option Nat) (w : World) (l' : List UInt8) (w' : World) : Prop := ∃ k', Wr w' g k' l' ∧ Link g k w k' w'
theorem Wr.lt {w : World} {g : Nat} {k : Option Nat} {l : List UInt8} (h : Wr w g k l) : g < w.heap.size := by
  obtain ⟨v, hg, _⟩ := h
  exact (Array.getElem?_eq_some_iff.1 hg).1
theorem Wr.kept {S : Nat → Prop} {w w' : World} {g : Nat} {k : Option Nat} {l : List UInt8} (h : Wr w g k l) (hk : Kept S w w') (hg : ¬ S g) (hs : ∀ j, k = some j → ¬ S j) : Wr w' g k l := by
  obtain ⟨v, h1, h2, h3⟩ := h
  exact ⟨v, hk.heap h1 hg, h2.kept hk hs, h3⟩
theorem Wrote.refl {w : World} {g : Nat} {k : Option Nat} {l : List UInt8} (h : Wr w g k l) : Wrote g k w l w := ⟨k, h, Link.refl _ _ _⟩
theorem Wrote.after {g : Nat} {k k1 : Option Nat} {w w1 w2 : World} {l2 : List UInt8} (h : Link g k w k1 w1) (h2 : Wrote g k1 w1 l2 w2) : Wrote g k w l2 w2 := by
  obtain ⟨k2, hw2, hl2⟩ := h2
  exact ⟨k2, hw2, h.trans hl2⟩
theorem one_set {w : World} {g : Nat} {v u : Value} {t : TypeId} (hg : w.heap[g]? = some (.cells #[v] t (0, 0))) : (w.setCell ⟨g, 0, none⟩ u).heap[g]? = some (.cells #[u] t (0, 0)) := by
  rw [heap_setCell_same w g 0 _ _ _ hg]
  rfl
end Go.Proofs.YthffegfcgmhppaaDoor
namespace Go.Proofs.YthffegfcgmhppaaDoor
open Go.RowKit
/-- for each sector its durable bytes and the unflushed writes; the power; the fuse, 0 if there is none -/
structure DM where
  S : List (List (List UInt8))
  on : Bool
  fuse : Nat
def dur (s : List (List UInt8)) : List UInt8 := s.headD []
def lastB (s : List (List UInt8)) : List UInt8 := s.getLastD []
def DM.burn (d : DM) : DM := if d.fuse = 0 then d else ⟨d.S, decide (1 < d.fuse), d.fuse - 1⟩
def DM.write (d : DM) (k : Nat) (b : List UInt8) : DM := DM.burn ⟨d.S.modify k (· ++ [b]), d.on, d.fuse⟩
def DM.flush (d : DM) : DM := DM.burn ⟨d.S.map fun s => [lastB s], d.on, d.fuse⟩
def DM.setFuse (d : DM) (n : Int) : DM := if d.on then ⟨d.S, n != 0, n.toNat⟩ else d
/-- what survives of a sector -/
def surv (s : List (List UInt8)) (wr by_ : Int) : List UInt8 :=
  let i := min wr.toNat (s.length - 1)
  match s[i + 1]? with
  | some b => b.take (min by_.toNat 64) ++ (s.getD i []).drop (min by_.toNat 64)
  | none => s.getD i []
/-- an element that says what survives -/
structure TM where
  sector : Int
  writes : Int
  bytes : Int
def firstOf (ts : List TM) (k : Nat) : Option TM := ts.find? fun t => t.sector == (k : Int)
/-- the sectors when some elements have been looked at -/
def DM.torn (S : List (List (List UInt8))) (ts : List TM) : List (List (List UInt8)) := S.mapIdx fun k s => match firstOf ts k with | some t => [surv s t.writes t.bytes] | none => s
def DM.restart (d : DM) (ts : List TM) : DM := ⟨(DM.torn d.S ts).map fun s => [dur s], true, 0⟩
def zeroB : List UInt8 := List.replicate 64 0
def DM.new (n : Nat) : DM := ⟨List.replicate n [zeroB], true, 0⟩
/-- all sectors have their durable bytes, at most N unflushed writes, and 64 bytes each -/
def DM.Ok (d : DM) (N : Nat) : Prop := 1 ≤ d.S.length ∧ d.S.length ≤ 4096 ∧ d.fuse ≤ 9223372036854775807 ∧ ∀ s ∈ d.S, s ≠ [] ∧ s.length ≤ N + 1 ∧ ∀ b ∈ s, b.length = 64
theorem DM.Ok.mono {d : DM} {N M : Nat} (h : d.Ok N) (hM : N ≤ M) : d.Ok M := ⟨h.1, h.2.1, h.2.2.1, fun s hs => ⟨(h.2.2.2 s hs).1, by have := (h.2.2.2 s hs).2.1; omega, (h.2.2.2 s hs).2.2⟩⟩
theorem DM.burn_S (d : DM) : d.burn.S = d.S := by unfold DM.burn; split <;> rfl
theorem DM.burn_ok {d : DM} {N : Nat} (h : d.Ok N) : d.burn.Ok N := by
  unfold DM.burn
  split
  · exact h
  · exact ⟨h.1, h.2.1, by show d.fuse - 1 ≤ _; have := h.2.2.1; omega, h.2.2.2⟩
theorem lastB_mem {s : List (List UInt8)} (h : s ≠ []) : lastB s ∈ s := by
  unfold lastB
  cases s with
  | nil => exact absurd rfl h
  | cons x r =>
    rw [List.getLastD_eq_getLast?, List.getLast?_eq_some_getLast (by simp)]
    exact List.getLast_mem _
theorem dur_mem {s : List (List UInt8)} (h : s ≠ []) : dur s ∈ s := by
  cases s with
  | nil => exact absurd rfl h
  | cons x r => simp [dur]
theorem DM.write_ok {d : DM} {N k : Nat} {b : List UInt8} (h : d.Ok N) (hb : b.length = 64) : (d.write k b).Ok (N + 1) := by
  refine DM.burn_ok ⟨?_, ?_, h.2.2.1, ?_⟩
  · simpa using h.1
  · simpa using h.2.1
  · intro s hs
    simp only at hs
    obtain ⟨i, hi, rfl⟩ := List.mem_iff_getElem.1 hs
    rw [List.getElem_modify]
    have hi' : i < d.S.length := by simpa using hi
    obtain ⟨h1, h2, h3⟩ := h.2.2.2 _ (List.getElem_mem hi')
    split
    · refine ⟨by simp, by simp; omega, fun x hx => ?_⟩
      rcases List.mem_append.1 hx with hx | hx
      · exact h3 x hx
      · rw [List.mem_singleton.1 hx]; exact hb
    · exact ⟨h1, by omega, h3⟩
theorem DM.flush_ok {d : DM} {N : Nat} (h : d.Ok N) : (d.flush).Ok 0 := by
  refine DM.burn_ok ⟨by simpa using h.1, by simpa using h.2.1, h.2.2.1, ?_⟩
  intro s hs
  obtain ⟨s', hs', rfl⟩ := List.mem_map.1 hs
  obtain ⟨h1, h2, h3⟩ := h.2.2.2 s' hs'
  exact ⟨by simp, by simp, fun b hb => by rw [List.mem_singleton.1 hb]; exact h3 _ (lastB_mem h1)⟩
theorem surv_len {s : List (List UInt8)} (h : s ≠ []) (h64 : ∀ b ∈ s, b.length = 64) (wr by_ : Int) : (surv s wr by_).length = 64 := by
  unfold surv
  have hp : 0 < s.length := List.length_pos_iff.2 h
  have hi : min wr.toNat (s.length - 1) < s.length := by omega
  have hg : s.getD (min wr.toNat (s.length - 1)) [] ∈ s := by
    rw [List.getD_eq_getElem?_getD, List.getElem?_eq_getElem hi, Option.getD_some]; exact List.getElem_mem hi
  simp only
  split
  · rename_i b hb
    have h1 := h64 b (List.mem_of_getElem? hb)
    have h2 := h64 _ hg
    rw [List.length_append, List.length_take, List.length_drop]
    omega
  · exact h64 _ hg
theorem DM.torn_ok {S : List (List (List UInt8))} {N : Nat} (h : ∀ s ∈ S, s ≠ [] ∧ s.length ≤ N + 1 ∧ ∀ b ∈ s, b.length = 64) (ts : List TM) : ∀ s ∈ DM.torn S ts, s ≠ [] ∧ s.length ≤ N + 1 ∧ ∀ b ∈ s, b.length = 64 := by
  intro s hs
  unfold DM.torn at hs
  obtain ⟨i, hi, rfl⟩ := List.mem_iff_getElem.1 hs
  rw [List.getElem_mapIdx]
  have hi' : i < S.length := by simpa using hi
  have := h _ (List.getElem_mem hi')
  cases firstOf ts i with
  | none => exact this
  | some t => exact ⟨by simp, by simp, fun b hb => by rw [List.mem_singleton.1 hb]; exact surv_len this.1 this.2.2 _ _⟩
theorem DM.torn_len (S : List (List (List UInt8))) (ts : List TM) : (DM.torn S ts).length = S.length := by simp [DM.torn]
theorem DM.restart_ok {d : DM} {N : Nat} (h : d.Ok N) (ts : List TM) : (d.restart ts).Ok 0 := by
  refine ⟨by simpa [DM.restart, DM.torn_len] using h.1, by simpa [DM.restart, DM.torn_len] using h.2.1, by simp [DM.restart], ?_⟩
  intro s hs
  obtain ⟨s', hs', rfl⟩ := List.mem_map.1 hs
  obtain ⟨h1, h2, h3⟩ := DM.torn_ok h.2.2.2 ts s' hs'
  exact ⟨by simp, by simp, fun b hb => by rw [List.mem_singleton.1 hb]; exact h3 _ (dur_mem h1)⟩
theorem DM.new_ok {n : Nat} (h1 : 1 ≤ n) (h2 : n ≤ 4096) : (DM.new n).Ok 0 := by
  refine ⟨by simpa [DM.new] using h1, by simpa [DM.new] using h2, by simp [DM.new], ?_⟩
  intro s hs
  rw [List.eq_of_mem_replicate hs]
  exact ⟨by simp, by simp, fun b hb => by rw [List.mem_singleton.1 hb]; simp [zeroB]⟩
/-- the cells of sectors, one after the other -/
def scells (l : List (List UInt8)) : List Value := l.flatMap vals
theorem scells_app (l m : List (List UInt8)) : scells (l ++ m) = scells l ++ scells m := by simp [scells]
theorem scells_one (l : List (List UInt8)) : ∀ u ∈ scells l, u.oneCell' = true := by
  intro u hu
  obtain ⟨b, _, hb⟩ := List.mem_flatMap.1 hu
  exact vals_one b u hb
theorem scells_len {l : List (List UInt8)} (h : ∀ b ∈ l, b.length = 64) : (scells l).length = l.length * 64 := by
  unfold scells
  induction l with
  | nil => rfl
  | cons b r ih =>
    rw [List.flatMap_cons, List.length_append, vals_len, h b (by simp), ih (fun x hx => h x (by simp [hx])), List.length_cons]
    omega
theorem scells_take {l : List (List UInt8)} (h : ∀ b ∈ l, b.length = 64) (i : Nat) : (scells l).take (i * 64) = scells (l.take i) := by
  induction l generalizing i with
  | nil => simp [scells]
  | cons b r ih =>
    cases i with
    | zero => simp [scells]
    | succ i =>
      have hb := h b (by simp)
      have e : scells (b :: r) = vals b ++ scells r := rfl
      rw [e, List.take_append, vals_len, hb, List.take_of_length_le (by rw [vals_len]; omega), show (i + 1) * 64 - 64 = i * 64 by omega, ih (fun x hx => h x (by simp [hx])), List.take_succ_cons]
      rfl
theorem scells_drop {l : List (List UInt8)} (h : ∀ b ∈ l, b.length = 64) (i : Nat) : (scells l).drop (i * 64) = scells (l.drop i) := by
  induction l generalizing i with
  | nil => simp [scells]
  | cons b r ih =>
    cases i with
    | zero => simp [scells]
    | succ i =>
      have hb := h b (by simp)
      have e : scells (b :: r) = vals b ++ scells r := rfl
      rw [e, List.drop_append, vals_len, hb, List.drop_of_length_le (by rw [vals_len]; omega), show (i + 1) * 64 - 64 = i * 64 by omega, ih (fun x hx => h x (by simp [hx])), List.drop_succ_cons, List.nil_append]
theorem scells_get {l : List (List UInt8)} (h : ∀ b ∈ l, b.length = 64) (i j : Nat) (hi : i < l.length) (hj : j < 64) : (scells l)[i * 64 + j]? = (vals l[i])[j]? := by
  have e : (scells l)[i * 64 + j]? = ((scells l).drop (i * 64))[j]? := by rw [List.getElem?_drop]
  rw [e, scells_drop h, List.drop_eq_getElem_cons hi]
  have e2 : scells (l[i] :: l.drop (i + 1)) = vals l[i] ++ scells (l.drop (i + 1)) := rfl
  rw [e2, List.getElem?_append_left (by rw [vals_len, h _ (List.getElem_mem hi)]; exact hj)]
theorem scells_set {l : List (List UInt8)} (h : ∀ b ∈ l, b.length = 64) (i : Nat) (hi : i < l.length) (b : List UInt8) : scells (l.set i b) = (scells l).take (i * 64) ++ vals b ++ (scells l).drop (i * 64 + 64) := by
  rw [scells_take h, show i * 64 + 64 = (i + 1) * 64 by omega, scells_drop h, List.set_eq_take_append_cons_drop, if_pos hi, scells_app]
  simp [scells]
theorem size64 : (Tryd.prog.info? 76).map (·.size) = some 64 := by kernel_rfl
def Z64 : Array Value := (List.replicate 64 (.int .u8 0)).toArray
theorem info94 : (Tryd.prog.info? 76).map (fun i => (i.zero, i.size, i.bytes)) = some (some (.agg Z64), 64, 64) := by kernel_rfl
/-- a disk in memory: its block g, the durable bytes in block gd, the map of unflushed writes in block gm, those of sector k in block row k -/
structure Dk (w : World) (g gd gm : Nat) (row : Nat → Option Nat) (N : Nat) (d : DM) : Prop where
  ok : d.Ok N
  self : ∃ cap cur, w.heap[g]? = some (.cells #[.slice (some ⟨gd, 0, none⟩) d.S.length cap, .map (some gm), .bool d.on, .int .i64 (d.fuse : Int)] 58 (0, 0)) ∧
    w.heap[gd]? = some (.cells cur 76 (0, 0)) ∧ d.S.length ≤ cap ∧ cap ≤ maxLen ∧ cur.size = cap * 64 ∧ cur.toList.take (d.S.length * 64) = scells (d.S.map dur)
  map : ∃ M f, Mp w gm M f ∧ (∀ k : Int, f k ≠ none → 0 ≤ k ∧ k < d.S.length) ∧
    ∀ (k : Nat) (hk : k < d.S.length), (d.S[k].tail = [] ∧ f k = none ∧ row k = none) ∨ (d.S[k].tail ≠ [] ∧ ∃ gk v, row k = some gk ∧ f k = some v ∧ Own w 76 64 (some gk) v d.S[k].tail.length (scells d.S[k].tail))
  dom : ∀ k j, row k = some j → k < d.S.length
  inj : ∀ i j g', row i = some g' → row j = some g' → i = j
  apart : ∀ i g', row i = some g' → g' ≠ gd
/-- the blocks of a disk -/
def Blk (g gd gm : Nat) (row : Nat → Option Nat) (j : Nat) : Prop := j = g ∨ j = gd ∨ j = gm ∨ ∃ k, row k = some j
theorem Dk.lt {w : World} {g gd gm : Nat} {row : Nat → Option Nat} {N : Nat} {d : DM} (h : Dk w g gd gm row N d) : ∀ j, Blk g gd gm row j → j < w.heap.size := by
  obtain ⟨cap, cur, h1, h2, _⟩ := h.self
  obtain ⟨M, f, hm, _, hr⟩ := h.map
  rintro j (rfl | rfl | rfl | ⟨k, hk⟩)
  · exact heap_lt h1
  · exact heap_lt h2
  · exact hm.lt
  · rcases hr k (h.dom k j hk) with ⟨_, _, h0⟩ | ⟨_, gk, v, hg, _, ho⟩
    · rw [h0] at hk; cases hk
    · rw [hg] at hk; cases hk; exact ho.lt _ rfl
theorem Dk.kept {S : Nat → Prop} {w w' : World} {g gd gm : Nat} {row : Nat → Option Nat} {N : Nat} {d : DM} (h : Dk w g gd gm row N d) (hk : Kept S w w') (hs : ∀ j, Blk g gd gm row j → ¬ S j) : Dk w' g gd gm row N d := by
  obtain ⟨hok, ⟨cap, cur, h1, h2, h3⟩, ⟨M, f, hm, hf, hr⟩, hdom, hinj, hap⟩ := h
  refine ⟨hok, ⟨cap, cur, hk.heap h1 (hs _ (.inl rfl)), hk.heap h2 (hs _ (.inr (.inl rfl))), h3⟩, ⟨M, f, hm.kept hk (hs _ (.inr (.inr (.inl rfl)))), hf, fun k hkl => ?_⟩, hdom, hinj, hap⟩
  rcases hr k hkl with h0 | ⟨h0, gk, v, hg, hv, ho⟩
  · exact .inl h0
  · exact .inr ⟨h0, gk, v, hg, hv, ho.kept hk (fun j hj => by cases hj; exact hs _ (.inr (.inr (.inr ⟨k, hg⟩))))⟩
/-- a disk, whose blocks lie in B -/
def DkO (w : World) (B : Nat → Prop) (g N : Nat) (d : DM) : Prop := ∃ gd gm row, Dk w g gd gm row N d ∧ (∀ j, Blk g gd gm row j → B j) ∧ ∀ j, B j → j < w.heap.size
theorem DkO.kept {S : Nat → Prop} {w w' : World} {B : Nat → Prop} {g N : Nat} {d : DM} (h : DkO w B g N d) (hk : Kept S w w') (hs : ∀ j, B j → ¬ S j) : DkO w' B g N d := by
  obtain ⟨gd, gm, row, h1, h2, h3⟩ := h
  exact ⟨gd, gm, row, h1.kept hk (fun j hj => hs j (h2 j hj)), h2, fun j hj => Nat.lt_of_lt_of_le (h3 j hj) hk.size⟩
theorem DkO.below {w w' : World} {B : Nat → Prop} {g N : Nat} {d : DM} (h : DkO w B g N d) (hb : Below w.heap.size w w') : DkO w' B g N d := h.kept (Kept.of_below (fun _ => False) hb) (fun _ _ h => h)
theorem DkO.ok {w : World} {B : Nat → Prop} {g N : Nat} {d : DM} (h : DkO w B g N d) : d.Ok N := by
  obtain ⟨_, _, _, h1, _⟩ := h
  exact h1.ok
/-- what a method of a disk does -/
def DOp (B : Nat → Prop) (g N : Nat) (w : World) (d : DM) (w' : World) : Prop := ∃ B', DkO w' B' g N d ∧ Kept B w w' ∧ ∀ j, B' j → B j ∨ w.heap.size ≤ j
theorem Dk.own {w : World} {g gd gm : Nat} {row : Nat → Option Nat} {N : Nat} {d : DM} (h : Dk w g gd gm row N d) : DkO w (Blk g gd gm row) g N d := ⟨gd, gm, row, h, fun _ h => h, h.lt⟩
/-- the fields -/
theorem Dk.facts {w : World} {g gd gm : Nat} {row : Nat → Option Nat} {N : Nat} {d : DM} (h : Dk w g gd gm row N d) : ∃ cap, d.S.length ≤ cap ∧ cap ≤ 9223372036854775807 ∧ w.cell? ⟨g, 0, none⟩ = some (.slice (some ⟨gd, 0, none⟩) d.S.length cap) ∧ w.cell? ⟨g, 1, none⟩ = some (.map (some gm)) ∧ w.cell? ⟨g, 2, none⟩ = some (.bool d.on) ∧ w.cell? ⟨g, 3, none⟩ = some (.int .i64 (d.fuse : Int)) ∧
    ∀ j, w.frozen? ⟨g, j, none⟩ = false := by
  obtain ⟨cap, cur, h1, _, h3, h4, _⟩ := h.self
  refine ⟨cap, h3, h4, ?_, ?_, ?_, ?_, fun j => frozen_of_row w g j _ _ h1⟩ <;> (rw [cell_of_row w g _ _ _ _ h1]; rfl)
end Go.Proofs.YthffegfcgmhppaaDoor
namespace Go.Proofs.YthffegfcgmhppaaDoor
open Go.RowKit
set_option linter.unusedSimpArgs false
set_option linter.unusedVariables false
theorem cells64 : Z64.size = 64 := by simp [Z64]
theorem made_cells (n : Nat) : (madeCells Z64 (n * 64)).toList = scells ((List.replicate n [zeroB]).map dur) := by
  apply List.ext_getElem?
  intro i
  have h64 : ∀ b ∈ List.replicate n zeroB, b.length = 64 := fun b hb => by rw [List.eq_of_mem_replicate hb]; simp [zeroB]
  have e1 : (List.replicate n [zeroB]).map dur = List.replicate n zeroB := by simp [dur]
  rw [e1]
  have hz : ∀ j, j < 64 → Z64[j]? = some (.int .u8 0) := fun j hj => by unfold Z64; rw [List.getElem?_toArray, List.getElem?_replicate, if_pos hj]
  by_cases hi : i < n * 64
  · have e2 : i = i / 64 * 64 + i % 64 := by omega
    have hr : (scells (List.replicate n zeroB))[i]? = some (.int .u8 0) := by
      rw [e2, scells_get h64 (i / 64) (i % 64) (by simp; omega) (by omega)]
      rw [List.getElem_replicate]
      have ez : vals zeroB = List.replicate 64 (.int .u8 0) := by unfold vals zeroB; rw [List.map_replicate]; rfl
      rw [ez, List.getElem?_replicate, if_pos (Nat.mod_lt _ (by omega))]
    rw [hr]
    unfold madeCells
    have := hz (i % 64) (Nat.mod_lt _ (by omega))
    have h2 : Z64[i % 64]! = .int .u8 0 := by rw [getElem!_def, this]
    simp [hi, cells64, h2]
  · rw [List.getElem?_eq_none (by simp [madeCells]; omega), List.getElem?_eq_none (by rw [scells_len h64]; simp; omega)]
def ZC (n : Nat) : Array Value := madeCells Z64 (n * 64)
theorem ZC_size (n : Nat) : (ZC n).size = n * 64 := by unfold ZC; exact size_madeCells _ _
theorem run_make89 (n : Nat) (hn : n ≤ 4096) (W : World) :
    (Instr.makeSlice 55 (.int .i64 (n : Int)) (.int .i64 (n : Int))).run Tryd.prog W = .ok (.slice (some ⟨W.heap.size, 0, none⟩) n n) (W.alloc (.cells (ZC n) 76)) := by
  obtain ⟨i0, hi, hz0, hz1, hz2⟩ := info_parts info94
  have h := run_make (P := Tryd.prog) W 55 76 i0 (.agg Z64) Tryd.underlying55 hi hz0 .i64 .i64 (n : Int) (n : Int) (by omega) (Int.le_refl _) (by rw [hz2]; omega) (by omega)
  rw [h, hz1]
  simp [ZC, Value.cells]
theorem Dk.new (w : World) (n : Nat) (h1 : 1 ≤ n) (h2 : n ≤ 4096) :
    Dk (((w.alloc (.cells (ZC n) 76)).alloc (.map #[] 0)).alloc (.cells #[.slice (some ⟨w.heap.size, 0, none⟩) n n, .map (some (w.heap.size + 1)), .bool true, .int .i64 0] 58)) (w.heap.size + 2) w.heap.size (w.heap.size + 1) (fun _ => none) 0 (DM.new n) := by
  have hl : (DM.new n).S.length = n := by simp [DM.new]
  have hm := Mp.made (w.alloc (.cells (ZC n) 76))
  rw [size_alloc1] at hm
  refine ⟨DM.new_ok h1 h2, ⟨n, ZC n, ?_, ?_, by rw [hl]; exact Nat.le_refl _, by unfold maxLen; omega, ZC_size n, ?_⟩, ⟨_, _, hm.kept ((Kept.refl (fun _ => False) _).alloc _) (fun h => h), fun k h => absurd rfl h, fun k hk => .inl ⟨?_, rfl, rfl⟩⟩, (fun k j h => by cases h), (fun i j g' h => by cases h), (fun i g' h => by cases h)⟩
  · rw [hl]; exact heap_new (by simp only [size_alloc1])
  · exact heap_old (heap_old (heap_new rfl))
  · rw [hl]
    have e := made_cells n
    have e2 : (ZC n).toList = scells ((DM.new n).S.map dur) := e
    rw [e2, List.take_of_length_le (by rw [← e2]; simp [ZC_size])]
  · simp [DM.new]
theorem new_any (n : Nat) (w : World) (h1 : 1 ≤ n) (h2 : n ≤ 4096) :
    Calls Tryd.prog 44 #[.int .i64 (n : Int)] w fun e w' => ∃ g, e = .returned (.tuple #[.pointer (some ⟨g, 0, none⟩), .int .i64 0]) ∧ (∃ B, DkO w' B g 0 (DM.new n) ∧ ∀ j, B j → w.heap.size ≤ j) ∧ w.heap.size ≤ g ∧ Below w.heap.size w w' := by
  have hmk := run_make89 n h2
  have hmm := @run_makeMap Tryd.prog
  have HD := Lib.hid (Dk.new w n h1 h2)
  have HB : Hid (Below w.heap.size w (((w.alloc (.cells (ZC n) 76)).alloc (.map #[] 0)).alloc (.cells #[.slice (some ⟨w.heap.size, 0, none⟩) n n, .map (some (w.heap.size + 1)), .bool true, .int .i64 0] 58))) :=
    Lib.hid ((((Below.refl _ _).alloc (Nat.le_refl _) _).alloc (by simp only [size_alloc1]; omega) _).alloc (by simp only [size_alloc1]; omega) _)
  go_enter Tryd.func44, Tryd.ntmps44
  go_wp2
  go_ret2
  refine ⟨_, rfl, ⟨_, HD.out.own, ?_⟩, by omega, HB.out⟩
  rintro j (rfl | rfl | rfl | ⟨k, hk⟩)
  · omega
  · omega
  · omega
  · cases hk
theorem new_bad (n : Int) (w : World) (h : n < 1 ∨ 4096 < n) :
    Calls Tryd.prog 44 #[.int .i64 n] w fun e w' => e = .returned (.tuple #[.pointer none, .int .i64 5]) ∧ w = w' := by
  by_cases h1 : n < 1
  · go_enter Tryd.func44, Tryd.ntmps44
    go_wp2
    go_ret2
    exact ⟨rfl, rfl⟩
  · have h2 : 4096 < n := by omega
    have h3 : 1 ≤ n := by omega
    clear h h1
    go_enter Tryd.func44, Tryd.ntmps44
    go_wp2
    go_ret2
    exact ⟨rfl, rfl⟩
section
variable {w : World} {g gd gm : Nat} {row : Nat → Option Nat} {N : Nat} {d : DM}
theorem len_dk (h : Dk w g gd gm row N d) :
    Calls Tryd.prog 52 #[.pointer (some ⟨g, 0, none⟩)] w fun e w' => e = .returned (.int .i64 (d.S.length : Int)) ∧ w = w' := by
  obtain ⟨cap, h1, h2, c0, c1, c2, c3, f0⟩ := h.facts
  clear h
  go_enter Tryd.func52, Tryd.ntmps52
  go_wp2
  go_ret
  exact ⟨rfl, rfl⟩
theorem on_dk (h : Dk w g gd gm row N d) :
    Calls Tryd.prog 7 #[.pointer (some ⟨g, 0, none⟩)] w fun e w' => e = .returned (.bool d.on) ∧ w = w' := by
  obtain ⟨cap, h1, h2, c0, c1, c2, c3, f0⟩ := h.facts
  clear h
  go_enter Tryd.func7, Tryd.ntmps7
  go_wp2
  go_ret
  exact ⟨rfl, rfl⟩
def hasB (d : DM) (k : Int) : Bool := decide (0 ≤ k ∧ k < d.S.length)
theorem has_dk (h : Dk w g gd gm row N d) (k : Int) :
    Calls Tryd.prog 61 #[.pointer (some ⟨g, 0, none⟩), .int .i64 k] w fun e w' => e = .returned (.bool (hasB d k)) ∧ w = w' := by
  obtain ⟨cap, h1, h2, c0, c1, c2, c3, f0⟩ := h.facts
  obtain ⟨B, hB⟩ : ∃ B, B = hasB d k := ⟨_, rfl⟩
  rw [← hB]
  have HB := Lib.hid hB
  clear h hB
  by_cases h0 : 0 ≤ k
  · by_cases hk : k < d.S.length
    · have HT : Hid (B = true) := Lib.hid (by rw [HB.out, hasB, decide_eq_true ⟨h0, hk⟩])
      go_enter Tryd.func61, Tryd.ntmps61
      go_wp2
      go_ret
      exact ⟨by rw [HT.out]; rfl, rfl⟩
    · have HT : Hid (B = false) := Lib.hid (by rw [HB.out, hasB, decide_eq_false (fun h => hk h.2)])
      have hk2 : (d.S.length : Int) ≤ k := by omega
      have hk3 : decide (k < (d.S.length : Int)) = false := by simpa using hk2
      clear hk
      go_enter Tryd.func61, Tryd.ntmps61
      go_wp2
      go_ret
      exact ⟨by rw [HT.out]; rfl, rfl⟩
  · have HT : Hid (B = false) := Lib.hid (by rw [HB.out, hasB, decide_eq_false (fun h => h0 h.1)])
    have hd : decide (0 ≤ k) = false := by simpa using h0
    have hk2 : k < 0 := by omega
    clear h0
    go_enter Tryd.func61, Tryd.ntmps61
    go_wp2
    go_ret
    exact ⟨by rw [HT.out]; rfl, rfl⟩
/-- a field is stored -/
theorem Dk.setFuseC (h : Dk w g gd gm row N d) (x : Nat) (hx : x ≤ 9223372036854775807) : Dk (w.setCell ⟨g, 3, none⟩ (.int .i64 (x : Int))) g gd gm row N ⟨d.S, d.on, x⟩ := by
  have K : Kept (fun j => j = g) w (w.setCell ⟨g, 3, none⟩ (.int .i64 (x : Int))) := (Kept.refl (fun j => j = g) w).setCell (fun _ => rfl) _
  obtain ⟨hok, ⟨cap, cur, h1, h2, h3⟩, ⟨M, f, hm, hf, hr⟩, hdom, hinj, hap⟩ := h
  have hgd : gd ≠ g := by rintro rfl; rw [h1] at h2; simp at h2
  have hgm : gm ≠ g := by rintro rfl; obtain ⟨es, cl, hb, _⟩ := hm; rw [h1] at hb; cases hb
  refine ⟨⟨hok.1, hok.2.1, hx, hok.2.2.2⟩, ⟨cap, cur, ?_, K.heap h2 hgd, h3⟩, ⟨M, f, hm.kept K hgm, hf, fun k hk => ?_⟩, hdom, hinj, hap⟩
  · rw [heap_setCell_same w g 3 _ _ _ h1]; rfl
  · rcases hr k hk with h0 | ⟨h0, gk, v, hg, hv, ho⟩
    · exact .inl h0
    · refine .inr ⟨h0, gk, v, hg, hv, ho.kept K (fun j hj e => ?_)⟩
      cases hj
      subst e
      rcases ho.2 with ⟨hn, _⟩ | ⟨g', _, _, hg', _, hh, _⟩
      · cases hn
      · cases hg'; rw [h1] at hh; simp at hh
theorem Dk.setOnC (h : Dk w g gd gm row N d) (b : Bool) : Dk (w.setCell ⟨g, 2, none⟩ (.bool b)) g gd gm row N ⟨d.S, b, d.fuse⟩ := by
  have K : Kept (fun j => j = g) w (w.setCell ⟨g, 2, none⟩ (.bool b)) := (Kept.refl (fun j => j = g) w).setCell (fun _ => rfl) _
  obtain ⟨hok, ⟨cap, cur, h1, h2, h3⟩, ⟨M, f, hm, hf, hr⟩, hdom, hinj, hap⟩ := h
  have hgd : gd ≠ g := by rintro rfl; rw [h1] at h2; simp at h2
  have hgm : gm ≠ g := by rintro rfl; obtain ⟨es, cl, hb, _⟩ := hm; rw [h1] at hb; cases hb
  refine ⟨hok, ⟨cap, cur, ?_, K.heap h2 hgd, h3⟩, ⟨M, f, hm.kept K hgm, hf, fun k hk => ?_⟩, hdom, hinj, hap⟩
  · rw [heap_setCell_same w g 2 _ _ _ h1]; rfl
  · rcases hr k hk with h0 | ⟨h0, gk, v, hg, hv, ho⟩
    · exact .inl h0
    · refine .inr ⟨h0, gk, v, hg, hv, ho.kept K (fun j hj e => ?_)⟩
      cases hj
      subst e
      rcases ho.2 with ⟨hn, _⟩ | ⟨g', _, _, hg', _, hh, _⟩
      · cases hn
      · cases hg'; rw [h1] at hh; simp at hh
theorem kept_two {w : World} {g i j : Nat} (x y : Value) : Kept (fun b => b = g) w ((w.setCell ⟨g, i, none⟩ x).setCell ⟨g, j, none⟩ y) :=
  ((Kept.refl (fun b => b = g) w).setCell (p := ⟨g, i, none⟩) (fun _ => rfl) _).setCell (p := ⟨g, j, none⟩) (fun _ => rfl) _
theorem burn_dk (h : Dk w g gd gm row N d) :
    Calls Tryd.prog 50 #[.pointer (some ⟨g, 0, none⟩)] w fun e w' => e = .returned (.tuple #[]) ∧ Dk w' g gd gm row N d.burn ∧ Kept (fun j => j = g) w w' := by
  obtain ⟨cap, h1, h2, c0, c1, c2, c3, f0⟩ := h.facts
  have hfu := h.ok.2.2.1
  have H := Lib.hid h
  clear h
  by_cases hf : d.fuse = 0
  · have HB : Hid (d.burn = d) := Lib.hid (by unfold DM.burn; rw [if_pos hf])
    have hf2 : ((d.fuse : Int) == 0) = true := by rw [hf]; rfl
    have HF := Lib.hid hf
    clear hf
    go_enter Tryd.func50, Tryd.ntmps50
    go_wp2
    exact bodyPost_ret (results_none rfl _ _ _) rfl ⟨rfl, by rw [HB.out]; exact H.out, Kept.refl _ _⟩
  · have hf2 : ((d.fuse : Int) == 0) = false := by rw [beq_eq_false_iff_ne]; omega
    have hfp : 1 ≤ d.fuse := by omega
    have e1 : IntKind.i64.wrap ((d.fuse : Int) - 1) = (d.fuse : Int) - 1 := i64_id _ (by omega) (by omega)
    have f2 := f0 2
    have f3 := f0 3
    have D1 := H.out.setFuseC (d.fuse - 1) (by omega)
    rw [show ((d.fuse - 1 : Nat) : Int) = (d.fuse : Int) - 1 by omega] at D1
    have D2 := D1.setOnC (decide (1 < (d.fuse : Int)))
    have HB : Hid (d.burn = ⟨d.S, decide (1 < (d.fuse : Int)), d.fuse - 1⟩) := Lib.hid (by
      unfold DM.burn; rw [if_neg hf]; congr 1; rw [decide_eq_decide]; omega)
    have HD2 := Lib.hid D2
    clear hf D1 D2 f0
    go_enter Tryd.func50, Tryd.ntmps50
    go_wp2
    go_end0
    exact ⟨rfl, by rw [HB.out]; exact HD2.out, kept_two _ _⟩
theorem fuse_dk (h : Dk w g gd gm row N d) (n : Int) (h1 : -9223372036854775808 ≤ n) (h2 : n ≤ 9223372036854775807) :
    Calls Tryd.prog 5 #[.pointer (some ⟨g, 0, none⟩), .int .i64 n] w fun e w' => e = .returned (.tuple #[]) ∧ Dk w' g gd gm row N (d.setFuse n) ∧ Kept (fun j => j = g) w w' := by
  obtain ⟨cap, hc1, hc2, c0, c1, c2, c3, f0⟩ := h.facts
  have f2 := f0 2
  have f3 := f0 3
  have H := Lib.hid h
  clear h f0
  cases hon : d.on with
  | false =>
    rw [hon] at c2
    have HS : Hid (d.setFuse n = d) := Lib.hid (by unfold DM.setFuse; rw [hon]; rfl)
    clear hon
    go_enter Tryd.func5, Tryd.ntmps5
    go_wp2
    exact bodyPost_ret (results_none rfl _ _ _) rfl ⟨rfl, by rw [HS.out]; exact H.out, Kept.refl _ _⟩
  | true =>
    rw [hon] at c2
    have HS : Hid (d.setFuse n = ⟨d.S, n != 0, n.toNat⟩) := Lib.hid (by unfold DM.setFuse; rw [hon]; rfl)
    by_cases hn : 0 ≤ n
    · obtain ⟨m, rfl⟩ : ∃ m : Nat, n = (m : Int) := ⟨n.toNat, by omega⟩
      have hmx : max (m : Int) 0 = (m : Int) := by omega
      have D2 := (H.out.setFuseC m (by omega)).setOnC ((m : Int) != 0)
      have HS2 : Hid (d.setFuse (m : Int) = ⟨d.S, (m : Int) != 0, m⟩) := Lib.hid (by rw [HS.out, Int.toNat_natCast])
      have HD2 := Lib.hid D2
      clear hon D2 HS
      go_enter Tryd.func5, Tryd.ntmps5
      go_wp2
      go_end0
      exact ⟨rfl, by rw [HS2.out]; exact HD2.out, kept_two _ _⟩
    · have hmx : max n 0 = 0 := by omega
      have hne : (n != 0) = true := by rw [bne_iff_ne]; omega
      have D2 := (H.out.setFuseC 0 (by omega)).setOnC true
      have HS2 : Hid (d.setFuse n = ⟨d.S, true, 0⟩) := Lib.hid (by rw [HS.out, hne, show n.toNat = 0 by omega])
      have HD2 := Lib.hid D2
      clear hon D2 HS
      go_enter Tryd.func5, Tryd.ntmps5
      go_wp2
      go_end0
      exact ⟨rfl, by rw [HS2.out]; exact HD2.out, kept_two _ _⟩
end
end Go.Proofs.YthffegfcgmhppaaDoor
namespace Go.Proofs.YthffegfcgmhppaaDoor
open Go.RowKit
set_option linter.unusedSimpArgs false
set_option linter.unusedVariables false
theorem size64v {l : List UInt8} (h : l.length = 64) : (Tryd.prog.info? 76).map (·.size) = some (vals l).length := by rw [vals_len, h]; exact size64
theorem size64a {l : List UInt8} (h : l.length = 64) : (Tryd.prog.info? 76).map (·.size) = some (vals l).toArray.size := by rw [List.size_toArray, vals_len, h]; exact size64
theorem one64 (l : List UInt8) : (vals l).toArray.all (·.oneCell') = true := Array.all_eq_true_iff_forall_mem.2 (fun v hv => vals_one l v (by simpa using hv))
theorem run_alloc94 (W : World) : (Instr.alloc 76 true (.tuple #[])).run Tryd.prog W = .ok (.pointer (some ⟨W.heap.size, 0, none⟩)) (W.alloc (.cells Z64 76)) := by kernel_rfl
theorem wpList_alloc_z {P : Program} {ops : Array Oper} {rest : List Oper} {o : Oper} {a : Act} {w : World} {Q : Exit → Act → World → Prop} (hgd : o.guard = none) (ty : TypeId) (ho : o.op = .alloc ty) (cs : Array Value) (t : TypeId)
    (hr : ∀ W : World, (Instr.alloc ty true (.tuple #[])).run P W = .ok (.pointer (some ⟨W.heap.size, 0, none⟩)) (W.alloc (.cells cs t)))
    (h : wpList P ops Q rest (a.put o.dst (.pointer (some ⟨w.heap.size, 0, none⟩))) (w.alloc (.cells cs t))) : wpList P ops Q (o :: rest) a w := by
  refine wpList_plain hgd fun K hK => ?_
  unfold Oper.wp execOp
  simp only [ho, hr, Sem.run_bind, Sem.run_pure, Result.andThen_ok]
  exact hK _ _ h
theorem Own.secs {w : World} {gk : Nat} {v : Value} {n : Nat} {l : List (List UInt8)} (h : Own w 76 64 (some gk) v n (scells l)) (h64 : ∀ b ∈ l, b.length = 64) (hn : l.length = n) :
    ∃ c, v = .slice (some ⟨gk, 0, none⟩) n c ∧ n ≤ c ∧ c ≤ 9223372036854775807 ∧ ∀ (i : Nat) (hi : i < l.length), w.rangeAt gk (i * 64) (vals l[i]) := by
  obtain ⟨h1, h2⟩ := h
  rcases h2 with ⟨h0, _⟩ | ⟨g', cap, cur, hg', hv, hh, hnc, hc, hs, ht⟩
  · cases h0
  · cases hg'
    refine ⟨cap, hv, hnc, hc, fun i hi j u hu => ?_⟩
    rw [cell_of_row w gk _ cur _ _ hh]
    have hj : j < 64 := by have := (List.getElem?_eq_some_iff.1 hu).1; rwa [vals_len, h64 _ (List.getElem_mem hi)] at this
    have e := scells_get h64 i j hi hj
    rw [hu, ← ht, List.getElem?_take] at e
    split at e
    · simpa using e
    · cases e
theorem Dk.durAt {w : World} {g gd gm : Nat} {row : Nat → Option Nat} {N : Nat} {d : DM} (h : Dk w g gd gm row N d) (k : Nat) (hk : k < d.S.length) : w.rangeAt gd (k * 64) (vals (dur d.S[k])) ∧ (dur d.S[k]).length = 64 := by
  obtain ⟨cap, cur, _, h2, _, _, _, h6⟩ := h.self
  have h64 : ∀ b ∈ d.S.map dur, b.length = 64 := by
    intro b hb
    obtain ⟨s, hs, rfl⟩ := List.mem_map.1 hb
    obtain ⟨h1, _, h3⟩ := h.ok.2.2.2 s hs
    exact h3 _ (dur_mem h1)
  refine ⟨fun j u hu => ?_, h64 _ (List.mem_map.2 ⟨_, List.getElem_mem hk, rfl⟩)⟩
  rw [cell_of_row w gd _ cur _ _ h2]
  have hj : j < 64 := by have := (List.getElem?_eq_some_iff.1 hu).1; rwa [vals_len, h64 _ (List.mem_map.2 ⟨_, List.getElem_mem hk, rfl⟩)] at this
  have e := scells_get h64 k j (by simpa using hk) hj
  rw [List.getElem_map, hu, ← h6, List.getElem?_take] at e
  split at e
  · simpa using e
  · cases e
section
variable {w : World} {g gd gm : Nat} {row : Nat → Option Nat} {N : Nat} {d : DM}
theorem read_no (h : Dk w g gd gm row N d) (k : Int) (hk : hasB d k = false) :
    Calls Tryd.prog 48 #[.pointer (some ⟨g, 0, none⟩), .int .i64 k] w fun e w' => e = .returned (.tuple #[.slice none 0 0, .int .i64 5]) ∧ w = w' := by
  have hC := has_dk h k
  rw [hk] at hC
  have HC := Lib.hid hC
  clear h hC hk
  go_enter Tryd.func48, Tryd.ntmps48
  go_wp2_with (go_at_call 61; refine HC.out.mono ?_; rintro e w1 ⟨rfl, rfl⟩)
  go_ret2
  exact ⟨rfl, rfl⟩
theorem read_off (h : Dk w g gd gm row N d) (k : Int) (hk : hasB d k = true) (ho : d.on = false) :
    Calls Tryd.prog 48 #[.pointer (some ⟨g, 0, none⟩), .int .i64 k] w fun e w' => e = .returned (.tuple #[.slice none 0 0, .int .i64 10]) ∧ w = w' := by
  have hC := has_dk h k
  rw [hk] at hC
  have HC := Lib.hid hC
  obtain ⟨cap, h1, h2, c0, c1, c2, c3, f0⟩ := h.facts
  rw [ho] at c2
  clear h hC hk ho
  go_enter Tryd.func48, Tryd.ntmps48
  go_wp2_with (go_at_call 61; refine HC.out.mono ?_; rintro e w1 ⟨rfl, rfl⟩)
  go_ret2
  exact ⟨rfl, rfl⟩
/-- new bytes -/
def NewB (w : World) (l : List UInt8) (v : Value) (w' : World) : Prop := ∃ g, v = .slice (some ⟨g, 0, none⟩) l.length l.length ∧ w.heap.size ≤ g ∧ Bs (fun b => b = g) w' (some ⟨g, 0, none⟩) l.length l.length l ∧ Below w.heap.size w w'
theorem bs_block {w : World} {g : Nat} {l : List UInt8} {t : TypeId} (h : w.heap[g]? = some (.cells (vals l).toArray t (0, 0))) (hl : l.length ≤ maxLen) : Bs (fun b => b = g) w (some ⟨g, 0, none⟩) l.length l.length l := by
  refine ⟨rfl, by rw [vals_len]; omega, Nat.le_refl _, hl, (fun h => by cases h), fun hp => ⟨g, 0, rfl, rfl, fun j v hv => ?_⟩⟩
  rw [Nat.zero_add, cell_of_row w g j _ _ _ h]
  simpa using hv
theorem tail_last (s : List (List UInt8)) (h : s.tail ≠ []) (h2 : s.tail.length - 1 < s.tail.length) : s.tail[s.tail.length - 1] = lastB s := by
  rw [← List.getLast_eq_getElem h]
  unfold lastB
  match s, h with
  | x :: y :: r, _ => simp [List.getLastD_eq_getLast?, List.getLast?_eq_some_getLast]
set_option maxRecDepth 100000 in
set_option maxHeartbeats 1000000 in
theorem read_ok (h : Dk w g gd gm row N d) (k : Nat) (hk : k < d.S.length) (ho : d.on = true) :
    Calls Tryd.prog 48 #[.pointer (some ⟨g, 0, none⟩), .int .i64 (k : Int)] w fun e w' => ∃ v, e = .returned (.tuple #[v, .int .i64 0]) ∧ NewB w (lastB d.S[k]) v w' := by
  have hC := has_dk h (k : Int)
  rw [show hasB d (k : Int) = true by unfold hasB; rw [decide_eq_true]; omega] at hC
  have HC := Lib.hid hC
  obtain ⟨cap, h1, h2, c0, c1, c2, c3, f0⟩ := h.facts
  rw [ho] at c2
  obtain ⟨hd, hd64⟩ := h.durAt k hk
  have Hd := Lib.hid hd
  have Hd64 := Lib.hid hd64
  obtain ⟨hne, hsl, hs64⟩ := h.ok.2.2.2 _ (List.getElem_mem hk)
  have hn4 := h.ok.2.1
  obtain ⟨M, f, hm, hf, hr⟩ := h.map
  have hr := hr k hk
  have Hm := Lib.hid hm
  generalize d.S[k] = s at *
  have hlt := h.lt
  have hgm : gm < w.heap.size := hlt gm (.inr (.inr (.inl rfl)))
  have hg : g < w.heap.size := hlt g (.inl rfl)
  -- the world behind the copy of the durable bytes
  obtain ⟨w1, hw1⟩ : ∃ w1, w1 = (w.alloc (.cells Z64 76)).setRow w.heap.size (vals (dur s)).toArray := ⟨_, rfl⟩
  have hb1 : Below w.heap.size w w1 := by rw [hw1]; exact below_setRow ((Below.refl _ _).alloc (Nat.le_refl _) _) (Nat.le_refl _) _
  have hn1 : w1.heap[w.heap.size]? = some (.cells (vals (dur s)).toArray 76 (0, 0)) := by rw [hw1]; exact setRow_heap _ _ _ _ _ _ (heap_new rfl)
  have b0 := (hb1.cell (p := ⟨g, 1, none⟩) hg).trans c1
  have wfk : (Lit.int .i64 (k : Int)).wf = true := by exact WalkArith.wf_i64 (by omega)
  have hz : (zeroValue 55).run Tryd.prog w1 = .ok (.slice none 0 0) w1 := by kernel_rfl
  have hlk := (hm.kept (Kept.of_below (fun _ => False) hb1) (fun h => h)).look (P := Tryd.prog) (t := 56) (kt := 3) (et := 55) Tryd.underlying56 Tryd.underlying3 hz (k : Int) wfk false
  have Hb1 := Lib.hid hb1
  have Hn1 := Lib.hid hn1
  have Hw1 := Lib.hid hw1
  rcases hr with ⟨hp, hfk, hrow⟩ | ⟨hp, gk, v, hrow, hfk, hown⟩
  · rw [hfk] at hlk
    simp only [Bool.false_eq_true, if_false] at hlk
    have HL : Hid (lastB s = dur s) := Lib.hid (by
      match s, hp with
      | [x], _ => rfl
      | [], _ => exact absurd rfl hne)
    clear h hC ho hd hd64 hne hsl hs64 hm hf hlt hb1 hn1 hw1 hp hfk hrow hz wfk
    go_enter Tryd.func48, Tryd.ntmps48
    go_upto_region 6 with (first
      | (go_at_call 61; refine HC.out.mono ?_; rintro e w1 ⟨rfl, rfl⟩)
      | (refine wpList_alloc_z rfl 76 rfl Z64 76 run_alloc94 ?_)
      | (refine wpList_load_mid rfl 76 (.tmp 22) rfl gd (k * 64) rfl _ _ Hd.out Tryd.underlying76 rfl (size64v Hd64.out) ?_)
      | (refine wpList_store_row rfl 76 (.tmp 6) (.tmp 23) rfl w.heap.size _ rfl rfl 76 Z64 (heap_new rfl) (size64a Hd64.out) (by rw [cells64, List.size_toArray, vals_len, Hd64.out]) (one64 _) ?_))
    rw [← Hw1.out]
    go_wp2_with fail
    go_ret2
    refine ⟨_, rfl, w.heap.size, ?_, Nat.le_refl _, ?_, Hb1.out⟩
    · rw [HL.out, Hd64.out]; rfl
    · rw [HL.out]; exact bs_block Hn1.out (by rw [Hd64.out]; unfold maxLen; omega)
  · rw [hfk] at hlk
    simp only [Bool.false_eq_true, if_false] at hlk
    have hpl : 0 < s.tail.length := List.length_pos_iff.2 hp
    have ht64 : ∀ b ∈ s.tail, b.length = 64 := fun b hb => hs64 b (List.mem_of_mem_tail hb)
    obtain ⟨c, rfl, hc1, hc2, hat⟩ := (hown.kept (Kept.of_below (fun _ => False) hb1) (fun _ _ h => h)).secs ht64 rfl
    have hr2 := hat (s.tail.length - 1) (by omega)
    have hlast : s.tail[s.tail.length - 1] = lastB s := tail_last s hp (by omega)
    have hl64 : (lastB s).length = 64 := hs64 _ (lastB_mem hne)
    rw [hlast] at hr2
    have Hr2 := Lib.hid hr2
    have Hl64 := Lib.hid hl64
    have hb2 : Below w.heap.size w (w1.setRow w.heap.size (vals (lastB s)).toArray) := below_setRow hb1 (Nat.le_refl _) _
    have hn2 : (w1.setRow w.heap.size (vals (lastB s)).toArray).heap[w.heap.size]? = some (.cells (vals (lastB s)).toArray 76 (0, 0)) := setRow_heap _ _ _ _ _ _ hn1
    have Hb2 := Lib.hid hb2
    have Hn2 := Lib.hid hn2
    have hml : s.tail.length ≤ 9223372036854775807 := by omega
    have hpos : (0 : Int) < (s.tail.length : Int) := by omega
    clear h hC ho hd hd64 hne hsl hs64 hm hf hlt hb1 hn1 hw1 hfk hrow hz wfk hr hown hr2 hl64 hlast hb2 hn2 hat ht64 hp
    generalize s.tail.length = m at *
    go_enter Tryd.func48, Tryd.ntmps48
    go_upto_region 6 with (first
      | (go_at_call 61; refine HC.out.mono ?_; rintro e w1 ⟨rfl, rfl⟩)
      | (refine wpList_alloc_z rfl 76 rfl Z64 76 run_alloc94 ?_)
      | (refine wpList_load_mid rfl 76 (.tmp 22) rfl gd (k * 64) rfl _ _ Hd.out Tryd.underlying76 rfl (size64v Hd64.out) ?_)
      | (refine wpList_store_row rfl 76 (.tmp 6) (.tmp 23) rfl w.heap.size _ rfl rfl 76 Z64 (heap_new rfl) (size64a Hd64.out) (by rw [cells64, List.size_toArray, vals_len, Hd64.out]) (one64 _) ?_))
    rw [← Hw1.out]
    go_wp2_with (first
      | (refine wpList_load_mid rfl 76 (.tmp 37) rfl gk ((m - 1) * 64) rfl _ _ Hr2.out Tryd.underlying76 rfl (size64v Hl64.out) ?_)
      | (refine wpList_store_row rfl 76 (.tmp 6) (.tmp 38) rfl w.heap.size _ rfl rfl 76 _ Hn1.out (size64a Hl64.out) (by rw [List.size_toArray, List.size_toArray, vals_len, vals_len, Hd64.out, Hl64.out]) (one64 _) ?_))
    go_ret2
    refine ⟨_, rfl, w.heap.size, ?_, Nat.le_refl _, ?_, Hb2.out⟩
    · rw [Hl64.out]; rfl
    · exact bs_block Hn2.out (by rw [Hl64.out]; unfold maxLen; omega)
end
end Go.Proofs.YthffegfcgmhppaaDoor
namespace Go.Proofs.YthffegfcgmhppaaDoor
open Go.RowKit
set_option linter.unusedSimpArgs false
set_option linter.unusedVariables false
theorem fill_all (cs z : Array Value) (h : z.size = cs.size) : cs.zipIdx.foldl (fun r (c, j) => r.setIfInBounds (0 + j) c) z = cs := by
  have key := Array.foldl_induction («as» := cs.zipIdx) (motive := fun (k : Nat) (r : Array Value) => r.size = cs.size ∧ ∀ j, j < k → r[j]? = cs[j]?) (init := z) ⟨h, fun j hj => absurd hj (by omega)⟩ (f := fun r (c, j) => r.setIfInBounds (0 + j) c) (by
      rintro ⟨i, hi⟩ r ⟨h1, h2⟩
      have hi2 : i < cs.size := by simpa using hi
      have e : cs.zipIdx[i] = (cs[i], i) := by simp
      simp only [Fin.getElem_fin, e]
      refine ⟨by simpa using h1, fun j hj => ?_⟩
      rw [Nat.zero_add, Array.getElem?_setIfInBounds]
      split
      · rename_i hij
        subst hij
        rw [if_pos (by rw [h1]; exact hi2), Array.getElem?_eq_getElem hi2]
      · rename_i hij
        exact h2 j (by simp only at hj hij ⊢; omega))
  obtain ⟨h1, h2⟩ := key
  apply Array.ext_getElem?
  intro j
  by_cases hj : j < cs.size
  · exact h2 j (by simpa using hj)
  · rw [Array.getElem?_eq_none (by omega), Array.getElem?_eq_none (by omega)]
theorem run_build94 (cs : Array Value) (h : cs.size = 64) (W : World) :
    (Instr.buildSlice 55 1 #[(0, .agg cs)]).run Tryd.prog W = .ok (.slice (some ⟨W.heap.size, 0, none⟩) 1 1) (W.alloc (.cells cs 76)) := by
  obtain ⟨i0, hi, hz0, hz1, hz2⟩ := info_parts info94
  have hfold := fill_all cs ((Array.range 64).map (Z64[· % Z64.size]!)) (by simp [h])
  have hs : (sizeOf 76).run Tryd.prog W = .ok 64 W := by rw [run_sizeOf W hi]; simp [Program.cellsOf, hi, hz1]
  have hz : (zeroValue 76).run Tryd.prog W = .ok (.agg Z64) W := by simp [zeroValue, run_typeInfo W hi, hz0, Result.andThen]
  have hf : Instr.fill (fun i => some (i * 64, 64)) ((Array.range 64).map (Z64[· % Z64.size]!)) [(0, .agg cs)] = some cs := by
    unfold Instr.fill
    simp only [Value.cells, h, cells64, Array.size_map, Array.size_range, Nat.zero_mul, Nat.zero_add, ne_eq, not_true_eq_false, Nat.lt_irrefl, or_self, decide_false, Bool.or_self, if_false, Instr.fill]
    simp only [cells64, Nat.zero_add] at hfold
    simp only [Array.size_zipIdx] at hfold
    simp [hfold]
  unfold Instr.buildSlice
  simp only [run_underlying Tryd.underlying55, hs, hz, Sem.run_bind, Sem.run_pure, Result.andThen_ok, Nat.one_mul, Value.cells]
  simp [hs, hz, hf, Result.andThen, newRow, Value.cells]
theorem Dk.g_ne {w : World} {g gd gm : Nat} {row : Nat → Option Nat} {N : Nat} {d : DM} (h : Dk w g gd gm row N d) : g ≠ gd ∧ g ≠ gm ∧ gd ≠ gm ∧ ∀ k j, row k = some j → j ≠ g ∧ j ≠ gm := by
  obtain ⟨cap, cur, h1, h2, _⟩ := h.self
  obtain ⟨M, f, hm, _, hr⟩ := h.map
  obtain ⟨es, cl, hb, _⟩ := hm
  refine ⟨?_, ?_, ?_, fun k j hk => ?_⟩
  · rintro rfl; rw [h1] at h2; simp at h2
  · rintro rfl; rw [h1] at hb; cases hb
  · rintro rfl; rw [h2] at hb; cases hb
  · rcases hr k (h.dom k j hk) with ⟨_, _, h0⟩ | ⟨_, gk, v, hg, _, ho⟩
    · rw [h0] at hk; cases hk
    · rw [hg] at hk; cases hk
      rcases ho.2 with ⟨hn, _⟩ | ⟨g', _, _, hg', _, hh, _⟩
      · cases hn
      · cases hg'
        refine ⟨?_, ?_⟩
        · rintro rfl; rw [h1] at hh; simp at hh
        · rintro rfl; rw [hb] at hh; cases hh
def rowSet (row : Nat → Option Nat) (k : Nat) (x : Option Nat) : Nat → Option Nat := fun j => if j = k then x else row j
theorem rowSet_same (row : Nat → Option Nat) (k : Nat) (x : Option Nat) : rowSet row k x k = x := if_pos rfl
theorem rowSet_other (row : Nat → Option Nat) {k j : Nat} (x : Option Nat) (h : j ≠ k) : rowSet row k x j = row j := if_neg h
/-- behind m[k] = append(m[k], s) -/
theorem Dk.wrote {w p : World} {g gd gm : Nat} {row : Nat → Option Nat} {N : Nat} {d : DM} (h : Dk w g gd gm row N d) {k : Nat} (hk : k < d.S.length) {l : List UInt8} (hl : l.length = 64) {k' : Nat} {v' : Value}
    (hK : Kept (fun j => row k = some j) w p) (ho : Own p 76 64 (some k') v' (d.S[k].tail.length + 1) (scells (d.S[k].tail ++ [l]))) (hf : row k = some k' ∨ w.heap.size ≤ k') :
    ∃ p2, (Instr.mapUpdate 56 (.map (some gm)) (.int .i64 (k : Int)) v').run Tryd.prog p = .ok () p2 ∧ Dk p2 g gd gm (rowSet row k (some k')) (N + 1) ⟨d.S.modify k (· ++ [l]), d.on, d.fuse⟩ ∧ Kept (fun j => row k = some j ∨ j = gm) w p2 ∧ p2.heap.size = p.heap.size := by
  obtain ⟨n1, n2, n3, n4⟩ := h.g_ne
  have hlt := h.lt
  obtain ⟨hok, ⟨cap, cur, h1, h2, h3, h4, h5, h6⟩, ⟨M, f, hm, hfd, hr⟩, hdom, hinj, hap⟩ := h
  have hn4 := hok.2.1
  have hgm : ¬ row k = some gm := fun e => (n4 k gm e).2 rfl
  have hgm2 := hlt gm (.inr (.inr (.inl rfl)))
  obtain ⟨p2, hrun, hm2, hk2, hs2⟩ := (hm.kept hK hgm).put (P := Tryd.prog) Tryd.underlying56 Tryd.underlying3 (k : Int) (WalkArith.wf_i64 (by omega)) v'
  have hK2 : Kept (fun j => row k = some j ∨ j = gm) w p2 := (hK.mono fun j _ hj => .inl hj).trans hk2 (fun j _ hj => .inr hj)
  have hkgm : k' ≠ gm := by
    rcases hf with e | e
    · exact (n4 k k' e).2
    · omega
  have hkg : k' ≠ g ∧ k' ≠ gd := by
    rcases hf with e | e
    · exact ⟨(n4 k k' e).1, hap k k' e⟩
    · have := hlt g (.inl rfl)
      have := hlt gd (.inr (.inl rfl))
      omega
  have hlen : (d.S.modify k (· ++ [l])).length = d.S.length := by simp
  have hold : ∀ i j, row i = some j → i ≠ k → j ≠ k' := by
    intro i j hi hne e
    subst e
    rcases hf with e2 | e2
    · exact hne (hinj i k j hi e2)
    · have := hlt j (.inr (.inr (.inr ⟨i, hi⟩)))
      omega
  have hdm : (d.S.modify k (· ++ [l])).map dur = d.S.map dur := by
    apply List.ext_getElem (by simp)
    intro i hi hi2
    simp only [List.getElem_map, List.getElem_modify]
    split
    · rename_i e
      subst e
      obtain ⟨hne, _⟩ := hok.2.2.2 _ (List.getElem_mem hk)
      unfold dur
      cases hS : d.S[k] with
      | nil => exact absurd hS hne
      | cons x r => rfl
    · rfl
  refine ⟨p2, hrun, ⟨?_, ⟨cap, cur, ?_, ?_, ?_, h4, h5, ?_⟩, ⟨_, _, hm2, ?_, ?_⟩, ?_, ?_, ?_⟩, hK2, hs2⟩
  · have := DM.write_ok hok (k := k) hl
    unfold DM.write at this
    have e := this
    refine ⟨?_, ?_, hok.2.2.1, ?_⟩
    · simpa [DM.burn_S] using this.1
    · simpa [DM.burn_S] using this.2.1
    · simpa [DM.burn_S] using this.2.2.2
  · rw [hlen]
    exact hK2.heap h1 (fun e => by rcases e with e | e; exact (n4 k g e).1 rfl; exact n2 e)
  · exact hK2.heap h2 (fun e => by rcases e with e | e; exact hap k gd e rfl; exact n3 e)
  · rw [hlen]; exact h3
  · rw [hlen, h6, hdm]
  · intro j hj
    rw [hlen]
    by_cases e : j = (k : Int)
    · subst e; omega
    · rw [fput_other _ _ e] at hj; exact hfd j hj
  · intro j hj
    have hj' : j < d.S.length := by rw [hlen] at hj; exact hj
    by_cases e : j = k
    · subst e
      refine .inr ?_
      obtain ⟨hne, _⟩ := hok.2.2.2 _ (List.getElem_mem hj')
      have et : ((d.S.modify j (· ++ [l]))[j]).tail = d.S[j].tail ++ [l] := by
        rw [List.getElem_modify, if_pos rfl]
        cases hS : d.S[j] with
        | nil => exact absurd hS hne
        | cons x r => rfl
      simp only [et]
      refine ⟨by simp, k', v', rowSet_same _ _ _, fput_same _ _ _, ?_⟩
      rw [List.length_append]
      exact ho.kept hk2 (fun j hj e => hkgm (by cases hj; exact e))
    · have et : (d.S.modify k (· ++ [l]))[j] = d.S[j] := by rw [List.getElem_modify, if_neg (fun e2 => e e2.symm)]
      simp only [et, rowSet_other _ _ e, fput_other f v' (show (j : Int) ≠ (k : Int) by omega)]
      rcases hr j hj' with h0 | ⟨h0, gk, v, hg, hv, hoo⟩
      · exact .inl h0
      · refine .inr ⟨h0, gk, v, hg, hv, hoo.kept hK2 (fun j2 hj2 e2 => ?_)⟩
        cases hj2
        rcases e2 with e2 | e2
        · exact e (hinj j k gk hg e2)
        · exact (n4 j gk hg).2 e2
  · intro i j hi
    rw [hlen]
    by_cases e : i = k
    · omega
    · rw [rowSet_other _ _ e] at hi; exact hdom i j hi
  · intro i j g' hi hj
    by_cases e : i = k
    · by_cases e2 : j = k
      · omega
      · subst e
        rw [rowSet_same] at hi
        rw [rowSet_other _ _ e2] at hj
        cases hi
        exact absurd rfl (hold j _ hj e2)
    · rw [rowSet_other _ _ e] at hi
      by_cases e2 : j = k
      · subst e2
        rw [rowSet_same] at hj
        cases hj
        exact absurd rfl (hold i _ hi e)
      · rw [rowSet_other _ _ e2] at hj
        exact hinj i j g' hi hj
  · intro i g' hi
    by_cases e : i = k
    · subst e
      rw [rowSet_same] at hi
      cases hi
      exact hkg.2
    · rw [rowSet_other _ _ e] at hi
      exact hap i g' hi
end Go.Proofs.YthffegfcgmhppaaDoor
namespace Go.Proofs.YthffegfcgmhppaaDoor.Roll
open Go
set_option linter.unusedSimpArgs false
set_option linter.unusedVariables false
/-- the slot that an operation writes -/
def slot (ops : Array Oper) (j : Nat) : Option Tmp := (ops[j]?).bind (·.dst)
/-- a frame in which some operations have written -/
def putOf (ops : Array Oper) (vals : Nat → Value) : List Nat → Act → Act
  | [], a => a
  | j :: r, a => putOf ops vals r (a.put (slot ops j) (vals j))
theorem putOf_size (ops : Array Oper) (vals : Nat → Value) (l : List Nat) (a : Act) : (putOf ops vals l a).tmps.size = a.tmps.size := by
  induction l generalizing a with
  | nil => rfl
  | cons j r ih => rw [putOf, ih]; cases slot ops j <;> simp [Act.put]
theorem putOf_defers (ops : Array Oper) (vals : Nat → Value) (l : List Nat) (a : Act) : (putOf ops vals l a).defers = a.defers := by
  induction l generalizing a with
  | nil => rfl
  | cons j r ih => rw [putOf, ih]; cases slot ops j <;> simp [Act.put]
theorem put_get_ne {a : Act} {d : Option Tmp} {v : Value} {t : Nat} (h : d ≠ some t) : (a.put d v).tmps[t]? = a.tmps[t]? := by
  cases d with
  | none => rfl
  | some d => simp only [Act.put]; rw [Array.getElem?_setIfInBounds_ne (by intro e; exact h (by rw [e]))]
theorem put_get_eq {a : Act} {v : Value} {t : Nat} (h : t < a.tmps.size) : (a.put (some t) v).tmps[t]? = some v := by
  simp [Act.put, h]
theorem putOf_other (ops : Array Oper) (vals : Nat → Value) (l : List Nat) (a : Act) (t : Nat) (h : ∀ j ∈ l, slot ops j ≠ some t) : (putOf ops vals l a).tmps[t]? = a.tmps[t]? := by
  induction l generalizing a with
  | nil => rfl
  | cons j r ih => rw [putOf, ih _ (fun k hk => h k (List.mem_cons_of_mem _ hk)), put_get_ne (h j List.mem_cons_self)]
/-- no two operations write one slot -/
def apartB (ops : Array Oper) : Bool := ((List.range ops.size).filterMap (slot ops)).Nodup
theorem filterMap_inj {f : Nat → Option Nat} : ∀ {l : List Nat}, (l.filterMap f).Nodup → ∀ {i j : Nat} {t : Nat}, i ∈ l → j ∈ l → f i = some t → f j = some t → l.Nodup → i = j := by
  intro l
  induction l with
  | nil => intro _ i j t hi; cases hi
  | cons x r ih =>
    intro h i j t hi hj ei ej hn
    rw [List.nodup_cons] at hn
    have tail : (r.filterMap f).Nodup := by
      cases hx : f x with
      | none => rwa [List.filterMap_cons_none hx] at h
      | some y => rw [List.filterMap_cons_some hx] at h; exact (List.nodup_cons.1 h).2
    have clash : ∀ {k : Nat}, k ∈ r → f k = some t → f x = some t → False := by
      intro k hk ek ex
      rw [List.filterMap_cons_some ex] at h
      exact (List.nodup_cons.1 h).1 (List.mem_filterMap.2 ⟨k, hk, ek⟩)
    rcases List.mem_cons.1 hi with hi' | hi' <;> rcases List.mem_cons.1 hj with hj' | hj'
    · rw [hi', hj']
    · exact (clash hj' ej (hi' ▸ ei)).elim
    · exact (clash hi' ei (hj' ▸ ej)).elim
    · exact ih tail hi' hj' ei ej hn.2
theorem apart_inj {ops : Array Oper} (h : apartB ops = true) {i j : Nat} {t : Nat} (ei : slot ops i = some t) (ej : slot ops j = some t) : i = j := by
  have lt : ∀ {k : Nat}, slot ops k = some t → k ∈ List.range ops.size := by
    intro k e
    rw [List.mem_range]
    unfold slot at e
    cases hk : ops[k]? with
    | none => rw [hk] at e; cases e
    | some o => exact (Array.getElem?_eq_some_iff.1 hk).1
  exact filterMap_inj (of_decide_eq_true h) (lt ei) (lt ej) ei ej List.nodup_range
theorem putOf_mem {ops : Array Oper} (hap : apartB ops = true) (vals : Nat → Value) (l : List Nat) (a : Act) (j t : Nat) (hj : j ∈ l) (ht : slot ops j = some t) (hs : t < a.tmps.size) :
    (putOf ops vals l a).tmps[t]? = some (vals j) := by
  induction l generalizing a with
  | nil => cases hj
  | cons k r ih =>
    rw [putOf]
    by_cases hr : j ∈ r
    · exact ih _ hr (by cases slot ops k <;> simp [Act.put, hs])
    · obtain rfl : j = k := (List.mem_cons.1 hj).resolve_right hr
      rw [putOf_other ops vals r _ t (fun i hi e => hr (apart_inj hap e ht ▸ hi)), ht, put_get_eq hs]
/-- the operations that must stand ahead of one, as its edges name them -/
def ahead (o : Oper) : List Nat := (o.after.toList.filter fun e => Region.binds .any e).map (·.on)
/-- the slots that an operation looks at and that others write are written by operations ahead of it, or by such as stand behind it -/
def looksOk (ops : Array Oper) (L : List (List Nat)) : Bool :=
  (List.range ops.size).all fun k => match ops[k]? with
    | none => true
    | some o => (match o.op with | .select .. => false | .defer .. => false | _ => true) && ((L.getD k []).all fun i => (ahead o).contains i) &&
      (o.looksAt ops).all fun t => (List.range ops.size).all fun j => slot ops j != some t || (L.getD k []).contains j ||
        (match ops[j]? with | some oj => (ahead oj).contains k | none => true)
/-- what one operation does, from the frame that it sees -/
def Post (a1 : Act) (d : Option Tmp) (T : Value → World → Prop) : Exit → Act → World → Prop
  | .normal, a', w' => ∃ v, a' = a1.put d v ∧ T v w'
  | _, _, _ => False
variable {P : Program} {ops : Array Oper} {Q : Exit → Act → World → Prop}
theorem not_lets {a1 : Act} {d : Option Tmp} {T : Value → World → Prop} : ¬ LetsOut (Post a1 d T) := fun ⟨_, _, h⟩ => h
theorem put_inj {a : Act} {d : Option Tmp} {v u : Value} : (h : ∀ t, d = some t → t < a.tmps.size) → a.put d v = a.put d u → d = none ∨ v = u := by
  intro h e
  cases d with
  | none => exact .inl rfl
  | some t =>
    have := congrArg (fun x : Act => x.tmps[t]?) e
    simp only [put_get_eq (h t rfl)] at this
    exact .inr (Option.some.inj this)
/-- from the frame that an operation sees to the frame as it is -/
theorem wpOp_of_list {o : Oper} {k : Nat} {a a1 : Act} {w : World} {T : Value → World → Prop} (ho : ops[k]? = some o)
    (hn : o.dst = none → ∀ v u w', T v w' → T u w') (hsz : ∀ t, o.dst = some t → t < a1.tmps.size)
    (he : execOp a.eval o = execOp a1.eval o) (hw : Region.wanted o (yielded ops a.tmps) = Region.wanted o (yielded ops a1.tmps))
    (h : wpList P ops (Post a1 o.dst T) [o] a1 w) : wpOp P ops Q k (fun a' w' => ∃ v, a' = a.put o.dst v ∧ T v w') a w := by
  have fin : ∀ v w', (∃ u, a1.put o.dst v = a1.put o.dst u ∧ T u w') → ∃ u, a.put o.dst v = a.put o.dst u ∧ T u w' := by
    rintro v w' ⟨u, e, t⟩
    rcases put_inj hsz e with hnone | rfl
    · exact ⟨v, rfl, hn hnone _ _ _ t⟩
    · exact ⟨v, rfl, t⟩
  unfold wpList at h
  unfold wpOp
  simp only [ho, hw]
  split
  · rename_i hwt
    rw [if_pos hwt] at h
    rcases h with h | ⟨_, h⟩
    case inr => exact (not_lets h).elim
    refine .inl ?_
    unfold Oper.wp at *
    rw [he]
    generalize (execOp a1.eval o).run P w = r at *
    cases r with
    | ok n w' =>
      cases n <;> simp only [Oper.upon] at h ⊢
      case value u => exact fin u w' h
      case skip => exact fin undef w' h
      case defer d =>
        simp only [wpList, Post] at h
        obtain ⟨v, e, _⟩ := h
        have := congrArg Act.defers e
        cases hds : o.dst <;> simp [Act.put, hds] at this
      case enter f args =>
        refine Calls.mono h fun e w'' hh => ?_
        cases e with
        | returned u => exact fin u w'' hh
        | panicked c => exact (hh : False).elim
        | outgrown => exact (not_lets hh).elim
      case row row args => exact Rows.mono h fun u w'' hh => fin u w'' hh
    | halt x w' =>
      cases x <;> simp only [Oper.upon] at h ⊢
      case panic u => exact (h : False).elim
  · rename_i hwt
    rw [if_neg hwt] at h
    exact fin undef w h

/-- the result of an operation that writes no slot does not matter -/
def res (o : Oper) (R : Value → World → Prop) (v : Value) (w : World) : Prop := match o.dst with | some _ => R v w | none => R undef w
/-- what is owed for one operation -/
def Does (P : Program) (ops : Array Oper) (L : List (List Nat)) (I : World → Prop) (S : World → World → Prop) (R : Nat → Value → World → Prop) (a0 : Act) (k : Nat) (o : Oper) : Prop :=
  ∀ (vals : Nat → Value) (w : World), I w → (∀ j ∈ L.getD k [], R j (vals j) w) →
    wpList P ops (Post (putOf ops vals (L.getD k []) a0) o.dst fun v w' => I w' ∧ S w w' ∧ res o (R k) v w') [o] (putOf ops vals (L.getD k []) a0) w
/-- what holds when some operations have been performed -/
structure Held (ops : Array Oper) (I : World → Prop) (R : Nat → Value → World → Prop) (a0 : Act) (vals : Nat → Value) (listed : Array Bool) (a : Act) (w : World) : Prop where
  inv : I w
  len : listed.size = ops.size
  defers : a.defers = a0.defers
  size : a.tmps.size = a0.tmps.size
  closed : ∀ (j : Nat) (o : Oper), ops[j]? = some o → listed[j]? = some true → ∀ i ∈ ahead o, listed[i]? = some true
  old : ∀ t : Nat, (∀ j : Nat, listed[j]? = some true → slot ops j ≠ some t) → a.tmps[t]? = a0.tmps[t]?
  new : ∀ (j t : Nat), listed[j]? = some true → slot ops j = some t → a.tmps[t]? = some (vals j)
  got : ∀ j : Nat, listed[j]? = some true → R j (vals j) w
theorem tmp_congr {a b : Act} {t : Nat} (h : a.tmps[t]? = b.tmps[t]?) : a.eval (.tmp t) = b.eval (.tmp t) := by
  simp only [Act.eval, Array.getD_eq_getD_getElem?, h]
theorem exec_congr {o : Oper} {a b : Act} (hs : ∀ cs c, o.op ≠ .select cs c) (h : ∀ t ∈ o.looksAt ops, a.tmps[t]? = b.tmps[t]?) : execOp a.eval o = execOp b.eval o := by
  refine execOp_congr o hs fun x hx => ?_
  cases x with
  | tmp t => exact tmp_congr (h t (List.mem_append_left _ (List.mem_filterMap.2 ⟨.tmp t, by simpa using hx, rfl⟩)))
  | const v => rfl
  | global g => rfl
  | func f => rfl
theorem wanted_congr {o : Oper} {a b : Act} (h : ∀ t ∈ o.looksAt ops, a.tmps[t]? = b.tmps[t]?) : Region.wanted o (yielded ops a.tmps) = Region.wanted o (yielded ops b.tmps) := by
  unfold Region.wanted
  cases hg : o.guard with
  | none => rfl
  | some gw =>
    obtain ⟨g, want⟩ := gw
    have hy : yielded ops a.tmps g = yielded ops b.tmps g := by
      unfold yielded
      cases ht : (ops[g]?).bind (·.dst) with
      | none => rfl
      | some t =>
        have := h t (by simp [Oper.looksAt, hg, ht])
        simp only [Option.bind_some, this]
    simp only [hy]
theorem listed_of_getD {listed : Array Bool} {j : Nat} (h : listed.getD j false = true) : listed[j]? = some true := by
  rw [Array.getD_eq_getD_getElem?] at h
  cases hj : listed[j]? with
  | none => rw [hj] at h; cases h
  | some b => rw [hj] at h; exact congrArg some h
theorem unlisted_of_getD {listed : Array Bool} {j : Nat} (h : listed.getD j true = false) : listed[j]? = some false := by
  rw [Array.getD_eq_getD_getElem?] at h
  cases hj : listed[j]? with
  | none => rw [hj] at h; cases h
  | some b => rw [hj] at h; exact congrArg some h
/-- the edges lead backwards -/
def backOk (ops : Array Oper) : Bool := (List.range ops.size).all fun k => match ops[k]? with | none => true | some o => (ahead o).all fun i => decide (i < k)
theorem ready_least {md : Region.Mode} (hmd : md = .any) {ops : Array Oper} (hb : backOk ops = true) {listed : Array Bool} (hl : listed.size = ops.size) (hr : Region.ready md ops listed = []) : ∀ j : Nat, j < ops.size → listed[j]? = some true := by
  intro j
  induction j using Nat.strongRecOn with
  | _ j ih =>
    intro hj
    have ho : ops[j]? = some ops[j] := Array.getElem?_eq_getElem hj
    cases hv : listed[j]'(by omega) with
    | true => rw [Array.getElem?_eq_getElem (by omega), hv]
    | false =>
      exfalso
      have hm : j ∈ Region.ready md ops listed := by
        rw [mem_ready]
        refine ⟨by rw [Array.getD_eq_getD_getElem?, Array.getElem?_eq_getElem (by omega), hv]; rfl, ops[j], ho, fun e he hbd => ?_⟩
        have hin : e.on ∈ ahead ops[j] := List.mem_map.2 ⟨e, List.mem_filter.2 ⟨by simpa using he, by rw [← hmd]; exact hbd⟩, rfl⟩
        have hlt : e.on < j := by
          have h1 := List.all_eq_true.1 hb j (List.mem_range.2 hj)
          simp only [ho] at h1
          exact of_decide_eq_true (List.all_eq_true.1 h1 _ hin)
        have := ih e.on hlt (by omega)
        rw [Array.getD_eq_getD_getElem?, this]; rfl
      rw [hr] at hm; cases hm
theorem count_set {listed : Array Bool} {i : Nat} (h : listed[i]? = some false) : (listed.setIfInBounds i true).toList.count false + 1 = listed.toList.count false := by
  obtain ⟨l⟩ := listed
  simp only [List.getElem?_toArray] at h
  simp only [List.setIfInBounds_toArray]
  induction l generalizing i with
  | nil => simp at h
  | cons b r ih =>
    cases i with
    | zero =>
      simp only [List.getElem?_cons_zero, Option.some.injEq] at h
      subst h
      simp
    | succ i =>
      simp only [List.getElem?_cons_succ] at h
      have := ih h
      simp only [List.set_cons_succ, List.count_cons]
      omega
theorem set_get {listed : Array Bool} {i : Nat} (hi : listed[i]? = some false) (j : Nat) : (listed.setIfInBounds i true)[j]? = if j = i then some true else listed[j]? := by
  have hlt : i < listed.size := (Array.getElem?_eq_some_iff.1 hi).1
  by_cases e : j = i
  · subst e; rw [if_pos rfl]; simp [hlt]
  · rw [if_neg e, Array.getElem?_setIfInBounds_ne (fun h => e h.symm)]
/-- the operations from n on come last, one after the other -/
def tailOk (ops : Array Oper) (n : Nat) : Bool := (List.range ops.size).all fun k => decide (k < n) || match ops[k]? with | none => true | some o => (List.range k).all fun i => (ahead o).contains i
theorem tail_ahead {n k i : Nat} {o : Oper} (h : tailOk ops n = true) (ho : ops[k]? = some o) (hk : n ≤ k) (hi : i < k) : i ∈ ahead o := by
  have hlt : k < ops.size := (Array.getElem?_eq_some_iff.1 ho).1
  have h1 := List.all_eq_true.1 h k (List.mem_range.2 hlt)
  simp only [ho, Bool.or_eq_true, decide_eq_true_eq] at h1
  have h2 := h1.resolve_left (by omega)
  have h3 := List.all_eq_true.1 h2 i (List.mem_range.2 hi)
  simpa using h3
theorem ahead_of_edge {o : Oper} {i : Nat} (h : i ∈ ahead o) : ∃ e ∈ o.after, Region.binds .any e = true ∧ e.on = i := by
  obtain ⟨e, he, rfl⟩ := List.mem_map.1 h
  obtain ⟨h1, h2⟩ := List.mem_filter.1 he
  exact ⟨e, by simpa using h1, h2, rfl⟩
theorem wpAny_tail (hb : backOk ops = true) {n : Nat} (ht : tailOk ops n = true) : ∀ (fuel m : Nat) (listed : Array Bool) (a : Act) (w : World), n ≤ m → m ≤ ops.size → ops.size - m ≤ fuel → listed.size = ops.size →
    (∀ j : Nat, j < m → listed[j]? = some true) → (∀ j : Nat, m ≤ j → j < ops.size → listed[j]? = some false) → wpList P ops Q (ops.toList.drop m) a w → wpAny P .any ops Q fuel listed a w := by
  intro fuel
  induction fuel with
  | zero =>
    intro m listed a w hn hm hf hl h1 h2 h
    have : m = ops.size := by omega
    subst this
    rw [List.drop_of_length_le (by simp)] at h
    refine ⟨?_, h⟩
    cases hr : Region.ready .any ops listed with
    | nil => rfl
    | cons x r =>
      have hx : x ∈ Region.ready .any ops listed := by rw [hr]; exact List.mem_cons_self
      obtain ⟨hu, o, ho, _⟩ := mem_ready.1 hx
      have := h1 x (Array.getElem?_eq_some_iff.1 ho).1
      rw [unlisted_of_getD hu] at this
      cases this
  | succ fuel ih =>
    intro m listed a w hn hm hf hl h1 h2 h
    by_cases hms : m = ops.size
    · subst hms
      rw [List.drop_of_length_le (by simp)] at h
      refine ⟨fun _ => h, fun x hx => ?_⟩
      obtain ⟨hu, o, ho, _⟩ := mem_ready.1 hx
      have := h1 x (Array.getElem?_eq_some_iff.1 ho).1
      rw [unlisted_of_getD hu] at this
      cases this
    · have hlt : m < ops.size := by omega
      have hom : ops[m]? = some ops[m] := Array.getElem?_eq_getElem hlt
      refine ⟨fun hr => ?_, fun k hk => ?_⟩
      · have := ready_least rfl hb hl hr m hlt
        rw [h2 m (Nat.le_refl _) hlt] at this
        cases this
      · obtain ⟨hu, o, ho, hedge⟩ := mem_ready.1 hk
        have hku := unlisted_of_getD hu
        have hklt : k < ops.size := (Array.getElem?_eq_some_iff.1 ho).1
        have hkm : m ≤ k := by
          rcases Nat.lt_or_ge k m with hx | hx
          · rw [h1 k hx] at hku; cases hku
          · exact hx
        have hk : k = m := by
          rcases Nat.lt_or_ge m k with hx | hx
          · obtain ⟨e, he, hbd, hon⟩ := ahead_of_edge (tail_ahead ht ho (by omega) hx)
            have := listed_of_getD (hedge e he hbd)
            rw [hon, h2 m (Nat.le_refl _) hlt] at this
            cases this
          · omega
        subst hk
        rw [List.drop_eq_getElem_cons (by simpa using hlt)] at h
        unfold wpList at h
        unfold wpOp
        simp only [hom]
        simp only [Array.getElem_toList] at h
        have next : ∀ a' w', wpList P ops Q (ops.toList.drop (k + 1)) a' w' → wpAny P .any ops Q fuel (listed.setIfInBounds k true) a' w' := by
          intro a' w' h'
          refine ih (k + 1) _ a' w' (by omega) hlt (by omega) (by rw [Array.size_setIfInBounds]; exact hl) ?_ ?_ h'
          · intro j hj
            rw [set_get hku]
            split
            · rfl
            · exact h1 j (by omega)
          · intro j hj hjs
            rw [set_get hku, if_neg (by omega)]
            exact h2 j (by omega) hjs
        split
        · rename_i hw
          rw [if_pos hw] at h
          exact h.imp (Oper.wp_mono next) id
        · rename_i hw
          rw [if_neg hw] at h
          exact next _ _ h
theorem wpAny_held (hb : backOk ops = true) (hap : apartB ops = true) {L : List (List Nat)} (hlo : looksOk ops L = true) {n : Nat} (hnle : n ≤ ops.size) (htl : tailOk ops n = true) {I : World → Prop} {S : World → World → Prop} {R : Nat → Value → World → Prop} {a0 : Act}
    (hsz : ∀ j t, slot ops j = some t → t < a0.tmps.size)
    (hS : ∀ j v w w', S w w' → R j v w → R j v w') (hop : ∀ (k : Nat) (o : Oper), k < n → ops[k]? = some o → Does P ops L I S R a0 k o)
    (hend : ∀ (vals : Nat → Value) (w : World), I w → (∀ j : Nat, j < n → R j (vals j) w) → wpList P ops Q (ops.toList.drop n) (putOf ops vals (List.range n) a0) w) :
    ∀ (fuel : Nat) (listed : Array Bool) (vals : Nat → Value) (a : Act) (w : World), listed.toList.count false ≤ fuel → (∀ j : Nat, n ≤ j → j < ops.size → listed[j]? = some false) → Held ops I R a0 vals listed a w → wpAny P .any ops Q fuel listed a w := by
  have slot_lt : ∀ {j t : Nat}, slot ops j = some t → j < ops.size := by
    intro j t hj
    unfold slot at hj
    cases hk : ops[j]? with
    | none => rw [hk] at hj; cases hj
    | some o => exact (Array.getElem?_eq_some_iff.1 hk).1
  have fin : ∀ (fuel : Nat) (listed : Array Bool) (vals : Nat → Value) (a : Act) (w : World), listed.toList.count false ≤ fuel → (∀ j : Nat, n ≤ j → j < ops.size → listed[j]? = some false) → Held ops I R a0 vals listed a w → (∀ j : Nat, j < n → listed[j]? = some true) → wpAny P .any ops Q fuel listed a w := by
    intro fuel listed vals a w hc hun h hall
    have e : a = putOf ops vals (List.range n) a0 := by
      have et : a.tmps = (putOf ops vals (List.range n) a0).tmps := by
        refine Array.ext_getElem? fun t => ?_
        by_cases hx : ∃ j : Nat, j < n ∧ slot ops j = some t
        · obtain ⟨j, hjn, hj⟩ := hx
          rw [h.new j t (hall j hjn) hj, putOf_mem hap vals _ _ j t (List.mem_range.2 hjn) hj (hsz j t hj)]
        · rw [h.old t (fun j hj e => ?_), putOf_other ops vals _ _ t (fun j hj e => hx ⟨j, List.mem_range.1 hj, e⟩)]
          rcases Nat.lt_or_ge j n with hjn | hjn
          · exact hx ⟨j, hjn, e⟩
          · rw [hun j hjn (slot_lt e)] at hj; cases hj
      have ed : a.defers = (putOf ops vals (List.range n) a0).defers := by rw [putOf_defers]; exact h.defers
      cases a
      generalize putOf ops vals (List.range n) a0 = b at *
      cases b
      simp_all
    have hcnt : ops.size - n ≤ fuel := by
      refine Nat.le_trans ?_ hc
      have h1 : (listed.toList.drop n).count false = ops.size - n := by
        rw [List.count_eq_length.2]
        · simp [h.len]
        · intro b hb'
          obtain ⟨i, hi, rfl⟩ := List.mem_iff_getElem.1 hb'
          simp only [List.length_drop, Array.length_toList] at hi
          have := hun (n + i) (by omega) (by rw [← h.len]; omega)
          rw [Array.getElem?_eq_getElem (by omega)] at this
          simpa using (Option.some.inj this).symm
      rw [← h1]
      exact (List.drop_sublist n _).count_le false
    exact wpAny_tail hb htl fuel n listed a w (Nat.le_refl _) hnle hcnt h.len hall hun (e ▸ hend vals w h.inv (fun j hj => h.got j (hall j hj)))
  intro fuel
  induction fuel with
  | zero =>
    intro listed vals a w hc hun h
    refine fin 0 listed vals a w hc hun h fun j hj => ?_
    have hjl : j < listed.size := by rw [h.len]; omega
    rw [Array.getElem?_eq_getElem hjl]
    have h0 : listed.toList.count false = 0 := by omega
    have := List.count_eq_zero.1 h0
    cases hv : listed[j] with
    | true => rfl
    | false => exact (this (hv ▸ (by simp))).elim
  | succ fuel ih =>
    intro listed vals a w hc hun h
    by_cases hall : ∀ j : Nat, j < n → listed[j]? = some true
    · exact fin _ listed vals a w hc hun h hall
    refine ⟨fun hr => (hall fun j hj => ready_least rfl hb h.len hr j (by omega)).elim, fun k hk => ?_⟩
    obtain ⟨hu, o, ho, hedge⟩ := mem_ready.1 hk
    have hku := unlisted_of_getD hu
    have hklt : k < ops.size := (Array.getElem?_eq_some_iff.1 ho).1
    have hkn : k < n := by
      rcases Nat.lt_or_ge k n with hx | hx
      · exact hx
      · exact (hall fun j hj => by
          obtain ⟨e, he, hbd, hon⟩ := ahead_of_edge (tail_ahead htl ho hx (show j < k by omega))
          exact hon ▸ listed_of_getD (hedge e he hbd)).elim
    have hah : ∀ i ∈ ahead o, listed[i]? = some true := by
      intro i hi
      obtain ⟨e, he, rfl⟩ := List.mem_map.1 hi
      obtain ⟨h1, h2⟩ := List.mem_filter.1 he
      exact listed_of_getD (hedge e (by simpa using h1) h2)
    have hlk := List.all_eq_true.1 hlo k (List.mem_range.2 hklt)
    simp only [ho, Bool.and_eq_true] at hlk
    obtain ⟨⟨hsel, hpre⟩, hlk⟩ := hlk
    have hpre' : ∀ i ∈ L.getD k [], i ∈ ahead o := fun i hi => by simpa using List.all_eq_true.1 hpre i hi
    have hsame : ∀ t ∈ o.looksAt ops, a.tmps[t]? = (putOf ops vals (L.getD k []) a0).tmps[t]? := by
      intro t ht
      have h1 := List.all_eq_true.1 hlk t ht
      by_cases hx : ∃ j : Nat, listed[j]? = some true ∧ slot ops j = some t
      · obtain ⟨j, hj, hjt⟩ := hx
        have hjlt : j < ops.size := by rw [← h.len]; exact (Array.getElem?_eq_some_iff.1 hj).1
        have h2 := List.all_eq_true.1 h1 j (List.mem_range.2 hjlt)
        have hoj : ops[j]? = some ops[j] := Array.getElem?_eq_getElem hjlt
        simp only [hoj, Bool.or_eq_true, bne_iff_ne, ne_eq, List.contains_eq_mem, decide_eq_true_eq] at h2
        have hjin : j ∈ L.getD k [] := by
          rcases h2 with (h2 | h2) | h2
          · exact (h2 hjt).elim
          · exact h2
          · have := h.closed j _ hoj hj k h2
            rw [hku] at this; cases this
        rw [h.new j t hj hjt, putOf_mem hap vals _ _ j t hjin hjt (hsz j t hjt)]
      · rw [h.old t (fun j hj e => hx ⟨j, hj, e⟩), putOf_other ops vals _ _ t (fun j hj e => hx ⟨j, hah j (hpre' j hj), e⟩)]
    have hd := hop k o hkn ho vals w h.inv (fun j hj => h.got j (hah j (hpre' j hj)))
    have hdst : slot ops k = o.dst := by unfold slot; rw [ho]; rfl
    refine wpOp_mono ?_ (wpOp_of_list (Q := Q) (a := a) ho ?_ ?_ (exec_congr (fun cs c e => ?_) hsame) (wanted_congr hsame) hd)
    · rintro a' w' ⟨v, rfl, hI, hSw, hR⟩
      refine ih (listed.setIfInBounds k true) (fun j => if j = k then (if o.dst.isSome then v else undef) else vals j) _ w' (by have := count_set hku; omega) (fun j hj hjs => by rw [set_get hku, if_neg (by omega)]; exact hun j hj hjs) ?_
      refine ⟨hI, ?_, ?_, ?_, ?_, ?_, ?_, ?_⟩
      · rw [Array.size_setIfInBounds]; exact h.len
      · rw [← h.defers]; cases o.dst <;> rfl
      · rw [← h.size]; cases o.dst <;> simp [Act.put]
      · intro j oj hoj hj i hi
        rw [set_get hku] at hj ⊢
        by_cases ei : i = k
        · rw [if_pos ei]
        · rw [if_neg ei]
          by_cases ej : j = k
          · subst ej
            rw [ho] at hoj; cases hoj
            exact hah i hi
          · rw [if_neg ej] at hj
            exact h.closed j oj hoj hj i hi
      · intro t ht
        have hne : o.dst ≠ some t := by rw [← hdst]; exact ht k (by rw [set_get hku, if_pos rfl])
        rw [put_get_ne hne]
        refine h.old t fun j hj => ht j ?_
        rw [set_get hku]; split <;> first | rfl | exact hj
      · intro j t hj hjt
        rw [set_get hku] at hj
        by_cases ej : j = k
        · subst ej
          rw [hdst] at hjt
          rw [hjt, put_get_eq (by rw [h.size]; exact hsz j t (by rw [hdst]; exact hjt)), if_pos rfl]
          simp
        · rw [if_neg ej] at hj ⊢
          have hne : o.dst ≠ some t := by
            intro e
            exact ej (apart_inj hap hjt (by rw [hdst]; exact e))
          rw [put_get_ne hne]
          exact h.new j t hj hjt
      · intro j hj
        rw [set_get hku] at hj
        by_cases ej : j = k
        · subst ej
          rw [if_pos rfl]
          unfold res at hR
          cases hod : o.dst <;> rw [hod] at hR <;> exact hR
        · rw [if_neg ej] at hj ⊢
          exact hS j _ w w' hSw (h.got j hj)
    · intro hnone v u w'
      unfold res
      rw [hnone]
      exact id
    · intro t ht
      rw [putOf_size]
      exact hsz k t (by rw [hdst]; exact ht)
    · rw [e] at hsel; cases hsel
/-- all the checks on a region's text: n operations in any order, N slots; D: the slots that are written; L: what each operation builds on -/
def regOk (ops : Array Oper) (D : List (Option Tmp)) (L : List (List Nat)) (n N : Nat) : Bool := decide (n ≤ ops.size) && tailOk ops n && backOk ops && apartB ops && looksOk ops L &&
  ((List.range ops.size).all fun j => match slot ops j with | some t => decide (t < N) | none => true) && ((List.range ops.size).all fun j => slot ops j == D.getD j none) &&
  (List.range ops.size).all fun k => match (ops[k]?).bind (·.guard) with | none => true | some (g, _) => (L.getD k []).contains g && (D.getD g none).isSome
/-- a frame in which some operations have written: the slots by a list -/
def putD (D : List (Option Tmp)) (vals : Nat → Value) : List Nat → Act → Act
  | [], a => a
  | j :: r, a => putD D vals r (a.put (D.getD j none) (vals j))
theorem putD_eq {D : List (Option Tmp)} (h : ∀ j, j < ops.size → slot ops j = D.getD j none) (vals : Nat → Value) : ∀ (l : List Nat) (a : Act), (∀ j ∈ l, j < ops.size) → putOf ops vals l a = putD D vals l a := by
  intro l
  induction l with
  | nil => intro a _; rfl
  | cons j r ih =>
    intro a hl
    rw [putOf, putD, h j (hl j List.mem_cons_self), ih _ (fun k hk => hl k (List.mem_cons_of_mem _ hk))]
/-- what is owed for one operation whose guard says yes -/
def Goes (P : Program) (D : List (Option Tmp)) (ps : List Nat) (T : World → Value → World → Prop) (a0 : Act) (o : Oper) (vals : Nat → Value) (w : World) : Prop :=
  wpList P #[] (Post (putD D vals ps a0) o.dst (T w)) [{ o with guard := none }] (putD D vals ps a0) w
/-- what is owed for one operation -/
def Owes (P : Program) (D : List (Option Tmp)) (ps : List Nat) (I : World → Prop) (S : World → World → Prop) (R : Nat → Value → World → Prop) (a0 : Act) (k : Nat) (o : Oper) : Prop :=
  ∀ (vals : Nat → Value) (w : World), I w → (∀ j ∈ ps, R j (vals j) w) → match o.guard with
    | none => Goes P D ps (fun w v w' => I w' ∧ S w w' ∧ res o (R k) v w') a0 o vals w
    | some (g, want) => (vals g = .bool want → Goes P D ps (fun w v w' => I w' ∧ S w w' ∧ res o (R k) v w') a0 o vals w) ∧ (vals g ≠ .bool want → S w w ∧ R k undef w)
/-- what is owed for the operations, one after the other -/
def OwesAll (P : Program) (D : List (Option Tmp)) (L : List (List Nat)) (I : World → Prop) (S : World → World → Prop) (R : Nat → Value → World → Prop) (a0 : Act) : Nat → Nat → List Oper → Prop
  | _, 0, _ => True
  | _, _ + 1, [] => True
  | k, n + 1, o :: r => Owes P D (L.getD k []) I S R a0 k o ∧ OwesAll P D L I S R a0 (k + 1) n r
theorem owes_of_all {D : List (Option Tmp)} {L : List (List Nat)} {I : World → Prop} {S : World → World → Prop} {R : Nat → Value → World → Prop} {a0 : Act} : ∀ (l : List Oper) (m n : Nat), OwesAll P D L I S R a0 m n l → ∀ (k : Nat) (o : Oper), k < n → l[k]? = some o → Owes P D (L.getD (m + k) []) I S R a0 (m + k) o := by
  intro l
  induction l with
  | nil => intro m n _ k o _ h; simp at h
  | cons x r ih =>
    intro m n h k o hk hx
    cases n with
    | zero => omega
    | succ n =>
      obtain ⟨h1, h2⟩ := h
      cases k with
      | zero => simp only [List.getElem?_cons_zero, Option.some.injEq] at hx; subst hx; exact h1
      | succ k =>
        simp only [List.getElem?_cons_succ] at hx
        have := ih (m + 1) n h2 k o (by omega) hx
        rwa [show m + 1 + k = m + (k + 1) by omega] at this
theorem wpList_unguarded {o : Oper} {a1 : Act} {w : World} {T : Value → World → Prop} (h : wpList P #[] (Post a1 o.dst T) [{ o with guard := none }] a1 w) : o.wp P a1 w (wpList P ops (Post a1 o.dst T) []) (Post a1 o.dst T) := by
  unfold wpList at h
  rw [if_pos (by simp [Region.wanted])] at h
  rcases h with h | ⟨_, h⟩
  · exact h
  · exact (not_lets h).elim
theorem does_of_owes {D : List (Option Tmp)} {L : List (List Nat)} {I : World → Prop} {S : World → World → Prop} {R : Nat → Value → World → Prop} {a0 : Act} {k : Nat} {o : Oper}
    (hD : ∀ j, j < ops.size → slot ops j = D.getD j none) (hL : ∀ j ∈ L.getD k [], j < ops.size) (hap : apartB ops = true) (hsz : ∀ j t, slot ops j = some t → t < a0.tmps.size)
    (hg : ∀ g want, o.guard = some (g, want) → g ∈ L.getD k [] ∧ (slot ops g).isSome = true) (h : Owes P D (L.getD k []) I S R a0 k o) : Does P ops L I S R a0 k o := by
  intro vals w hI hR
  have h := h vals w hI hR
  unfold Goes at h
  rw [← putD_eq hD vals _ _ hL] at h
  generalize he : putOf ops vals (L.getD k []) a0 = a1 at *
  unfold wpList
  cases hgd : o.guard with
  | none =>
    rw [hgd] at h
    rw [if_pos (by simp [Region.wanted, hgd])]
    exact .inl (wpList_unguarded h)
  | some gw =>
    obtain ⟨g, want⟩ := gw
    rw [hgd] at h
    obtain ⟨h1, h2⟩ := h
    obtain ⟨hgl, hgs⟩ := hg g want hgd
    obtain ⟨t, ht⟩ := Option.isSome_iff_exists.1 hgs
    have hv : a1.tmps[t]? = some (vals g) := by rw [← he]; exact putOf_mem hap vals _ _ g t hgl ht (hsz g t ht)
    have hy : yielded ops a1.tmps g = match vals g with | .bool b => some b | _ => none := by
      unfold yielded
      have : (ops[g]?).bind (·.dst) = some t := ht
      rw [this, Option.bind_some, hv]
      cases vals g <;> rfl
    by_cases hb : vals g = .bool want
    · rw [if_pos (by simp [Region.wanted, hgd, hy, hb])]
      exact .inl (wpList_unguarded (h1 hb))
    · rw [if_neg]
      · obtain ⟨hS, hR⟩ := h2 hb
        refine ⟨undef, rfl, hI, hS, ?_⟩
        unfold res
        cases o.dst <;> exact hR
      · simp only [Region.wanted, hgd, hy]
        cases hx : vals g <;> simp
        rename_i b
        rw [hx] at hb
        intro e
        exact hb (by rw [e])
/-- A REGION THAT DRAWS ITS ORDER: its first n operations come up in any order that the edges allow, the others behind them. Each operation is walked once. I: what holds throughout; S: what a step may change; R k: what the result of operation k is. -/
theorem region_any {id : Nat} {l : List Oper} {a0 : Act} {w0 : World} (n : Nat) (D : List (Option Tmp)) (L : List (List Nat)) (I : World → Prop) (S : World → World → Prop) (R : Nat → Value → World → Prop) (hm : P.follows .mixedOrders = true)
    (hok : regOk l.toArray D L n a0.tmps.size = true) (h0 : I w0.drew)
    (hS : ∀ j v w w', S w w' → R j v w → R j v w')
    (hop : OwesAll P D L I S R a0 0 n l)
    (hend : ∀ (vals : Nat → Value) (w : World), I w → (∀ j : Nat, j < n → R j (vals j) w) → wpList P l.toArray Q (l.drop n) (putD D vals (List.range n) a0) w) :
    (Code.region id l.toArray true).wp P Q a0 w0 := by
  simp only [regOk, Bool.and_eq_true] at hok
  obtain ⟨⟨⟨⟨⟨⟨⟨hnle, htl⟩, hb⟩, hap⟩, hlo⟩, hsz⟩, hD⟩, hgd⟩ := hok
  have hnle' := of_decide_eq_true hnle
  have slot_lt : ∀ {j t : Nat}, slot l.toArray j = some t → j < l.toArray.size := by
    intro j t hj
    unfold slot at hj
    cases hk : l.toArray[j]? with
    | none => rw [hk] at hj; cases hj
    | some o => exact (Array.getElem?_eq_some_iff.1 hk).1
  have hsz' : ∀ j t, slot l.toArray j = some t → t < a0.tmps.size := by
    intro j t hj
    have h1 := List.all_eq_true.1 hsz j (List.mem_range.2 (slot_lt hj))
    simp only [hj] at h1
    exact of_decide_eq_true h1
  have hD' : ∀ j, j < l.toArray.size → slot l.toArray j = D.getD j none := fun j hj => by simpa using List.all_eq_true.1 hD j (List.mem_range.2 hj)
  refine wp_region_any hm ?_
  refine wpAny_held hb hap hlo hnle' htl (I := I) (S := S) (R := R) (a0 := a0) hsz' hS (fun k o hk ho => ?_) (fun vals w hI hR => ?_) _ _ (fun _ => undef) a0 _ ?_ ?_ ?_
  · have hklt : k < l.toArray.size := (Array.getElem?_eq_some_iff.1 ho).1
    have h1 := owes_of_all l 0 n hop k o hk (by simpa using ho)
    rw [Nat.zero_add] at h1
    have hlk := List.all_eq_true.1 hlo k (List.mem_range.2 hklt)
    simp only [ho, Bool.and_eq_true] at hlk
    refine does_of_owes hD' (fun j hj => ?_) hap hsz' (fun g want hg => ?_) h1
    · have h2 : j ∈ ahead o := by simpa using List.all_eq_true.1 hlk.1.2 j hj
      have h3 := List.all_eq_true.1 hb k (List.mem_range.2 hklt)
      simp only [ho] at h3
      have := of_decide_eq_true (List.all_eq_true.1 h3 j h2)
      omega
    · have h2 := List.all_eq_true.1 hgd k (List.mem_range.2 hklt)
      simp only [ho, Option.bind_some, hg, Bool.and_eq_true] at h2
      have hgl : g ∈ L.getD k [] := by simpa using h2.1
      refine ⟨hgl, ?_⟩
      have h4 : g ∈ ahead o := by simpa using List.all_eq_true.1 hlk.1.2 g hgl
      have h3 := List.all_eq_true.1 hb k (List.mem_range.2 hklt)
      simp only [ho] at h3
      have := of_decide_eq_true (List.all_eq_true.1 h3 g h4)
      rw [hD' g (by omega)]; exact h2.2
  · rw [putD_eq hD' vals _ _ (fun j hj => by have := List.mem_range.1 hj; omega)]
    exact hend vals w hI hR
  · simp
  · intro j _ hj
    rw [Array.getElem?_replicate, if_pos hj]
  · refine ⟨h0, by simp, rfl, rfl, ?_, fun _ _ => rfl, ?_, ?_⟩
    · intro j o _ hj
      rw [Array.getElem?_replicate] at hj
      split at hj <;> simp at hj
    · intro j t hj
      rw [Array.getElem?_replicate] at hj
      split at hj <;> simp at hj
    · intro j hj
      rw [Array.getElem?_replicate] at hj
      split at hj <;> simp at hj
/-- a list of predicates, each of which outlives a step -/
def Stab (S : World → World → Prop) : List (Value → World → Prop) → Prop
  | [] => True
  | r :: t => (∀ v w w', S w w' → r v w → r v w') ∧ Stab S t
def at_ (RL : List (Value → World → Prop)) (j : Nat) (v : Value) (w : World) : Prop := RL.getD j (fun _ _ => True) v w
theorem Stab.at {S : World → World → Prop} : ∀ {RL : List (Value → World → Prop)}, Stab S RL → ∀ j v w w', S w w' → at_ RL j v w → at_ RL j v w' := by
  intro RL
  induction RL with
  | nil => intro _ j v w w' _ _; exact trivial
  | cons r t ih =>
    rintro ⟨h1, h2⟩ j v w w' hS h
    cases j with
    | zero => exact h1 v w w' hS h
    | succ j => exact ih h2 j v w w' hS h
theorem region_l {id : Nat} {l : List Oper} {a0 : Act} {w0 : World} (n : Nat) (D : List (Option Tmp)) (L : List (List Nat)) (I : World → Prop) (S : World → World → Prop) (RL : List (Value → World → Prop)) (hm : P.follows .mixedOrders = true)
    (hok : regOk l.toArray D L n a0.tmps.size = true) (h0 : I w0.drew) (hS : Stab S RL)
    (hop : OwesAll P D L I S (at_ RL) a0 0 n l)
    (hend : ∀ (vals : Nat → Value) (w : World), I w → (∀ j : Nat, j < n → at_ RL j (vals j) w) → wpList P l.toArray Q (l.drop n) (putD D vals (List.range n) a0) w) :
    (Code.region id l.toArray true).wp P Q a0 w0 := region_any n D L I S (at_ RL) hm hok h0 hS.at hop hend
/-- what the slots hold that come in -/
def Lives (a : Act) : List (Nat × Value) → Prop
  | [] => True
  | x :: r => a.eval (.tmp x.1) = x.2 ∧ Lives a r
theorem Lives.at {a : Act} : ∀ {l : List (Nat × Value)}, Lives a l → ∀ (i : Nat) (x : Nat × Value), l[i]? = some x → a.eval (.tmp x.1) = x.2 := by
  intro l
  induction l with
  | nil => intro _ i x h; simp at h
  | cons y r ih =>
    rintro ⟨h1, h2⟩ i x h
    cases i with
    | zero => simp only [List.getElem?_cons_zero, Option.some.injEq] at h; subst h; exact h1
    | succ i => simp only [List.getElem?_cons_succ] at h; exact ih h2 i x h
theorem eval_of_get {a b : Act} {t : Nat} (h : a.tmps[t]? = b.tmps[t]?) : a.eval (.tmp t) = b.eval (.tmp t) := tmp_congr h
theorem eval_old {D : List (Option Tmp)} {vals : Nat → Value} {t : Nat} : ∀ {ps : List Nat} {a0 : Act}, (ps.all fun j => D.getD j none != some t) = true → (putD D vals ps a0).eval (.tmp t) = a0.eval (.tmp t) := by
  intro ps
  induction ps with
  | nil => intro a0 _; rfl
  | cons j r ih =>
    intro a0 h
    simp only [List.all_cons, Bool.and_eq_true, bne_iff_ne, ne_eq] at h
    rw [putD, ih h.2]
    exact eval_of_get (put_get_ne h.1)
theorem putD_size (D : List (Option Tmp)) (vals : Nat → Value) (l : List Nat) (a : Act) : (putD D vals l a).tmps.size = a.tmps.size := by
  induction l generalizing a with
  | nil => rfl
  | cons j r ih => rw [putD, ih]; cases D.getD j none <;> simp [Act.put]
theorem eval_new {D : List (Option Tmp)} {vals : Nat → Value} {t : Nat} (j : Nat) (hD : D.getD j none = some t) : ∀ {ps : List Nat} {a0 : Act}, j ∈ ps → (ps.all fun i => i == j || D.getD i none != some t) = true → t < a0.tmps.size →
    (putD D vals ps a0).eval (.tmp t) = vals j := by
  intro ps
  induction ps with
  | nil => intro a0 h; cases h
  | cons i r ih =>
    intro a0 hj h hs
    simp only [List.all_cons, Bool.and_eq_true] at h
    rw [putD]
    by_cases hr : j ∈ r
    · exact ih hr h.2 (by cases D.getD i none <;> simp [Act.put, hs])
    · obtain rfl : j = i := (List.mem_cons.1 hj).resolve_right hr
      have hno : (r.all fun i => D.getD i none != some t) = true := by
        rw [List.all_eq_true] at h ⊢
        intro k hk
        have := h.2 k hk
        simp only [Bool.or_eq_true, beq_iff_eq] at this
        rcases this with e | e
        · exact (hr (e ▸ hk)).elim
        · exact e
      rw [eval_old hno, hD]
      simp only [Act.eval, Array.getD_eq_getD_getElem?, put_get_eq hs, Option.getD_some]
theorem goes_val {o : Oper} {a1 : Act} {w w' : World} {T : Value → World → Prop} (v : Value) (hg : o.guard = none) (h : (execOp a1.eval o).run P w = .ok (.value v) w') (hT : T v w') : wpList P #[] (Post a1 o.dst T) [o] a1 w := by
  unfold wpList
  rw [if_pos (by simp [Region.wanted, hg])]
  refine .inl ?_
  unfold Oper.wp
  rw [h]
  exact ⟨v, rfl, hT⟩
theorem goes_skip {o : Oper} {a1 : Act} {w w' : World} {T : Value → World → Prop} (hg : o.guard = none) (h : (execOp a1.eval o).run P w = .ok .skip w') (hT : T undef w') : wpList P #[] (Post a1 o.dst T) [o] a1 w := by
  unfold wpList
  rw [if_pos (by simp [Region.wanted, hg])]
  refine .inl ?_
  unfold Oper.wp
  rw [h]
  exact ⟨undef, rfl, hT⟩
theorem goes_call {o : Oper} {a1 : Act} {w : World} {T : Value → World → Prop} (f : FuncId) (args : Array Value) (w' : World) (hg : o.guard = none) (h : (execOp a1.eval o).run P w = .ok (.enter f args) w')
    (hT : Calls P f args w' fun e w'' => ∃ v, e = .returned v ∧ T v w'') : wpList P #[] (Post a1 o.dst T) [o] a1 w := by
  unfold wpList
  rw [if_pos (by simp [Region.wanted, hg])]
  refine .inl ?_
  unfold Oper.wp
  rw [h]
  refine Calls.mono hT fun e w'' he => ?_
  obtain ⟨v, rfl, ht⟩ := he
  exact ⟨v, rfl, ht⟩
/-- the same rule, each operation over a frame of which only the slots that come in are known -/
theorem region_f {id : Nat} {l : List Oper} {a0 : Act} {w0 : World} (n N : Nat) (D : List (Option Tmp)) (L : List (List Nat)) (LV : List (Nat × Value)) (I : World → Prop) (S : World → World → Prop) (RL : List (Value → World → Prop)) (hm : P.follows .mixedOrders = true)
    (hok : regOk l.toArray D L n N = true) (hN : a0.tmps.size = N) (hLV : Lives a0 LV) (h0 : I w0.drew) (hS : Stab S RL)
    (hop : ∀ b0 : Act, b0.tmps.size = N → Lives b0 LV → OwesAll P D L I S (at_ RL) b0 0 n l)
    (hend : ∀ (vals : Nat → Value) (w : World), I w → (∀ j : Nat, j < n → at_ RL j (vals j) w) → wpList P l.toArray Q (l.drop n) (putD D vals (List.range n) a0) w) :
    (Code.region id l.toArray true).wp P Q a0 w0 := region_l n D L I S RL hm (hN ▸ hok) h0 hS (hop a0 hN hLV) hend
end Go.Proofs.YthffegfcgmhppaaDoor.Roll
namespace Go.Proofs.YthffegfcgmhppaaDoor.Roll
variable {P : Program}
theorem goes_store_row {o : Oper} {a1 : Act} {w : World} {T : Value → World → Prop} (hgd : o.guard = none) (ty : TypeId) (x y : Operand) (ho : o.op = .store ty x y) (g : Nat) (cells : Array Value) (hx : a1.eval x = .pointer (some ⟨g, 0, none⟩)) (hy : a1.eval y = .agg cells)
    (t : TypeId) (old : Array Value) (hg : w.heap[g]? = some (.cells old t (0, 0))) (hi : (P.info? ty).map (·.size) = some cells.size) (hold : old.size = cells.size) (h1 : cells.all (·.oneCell') = true)
    (hT : T undef (w.setRow g cells)) : wpList P #[] (Post a1 o.dst T) [o] a1 w := by
  refine goes_skip hgd ?_ hT
  unfold execOp
  simp only [ho, hx, hy, Instr.storeAt, Instr.sureAddr, Sem.run_bind, Sem.run_pure, Result.andThen_ok, run_storeVar_row w g t ty old cells hg hi hold h1]
theorem goes_load_row {o : Oper} {a1 : Act} {w : World} {T : Value → World → Prop} (hgd : o.guard = none) (ty : TypeId) (x : Operand) (ho : o.op = .load ty x) (g : Nat) (hx : a1.eval x = .pointer (some ⟨g, 0, none⟩)) (t : TypeId) (cs : Array Value) (fr : Nat × Nat) (d : TypeDesc) (hg : w.heap[g]? = some (.cells cs t fr))
    (hu : P.underlying ty = some d) (hd : (match d with | .struct _ | .array _ _ => true | _ => false) = true) (hi : (P.info? ty).map (·.size) = some cs.size)
    (hT : T (.agg cs) w) : wpList P #[] (Post a1 o.dst T) [o] a1 w := by
  refine goes_val (.agg cs) hgd ?_ hT
  unfold execOp
  simp only [ho, hx, Instr.loadAt, Instr.sureAddr, Sem.run_bind, Sem.run_pure, Result.andThen_ok, run_loadVar_row w g t ty cs fr d hg hu hd hi]
theorem goes_load_mid {o : Oper} {a1 : Act} {w : World} {T : Value → World → Prop} (hgd : o.guard = none) (ty : TypeId) (x : Operand) (ho : o.op = .load ty x) (b off : Nat) (hx : a1.eval x = .pointer (some ⟨b, off, none⟩)) (cs : List Value) (d : TypeDesc) (hc : w.rangeAt b off cs)
    (hu : P.underlying ty = some d) (hd : d.isRow = true) (hi : (P.info? ty).map (·.size) = some cs.length)
    (hT : T (.agg cs.toArray) w) : wpList P #[] (Post a1 o.dst T) [o] a1 w := by
  refine goes_val (.agg cs.toArray) hgd ?_ hT
  unfold execOp
  simp only [ho, hx, Instr.loadAt, Instr.sureAddr, Sem.run_bind, Sem.run_pure, Result.andThen_ok, run_loadVar_mid w b off ty cs d hc hu hd hi]
theorem goes_store_mid {o : Oper} {a1 : Act} {w : World} {T : Value → World → Prop} (hgd : o.guard = none) (ty : TypeId) (x y : Operand) (ho : o.op = .store ty x y) (b off : Nat) (cells : Array Value) (hx : a1.eval x = .pointer (some ⟨b, off, none⟩)) (hy : a1.eval y = .agg cells)
    (ht : w.there b off cells.size) (hi : (P.info? ty).map (·.size) = some cells.size) (h1 : cells.all (·.oneCell') = true)
    (hT : T undef (w.setCells b off cells.toList)) : wpList P #[] (Post a1 o.dst T) [o] a1 w := by
  refine goes_skip hgd ?_ hT
  unfold execOp
  simp only [ho, hx, hy, Instr.storeAt, Instr.sureAddr, Sem.run_bind, Sem.run_pure, Result.andThen_ok, run_storeVar_mid w b off ty cells ht hi h1]
theorem goes_slice_from {o : Oper} {a1 : Act} {w : World} {T : Value → World → Prop} (hgd : o.guard = none) (t : TypeId) (x lo : Operand) (ho : o.op = .slice t x (some lo) none none) (X L v : Value) (hx : a1.eval x = X) (hl : a1.eval lo = L)
    (hr : (Instr.sliceAt t X (some L) none none).run P w = .ok v w) (hT : T v w) : wpList P #[] (Post a1 o.dst T) [o] a1 w := by
  refine goes_val v hgd ?_ hT
  unfold execOp
  simp only [ho, hx, hl, Option.map_some, Option.map_none, Sem.run_bind, Sem.run_pure, hr, Result.andThen_ok]
theorem goes_slice_to {o : Oper} {a1 : Act} {w : World} {T : Value → World → Prop} (hgd : o.guard = none) (t : TypeId) (x hi : Operand) (ho : o.op = .slice t x none (some hi) none) (X L v : Value) (hx : a1.eval x = X) (hl : a1.eval hi = L)
    (hr : (Instr.sliceAt t X none (some L) none).run P w = .ok v w) (hT : T v w) : wpList P #[] (Post a1 o.dst T) [o] a1 w := by
  refine goes_val v hgd ?_ hT
  unfold execOp
  simp only [ho, hx, hl, Option.map_some, Option.map_none, Sem.run_bind, Sem.run_pure, hr, Result.andThen_ok]
theorem goes_convert {o : Oper} {a1 : Act} {w : World} {T : Value → World → Prop} (hgd : o.guard = none) (t u : TypeId) (x : Operand) (ho : o.op = .convert t u x) (X v : Value) (hx : a1.eval x = X)
    (hr : (convert t u X).run P w = .ok v w) (hT : T v w) : wpList P #[] (Post a1 o.dst T) [o] a1 w := by
  refine goes_val v hgd ?_ hT
  unfold execOp
  simp only [ho, hx, Sem.run_bind, Sem.run_pure, hr, Result.andThen_ok]
end Go.Proofs.YthffegfcgmhppaaDoor.Roll
namespace Go.Proofs.YthffegfcgmhppaaDoor.Roll
variable {P : Program} {ops : Array Oper} {Q : Exit → Act → World → Prop}
def upd (vals : Nat → Value) (k : Nat) (x : Value) : Nat → Value := fun j => if j = k then x else vals j
theorem upd_same (vals : Nat → Value) (k : Nat) (x : Value) : upd vals k x k = x := by unfold upd; rw [if_pos rfl]
theorem upd_other {vals : Nat → Value} {k : Nat} {x : Value} {j : Nat} (h : j ≠ k) : upd vals k x j = vals j := by unfold upd; rw [if_neg h]
def resg (o : Oper) (R : Nat → (Nat → Value) → World → Prop) (k : Nat) (vals : Nat → Value) (v : Value) (w : World) : Prop := R k (upd vals k (if o.dst.isSome then v else undef)) w
def Doesg (P : Program) (ops : Array Oper) (L : List (List Nat)) (I : World → Prop) (S : World → World → Prop) (R : Nat → (Nat → Value) → World → Prop) (a0 : Act) (k : Nat) (o : Oper) : Prop :=
  ∀ (vals : Nat → Value) (w : World), I w → (∀ j ∈ L.getD k [], R j vals w) →
    wpList P ops (Post (putOf ops vals (L.getD k []) a0) o.dst fun v w' => I w' ∧ S w w' ∧ resg o R k vals v w') [o] (putOf ops vals (L.getD k []) a0) w
structure Heldg (ops : Array Oper) (I : World → Prop) (R : Nat → (Nat → Value) → World → Prop) (a0 : Act) (vals : Nat → Value) (listed : Array Bool) (a : Act) (w : World) : Prop where
  inv : I w
  len : listed.size = ops.size
  defers : a.defers = a0.defers
  size : a.tmps.size = a0.tmps.size
  closed : ∀ (j : Nat) (o : Oper), ops[j]? = some o → listed[j]? = some true → ∀ i ∈ ahead o, listed[i]? = some true
  old : ∀ t : Nat, (∀ j : Nat, listed[j]? = some true → slot ops j ≠ some t) → a.tmps[t]? = a0.tmps[t]?
  new : ∀ (j t : Nat), listed[j]? = some true → slot ops j = some t → a.tmps[t]? = some (vals j)
  got : ∀ j : Nat, listed[j]? = some true → R j vals w
theorem wpAny_heldg (hb : backOk ops = true) (hap : apartB ops = true) {L : List (List Nat)} (hlo : looksOk ops L = true) {n : Nat} (hnle : n ≤ ops.size) (htl : tailOk ops n = true) {I : World → Prop} {S : World → World → Prop} {R : Nat → (Nat → Value) → World → Prop} {a0 : Act}
    (hsz : ∀ j t, slot ops j = some t → t < a0.tmps.size)
    (hS : ∀ j v w w', S w w' → R j v w → R j v w') (hC : ∀ j v v' w, (∀ i, i = j ∨ i ∈ L.getD j [] → v i = v' i) → R j v w → R j v' w) (hop : ∀ (k : Nat) (o : Oper), k < n → ops[k]? = some o → Doesg P ops L I S R a0 k o)
    (hend : ∀ (vals : Nat → Value) (w : World), I w → (∀ j : Nat, j < n → R j vals w) → wpList P ops Q (ops.toList.drop n) (putOf ops vals (List.range n) a0) w) :
    ∀ (fuel : Nat) (listed : Array Bool) (vals : Nat → Value) (a : Act) (w : World), listed.toList.count false ≤ fuel → (∀ j : Nat, n ≤ j → j < ops.size → listed[j]? = some false) → Heldg ops I R a0 vals listed a w → wpAny P .any ops Q fuel listed a w := by
  have slot_lt : ∀ {j t : Nat}, slot ops j = some t → j < ops.size := by
    intro j t hj
    unfold slot at hj
    cases hk : ops[j]? with
    | none => rw [hk] at hj; cases hj
    | some o => exact (Array.getElem?_eq_some_iff.1 hk).1
  have fin : ∀ (fuel : Nat) (listed : Array Bool) (vals : Nat → Value) (a : Act) (w : World), listed.toList.count false ≤ fuel → (∀ j : Nat, n ≤ j → j < ops.size → listed[j]? = some false) → Heldg ops I R a0 vals listed a w → (∀ j : Nat, j < n → listed[j]? = some true) → wpAny P .any ops Q fuel listed a w := by
    intro fuel listed vals a w hc hun h hall
    have e : a = putOf ops vals (List.range n) a0 := by
      have et : a.tmps = (putOf ops vals (List.range n) a0).tmps := by
        refine Array.ext_getElem? fun t => ?_
        by_cases hx : ∃ j : Nat, j < n ∧ slot ops j = some t
        · obtain ⟨j, hjn, hj⟩ := hx
          rw [h.new j t (hall j hjn) hj, putOf_mem hap vals _ _ j t (List.mem_range.2 hjn) hj (hsz j t hj)]
        · rw [h.old t (fun j hj e => ?_), putOf_other ops vals _ _ t (fun j hj e => hx ⟨j, List.mem_range.1 hj, e⟩)]
          rcases Nat.lt_or_ge j n with hjn | hjn
          · exact hx ⟨j, hjn, e⟩
          · rw [hun j hjn (slot_lt e)] at hj; cases hj
      have ed : a.defers = (putOf ops vals (List.range n) a0).defers := by rw [putOf_defers]; exact h.defers
      cases a
      generalize putOf ops vals (List.range n) a0 = b at *
      cases b
      simp_all
    have hcnt : ops.size - n ≤ fuel := by
      refine Nat.le_trans ?_ hc
      have h1 : (listed.toList.drop n).count false = ops.size - n := by
        rw [List.count_eq_length.2]
        · simp [h.len]
        · intro b hb'
          obtain ⟨i, hi, rfl⟩ := List.mem_iff_getElem.1 hb'
          simp only [List.length_drop, Array.length_toList] at hi
          have := hun (n + i) (by omega) (by rw [← h.len]; omega)
          rw [Array.getElem?_eq_getElem (by omega)] at this
          simpa using (Option.some.inj this).symm
      rw [← h1]
      exact (List.drop_sublist n _).count_le false
    exact wpAny_tail hb htl fuel n listed a w (Nat.le_refl _) hnle hcnt h.len hall hun (e ▸ hend vals w h.inv (fun j hj => h.got j (hall j hj)))
  intro fuel
  induction fuel with
  | zero =>
    intro listed vals a w hc hun h
    refine fin 0 listed vals a w hc hun h fun j hj => ?_
    have hjl : j < listed.size := by rw [h.len]; omega
    rw [Array.getElem?_eq_getElem hjl]
    have h0 : listed.toList.count false = 0 := by omega
    have := List.count_eq_zero.1 h0
    cases hv : listed[j] with
    | true => rfl
    | false => exact (this (hv ▸ (by simp))).elim
  | succ fuel ih =>
    intro listed vals a w hc hun h
    by_cases hall : ∀ j : Nat, j < n → listed[j]? = some true
    · exact fin _ listed vals a w hc hun h hall
    refine ⟨fun hr => (hall fun j hj => ready_least rfl hb h.len hr j (by omega)).elim, fun k hk => ?_⟩
    obtain ⟨hu, o, ho, hedge⟩ := mem_ready.1 hk
    have hku := unlisted_of_getD hu
    have hklt : k < ops.size := (Array.getElem?_eq_some_iff.1 ho).1
    have hkn : k < n := by
      rcases Nat.lt_or_ge k n with hx | hx
      · exact hx
      · exact (hall fun j hj => by
          obtain ⟨e, he, hbd, hon⟩ := ahead_of_edge (tail_ahead htl ho hx (show j < k by omega))
          exact hon ▸ listed_of_getD (hedge e he hbd)).elim
    have hah : ∀ i ∈ ahead o, listed[i]? = some true := by
      intro i hi
      obtain ⟨e, he, rfl⟩ := List.mem_map.1 hi
      obtain ⟨h1, h2⟩ := List.mem_filter.1 he
      exact listed_of_getD (hedge e (by simpa using h1) h2)
    have hlk := List.all_eq_true.1 hlo k (List.mem_range.2 hklt)
    simp only [ho, Bool.and_eq_true] at hlk
    obtain ⟨⟨hsel, hpre⟩, hlk⟩ := hlk
    have hpre' : ∀ i ∈ L.getD k [], i ∈ ahead o := fun i hi => by simpa using List.all_eq_true.1 hpre i hi
    have hsame : ∀ t ∈ o.looksAt ops, a.tmps[t]? = (putOf ops vals (L.getD k []) a0).tmps[t]? := by
      intro t ht
      have h1 := List.all_eq_true.1 hlk t ht
      by_cases hx : ∃ j : Nat, listed[j]? = some true ∧ slot ops j = some t
      · obtain ⟨j, hj, hjt⟩ := hx
        have hjlt : j < ops.size := by rw [← h.len]; exact (Array.getElem?_eq_some_iff.1 hj).1
        have h2 := List.all_eq_true.1 h1 j (List.mem_range.2 hjlt)
        have hoj : ops[j]? = some ops[j] := Array.getElem?_eq_getElem hjlt
        simp only [hoj, Bool.or_eq_true, bne_iff_ne, ne_eq, List.contains_eq_mem, decide_eq_true_eq] at h2
        have hjin : j ∈ L.getD k [] := by
          rcases h2 with (h2 | h2) | h2
          · exact (h2 hjt).elim
          · exact h2
          · have := h.closed j _ hoj hj k h2
            rw [hku] at this; cases this
        rw [h.new j t hj hjt, putOf_mem hap vals _ _ j t hjin hjt (hsz j t hjt)]
      · rw [h.old t (fun j hj e => hx ⟨j, hj, e⟩), putOf_other ops vals _ _ t (fun j hj e => hx ⟨j, hah j (hpre' j hj), e⟩)]
    have hd := hop k o hkn ho vals w h.inv (fun j hj => h.got j (hah j (hpre' j hj)))
    have hdst : slot ops k = o.dst := by unfold slot; rw [ho]; rfl
    refine wpOp_mono ?_ (wpOp_of_list (Q := Q) (a := a) ho ?_ ?_ (exec_congr (fun cs c e => ?_) hsame) (wanted_congr hsame) hd)
    · rintro a' w' ⟨v, rfl, hI, hSw, hR⟩
      refine ih (listed.setIfInBounds k true) (upd vals k (if o.dst.isSome then v else undef)) _ w' (by have := count_set hku; omega) (fun j hj hjs => by rw [set_get hku, if_neg (by omega)]; exact hun j hj hjs) ?_
      refine ⟨hI, ?_, ?_, ?_, ?_, ?_, ?_, ?_⟩
      · rw [Array.size_setIfInBounds]; exact h.len
      · rw [← h.defers]; cases o.dst <;> rfl
      · rw [← h.size]; cases o.dst <;> simp [Act.put]
      · intro j oj hoj hj i hi
        rw [set_get hku] at hj ⊢
        by_cases ei : i = k
        · rw [if_pos ei]
        · rw [if_neg ei]
          by_cases ej : j = k
          · subst ej
            rw [ho] at hoj; cases hoj
            exact hah i hi
          · rw [if_neg ej] at hj
            exact h.closed j oj hoj hj i hi
      · intro t ht
        have hne : o.dst ≠ some t := by rw [← hdst]; exact ht k (by rw [set_get hku, if_pos rfl])
        rw [put_get_ne hne]
        refine h.old t fun j hj => ht j ?_
        rw [set_get hku]; split <;> first | rfl | exact hj
      · intro j t hj hjt
        rw [set_get hku] at hj
        by_cases ej : j = k
        · subst ej
          rw [hdst] at hjt
          rw [hjt, put_get_eq (by rw [h.size]; exact hsz j t (by rw [hdst]; exact hjt)), upd_same]
          simp
        · rw [if_neg ej] at hj
          rw [upd_other ej]
          have hne : o.dst ≠ some t := by
            intro e
            exact ej (apart_inj hap hjt (by rw [hdst]; exact e))
          rw [put_get_ne hne]
          exact h.new j t hj hjt
      · intro j hj
        rw [set_get hku] at hj
        by_cases ej : j = k
        · subst ej
          exact hR
        · rw [if_neg ej] at hj
          have hjlt : j < ops.size := by rw [← h.len]; exact (Array.getElem?_eq_some_iff.1 hj).1
          have hoj : ops[j]? = some ops[j] := Array.getElem?_eq_getElem hjlt
          have hlj := List.all_eq_true.1 hlo j (List.mem_range.2 hjlt)
          simp only [hoj, Bool.and_eq_true] at hlj
          refine hC j vals _ w' (fun i hi => ?_) (hS j _ w w' hSw (h.got j hj))
          have hik : i ≠ k := by
            rcases hi with rfl | hi
            · exact ej
            · intro e
              have h1 : i ∈ ahead ops[j] := by simpa using List.all_eq_true.1 hlj.1.2 i hi
              have h2 := h.closed j _ hoj hj i h1
              rw [e, hku] at h2; cases h2
          rw [upd_other hik]
    · intro hnone v u w'
      unfold resg
      rw [hnone]
      exact id
    · intro t ht
      rw [putOf_size]
      exact hsz k t (by rw [hdst]; exact ht)
    · rw [e] at hsel; cases hsel
/-- what is owed for one operation -/
def Owesg (P : Program) (D : List (Option Tmp)) (ps : List Nat) (I : World → Prop) (S : World → World → Prop) (R : Nat → (Nat → Value) → World → Prop) (a0 : Act) (k : Nat) (o : Oper) : Prop :=
  ∀ (vals : Nat → Value) (w : World), I w → (∀ j ∈ ps, R j vals w) → match o.guard with
    | none => Goes P D ps (fun w v w' => I w' ∧ S w w' ∧ resg o R k vals v w') a0 o vals w
    | some (g, want) => (vals g = .bool want → Goes P D ps (fun w v w' => I w' ∧ S w w' ∧ resg o R k vals v w') a0 o vals w) ∧ (vals g ≠ .bool want → S w w ∧ R k (upd vals k undef) w)
/-- what is owed for the operations, one after the other -/
def OwesAllg (P : Program) (D : List (Option Tmp)) (L : List (List Nat)) (I : World → Prop) (S : World → World → Prop) (R : Nat → (Nat → Value) → World → Prop) (a0 : Act) : Nat → Nat → List Oper → Prop
  | _, 0, _ => True
  | _, _ + 1, [] => True
  | k, n + 1, o :: r => Owesg P D (L.getD k []) I S R a0 k o ∧ OwesAllg P D L I S R a0 (k + 1) n r
theorem owes_of_allg {D : List (Option Tmp)} {L : List (List Nat)} {I : World → Prop} {S : World → World → Prop} {R : Nat → (Nat → Value) → World → Prop} {a0 : Act} : ∀ (l : List Oper) (m n : Nat), OwesAllg P D L I S R a0 m n l → ∀ (k : Nat) (o : Oper), k < n → l[k]? = some o → Owesg P D (L.getD (m + k) []) I S R a0 (m + k) o := by
  intro l
  induction l with
  | nil => intro m n _ k o _ h; simp at h
  | cons x r ih =>
    intro m n h k o hk hx
    cases n with
    | zero => omega
    | succ n =>
      obtain ⟨h1, h2⟩ := h
      cases k with
      | zero => simp only [List.getElem?_cons_zero, Option.some.injEq] at hx; subst hx; exact h1
      | succ k =>
        simp only [List.getElem?_cons_succ] at hx
        have := ih (m + 1) n h2 k o (by omega) hx
        rwa [show m + 1 + k = m + (k + 1) by omega] at this
theorem does_of_owesg {D : List (Option Tmp)} {L : List (List Nat)} {I : World → Prop} {S : World → World → Prop} {R : Nat → (Nat → Value) → World → Prop} {a0 : Act} {k : Nat} {o : Oper}
    (hD : ∀ j, j < ops.size → slot ops j = D.getD j none) (hL : ∀ j ∈ L.getD k [], j < ops.size) (hap : apartB ops = true) (hsz : ∀ j t, slot ops j = some t → t < a0.tmps.size)
    (hg : ∀ g want, o.guard = some (g, want) → g ∈ L.getD k [] ∧ (slot ops g).isSome = true) (h : Owesg P D (L.getD k []) I S R a0 k o) : Doesg P ops L I S R a0 k o := by
  intro vals w hI hR
  have h := h vals w hI hR
  unfold Goes at h
  rw [← putD_eq hD vals _ _ hL] at h
  generalize he : putOf ops vals (L.getD k []) a0 = a1 at *
  unfold wpList
  cases hgd : o.guard with
  | none =>
    rw [hgd] at h
    rw [if_pos (by simp [Region.wanted, hgd])]
    exact .inl (wpList_unguarded h)
  | some gw =>
    obtain ⟨g, want⟩ := gw
    rw [hgd] at h
    obtain ⟨h1, h2⟩ := h
    obtain ⟨hgl, hgs⟩ := hg g want hgd
    obtain ⟨t, ht⟩ := Option.isSome_iff_exists.1 hgs
    have hv : a1.tmps[t]? = some (vals g) := by rw [← he]; exact putOf_mem hap vals _ _ g t hgl ht (hsz g t ht)
    have hy : yielded ops a1.tmps g = match vals g with | .bool b => some b | _ => none := by
      unfold yielded
      have : (ops[g]?).bind (·.dst) = some t := ht
      rw [this, Option.bind_some, hv]
      cases vals g <;> rfl
    by_cases hb : vals g = .bool want
    · rw [if_pos (by simp [Region.wanted, hgd, hy, hb])]
      exact .inl (wpList_unguarded (h1 hb))
    · rw [if_neg]
      · obtain ⟨hS, hR⟩ := h2 hb
        refine ⟨undef, rfl, hI, hS, ?_⟩
        unfold resg
        cases o.dst <;> exact hR
      · simp only [Region.wanted, hgd, hy]
        cases hx : vals g <;> simp
        rename_i b
        rw [hx] at hb
        intro e
        exact hb (by rw [e])
/-- A REGION THAT DRAWS ITS ORDER: its first n operations come up in any order that the edges allow, the others behind them. Each operation is walked once. I: what holds throughout; S: what a step may change; R k: what the result of operation k is. -/
theorem region_anyg {id : Nat} {l : List Oper} {a0 : Act} {w0 : World} (n : Nat) (D : List (Option Tmp)) (L : List (List Nat)) (I : World → Prop) (S : World → World → Prop) (R : Nat → (Nat → Value) → World → Prop) (hm : P.follows .mixedOrders = true)
    (hok : regOk l.toArray D L n a0.tmps.size = true) (h0 : I w0.drew)
    (hS : ∀ j v w w', S w w' → R j v w → R j v w') (hC : ∀ j v v' w, (∀ i, i = j ∨ i ∈ L.getD j [] → v i = v' i) → R j v w → R j v' w)
    (hop : OwesAllg P D L I S R a0 0 n l)
    (hend : ∀ (vals : Nat → Value) (w : World), I w → (∀ j : Nat, j < n → R j vals w) → wpList P l.toArray Q (l.drop n) (putD D vals (List.range n) a0) w) :
    (Code.region id l.toArray true).wp P Q a0 w0 := by
  simp only [regOk, Bool.and_eq_true] at hok
  obtain ⟨⟨⟨⟨⟨⟨⟨hnle, htl⟩, hb⟩, hap⟩, hlo⟩, hsz⟩, hD⟩, hgd⟩ := hok
  have hnle' := of_decide_eq_true hnle
  have slot_lt : ∀ {j t : Nat}, slot l.toArray j = some t → j < l.toArray.size := by
    intro j t hj
    unfold slot at hj
    cases hk : l.toArray[j]? with
    | none => rw [hk] at hj; cases hj
    | some o => exact (Array.getElem?_eq_some_iff.1 hk).1
  have hsz' : ∀ j t, slot l.toArray j = some t → t < a0.tmps.size := by
    intro j t hj
    have h1 := List.all_eq_true.1 hsz j (List.mem_range.2 (slot_lt hj))
    simp only [hj] at h1
    exact of_decide_eq_true h1
  have hD' : ∀ j, j < l.toArray.size → slot l.toArray j = D.getD j none := fun j hj => by simpa using List.all_eq_true.1 hD j (List.mem_range.2 hj)
  refine wp_region_any hm ?_
  refine wpAny_heldg hb hap hlo hnle' htl (I := I) (S := S) (R := R) (a0 := a0) hsz' hS hC (fun k o hk ho => ?_) (fun vals w hI hR => ?_) _ _ (fun _ => undef) a0 _ ?_ ?_ ?_
  · have hklt : k < l.toArray.size := (Array.getElem?_eq_some_iff.1 ho).1
    have h1 := owes_of_allg l 0 n hop k o hk (by simpa using ho)
    rw [Nat.zero_add] at h1
    have hlk := List.all_eq_true.1 hlo k (List.mem_range.2 hklt)
    simp only [ho, Bool.and_eq_true] at hlk
    refine does_of_owesg hD' (fun j hj => ?_) hap hsz' (fun g want hg => ?_) h1
    · have h2 : j ∈ ahead o := by simpa using List.all_eq_true.1 hlk.1.2 j hj
      have h3 := List.all_eq_true.1 hb k (List.mem_range.2 hklt)
      simp only [ho] at h3
      have := of_decide_eq_true (List.all_eq_true.1 h3 j h2)
      omega
    · have h2 := List.all_eq_true.1 hgd k (List.mem_range.2 hklt)
      simp only [ho, Option.bind_some, hg, Bool.and_eq_true] at h2
      have hgl : g ∈ L.getD k [] := by simpa using h2.1
      refine ⟨hgl, ?_⟩
      have h4 : g ∈ ahead o := by simpa using List.all_eq_true.1 hlk.1.2 g hgl
      have h3 := List.all_eq_true.1 hb k (List.mem_range.2 hklt)
      simp only [ho] at h3
      have := of_decide_eq_true (List.all_eq_true.1 h3 g h4)
      rw [hD' g (by omega)]; exact h2.2
  · rw [putD_eq hD' vals _ _ (fun j hj => by have := List.mem_range.1 hj; omega)]
    exact hend vals w hI hR
  · simp
  · intro j _ hj
    rw [Array.getElem?_replicate, if_pos hj]
  · refine ⟨h0, by simp, rfl, rfl, ?_, fun _ _ => rfl, ?_, ?_⟩
    · intro j o _ hj
      rw [Array.getElem?_replicate] at hj
      split at hj <;> simp at hj
    · intro j t hj
      rw [Array.getElem?_replicate] at hj
      split at hj <;> simp at hj
    · intro j hj
      rw [Array.getElem?_replicate] at hj
      split at hj <;> simp at hj
/-- what is known may speak of the results that an operation builds on, and of its own -/
def rs (L : List (List Nat)) (j : Nat) (vals : Nat → Value) : Nat → Value := fun i => if (j :: L.getD j []).contains i then vals i else undef
def Stabg (S : World → World → Prop) : List ((Nat → Value) → World → Prop) → Prop
  | [] => True
  | r :: t => (∀ v w w', S w w' → r v w → r v w') ∧ Stabg S t
def atg (L : List (List Nat)) (RL : List ((Nat → Value) → World → Prop)) (j : Nat) (vals : Nat → Value) (w : World) : Prop := RL.getD j (fun _ _ => True) (rs L j vals) w
theorem Stabg.get {S : World → World → Prop} : ∀ {RL : List ((Nat → Value) → World → Prop)}, Stabg S RL → ∀ j v w w', S w w' → RL.getD j (fun _ _ => True) v w → RL.getD j (fun _ _ => True) v w' := by
  intro RL
  induction RL with
  | nil => intro _ j v w w' _ _; exact trivial
  | cons r t ih =>
    rintro ⟨h1, h2⟩ j v w w' hS h
    cases j with
    | zero => exact h1 v w w' hS h
    | succ j => exact ih h2 j v w w' hS h
/-- A REGION THAT DRAWS ITS ORDER, as region_f; each relation takes the values of the operations: its own and those that it builds on. -/
theorem region_g {id : Nat} {l : List Oper} {a0 : Act} {w0 : World} (n N : Nat) (D : List (Option Tmp)) (L : List (List Nat)) (LV : List (Nat × Value)) (I : World → Prop) (S : World → World → Prop) (RL : List ((Nat → Value) → World → Prop)) (hm : P.follows .mixedOrders = true)
    (hok : regOk l.toArray D L n N = true) (hN : a0.tmps.size = N) (hLV : Lives a0 LV) (h0 : I w0.drew) (hS : Stabg S RL)
    (hop : ∀ b0 : Act, b0.tmps.size = N → Lives b0 LV → OwesAllg P D L I S (atg L RL) b0 0 n l)
    (hend : ∀ (vals : Nat → Value) (w : World), I w → (∀ j : Nat, j < n → atg L RL j vals w) → wpList P l.toArray Q (l.drop n) (putD D vals (List.range n) a0) w) :
    (Code.region id l.toArray true).wp P Q a0 w0 := by
  refine region_anyg n D L I S (atg L RL) hm (hN ▸ hok) h0 (fun j v w w' hs h => hS.get j _ w w' hs h) (fun j v v' w hv h => ?_) (hop a0 hN hLV) hend
  unfold atg at *
  have e : rs L j v = rs L j v' := by
    funext i
    unfold rs
    split
    · rename_i hi
      exact hv i (by simpa using hi)
    · rfl
  rw [← e]; exact h
end Go.Proofs.YthffegfcgmhppaaDoor.Roll

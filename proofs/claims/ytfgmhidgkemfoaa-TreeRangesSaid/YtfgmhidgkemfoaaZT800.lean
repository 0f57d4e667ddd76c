/-
  Texts K0, M1, A0, A1, A2, A3, A4, A5, A6, A7, M2, A8, B0, B1, N1, R0, B2, B3, B4, C0, M3, C1, D2, M4, one behind the other.
-/
import Derived.Laws.AppendOwn
import Derived.Laws.OwnMore
import Derived.Deep.AppendSrc
import Derived.Deep.MidRow
import Derived.Lib.Hide
import GoSem.Claim
import Derived.WalkKit
import Derived.WalkSpells
import Derived.WalkLawsBesides
import Derived.Laws.BytesString
import Derived.Laws.AppendOwnNone
import Derived.Laws.ShiftsVarLaws
import Derived.Laws.BitsAllLaws
import Derived.Deep.QuietTactic
import Derived.BigQuiet
import Derived.Orders
import Derived.Tactics
import Derived.Laws.Tables
import Derived.Deep.Cut
import Derived.ProofKit
import Derived.OpenShut
import Derived.Carry
import Derived.Deep.Slices
import Derived.Deep.Fields
import Derived.JoinedCond
import Derived.Deep.RegionWith
import Derived.Deep.DrawnRows
import Derived.Test.YtfgmhidgkemfoaaRows
namespace Go.Proofs.Ytfgmhidgkemfoaa
open Go.RowKit
/-- only blocks in S have changed -/
structure Kept (S : Nat → Prop) (w w' : World) : Prop where
  os : w'.os = w.os
  tape : w'.tape = w.tape
  output : w'.output = w.output
  size : w.heap.size ≤ w'.heap.size
  block : ∀ k, k < w.heap.size → ¬ S k → w'.heap[k]? = w.heap[k]?
theorem Kept.refl (S : Nat → Prop) (w : World) : Kept S w w := ⟨rfl, rfl, rfl, Nat.le_refl _, fun _ _ _ => rfl⟩
theorem Kept.trans {S T : Nat → Prop} {a b c : World} (h : Kept S a b) (k : Kept T b c) (hT : ∀ j, j < a.heap.size → T j → S j) : Kept S a c :=
  ⟨k.os.trans h.os, k.tape.trans h.tape, k.output.trans h.output, Nat.le_trans h.size k.size, fun i hi hs => (k.block i (Nat.lt_of_lt_of_le hi h.size) (fun ht => hs (hT i hi ht))).trans (h.block i hi hs)⟩
theorem Kept.mono {S T : Nat → Prop} {w w' : World} (h : Kept S w w') (hT : ∀ j, j < w.heap.size → S j → T j) : Kept T w w' :=
  ⟨h.os, h.tape, h.output, h.size, fun i hi ht => h.block i hi (fun hs => ht (hT i hi hs))⟩
theorem Kept.below {S : Nat → Prop} {w w' : World} {B : Nat} (h : Kept S w w') (hB : B ≤ w.heap.size) (hS : ∀ j, j < B → ¬ S j) : Below B w w' :=
  ⟨h.os, h.tape, h.output, h.size, fun k hk => h.block k (by omega) (hS k hk)⟩
theorem Kept.of_below {w w' : World} (S : Nat → Prop) (h : Below w.heap.size w w') : Kept S w w' := ⟨h.os, h.tape, h.output, h.size, fun k hk _ => h.block k hk⟩
theorem Kept.drew {S : Nat → Prop} {a w : World} (h : Kept S a w) : Kept S a w.drew := ⟨h.os, h.tape, h.output, h.size, h.block⟩
theorem Kept.alloc {S : Nat → Prop} {a w : World} (h : Kept S a w) (o : Obj) : Kept S a (w.alloc o) :=
  h.trans (T := S) ⟨rfl, rfl, rfl, by simp, fun k hk _ => Below.heap_alloc _ _ _ hk⟩ (fun _ _ h => h)
theorem Kept.setCell {S : Nat → Prop} {a w : World} (h : Kept S a w) {p : Addr} (hp : p.block < a.heap.size → S p.block) (u : Value) : Kept S a (w.setCell p u) :=
  ⟨h.os, h.tape, h.output, by simpa [World.setCell] using h.size, fun k hk hs => (Below.heap_setCell _ _ _ _ (fun e => hs (by rw [e]; exact hp (by rw [← e]; exact hk)))).trans (h.block k hk hs)⟩
theorem Kept.setRow {S : Nat → Prop} {a w : World} (h : Kept S a w) {g : Nat} (hp : g < a.heap.size → S g) (cs : Array Value) : Kept S a (w.setRow g cs) :=
  ⟨h.os, h.tape, h.output, by simpa [World.setRow] using h.size, fun k hk hs => (setRow_other w g k _ (fun e => hs (by rw [e]; exact hp (by rw [← e]; exact hk)))).trans (h.block k hk hs)⟩
theorem Kept.grown {w w' : World} {k : Option Nat} (h : w.grownBy w' k) : Kept (fun j => k = some j) w w' :=
  ⟨h.os, h.tape, h.output, h.size, fun j hj hs => h.block j hj (fun e => hs e.symm)⟩
theorem Kept.cell {S : Nat → Prop} {w w' : World} (h : Kept S w w') {p : Addr} (hp : p.block < w.heap.size) (hs : ¬ S p.block) : w'.cell? p = w.cell? p := World.cell?_of_block (w := w) (h.block p.block hp hs)
theorem Kept.frozen {S : Nat → Prop} {w w' : World} (h : Kept S w w') {p : Addr} (hp : p.block < w.heap.size) (hs : ¬ S p.block) : w'.frozen? p = w.frozen? p := World.frozen?_of_block (w := w) (h.block p.block hp hs)
theorem Kept.heap {S : Nat → Prop} {w w' : World} (h : Kept S w w') {g : Nat} {o : Obj} (hg : w.heap[g]? = some o) (hs : ¬ S g) : w'.heap[g]? = some o :=
  (h.block g (Array.getElem?_eq_some_iff.1 hg).1 hs).trans hg
/-- a row of one's own in block k: the nil slice, or the head of a block whose first cells are xs -/
def Own (w : World) (e : TypeId) (size : Nat) (k : Option Nat) (v : Value) (n : Nat) (xs : List Value) : Prop :=
  xs.length = n * size ∧ ((k = none ∧ v = .slice none 0 0 ∧ n = 0) ∨
    ∃ g cap cur, k = some g ∧ v = .slice (some ⟨g, 0, none⟩) n cap ∧ w.heap[g]? = some (.cells cur e (0, 0)) ∧ n ≤ cap ∧ cap ≤ maxLen ∧ cur.size = cap * size ∧ cur.toList.take (n * size) = xs)
theorem Own.nil (w : World) (e : TypeId) (size : Nat) : Own w e size none (.slice none 0 0) 0 [] := ⟨by simp, .inl ⟨rfl, rfl, rfl⟩⟩
theorem Own.made (w : World) (e : TypeId) (size : Nat) (cur : Array Value) (n : Nat) (hm : n ≤ maxLen) (hs : cur.size = n * size) :
    Own (w.alloc (.cells cur e)) e size (some w.heap.size) (.slice (some ⟨w.heap.size, 0, none⟩) n n) n cur.toList :=
  ⟨by simpa using hs, .inr ⟨w.heap.size, n, cur, rfl, rfl, heap_alloc_new w _, Nat.le_refl _, hm, hs, List.take_of_length_le (by simp [hs])⟩⟩
theorem Own.lt {w : World} {e : TypeId} {size : Nat} {k : Option Nat} {v : Value} {n : Nat} {xs : List Value} (h : Own w e size k v n xs) : ∀ j, k = some j → j < w.heap.size := by
  intro j hj
  rcases h.2 with ⟨rfl, _⟩ | ⟨g, cap, cur, rfl, _, hg, _⟩
  · cases hj
  · cases hj; exact (Array.getElem?_eq_some_iff.1 hg).1
theorem Own.kept {S : Nat → Prop} {w w' : World} {e : TypeId} {size : Nat} {k : Option Nat} {v : Value} {n : Nat} {xs : List Value} (h : Own w e size k v n xs) (hk : Kept S w w') (hs : ∀ j, k = some j → ¬ S j) : Own w' e size k v n xs := by
  refine ⟨h.1, ?_⟩
  rcases h.2 with hn | ⟨g, cap, cur, rfl, rfl, hg, rest⟩
  · exact .inl hn
  · exact .inr ⟨g, cap, cur, rfl, rfl, hk.heap hg (hs g rfl), rest⟩
/-- a slice that reads as these cells; its block lies in D -/
def Sl (D : Nat → Prop) (w : World) (a : Option Addr) (n c : Nat) (xs : List Value) (size : Nat) : Prop :=
  xs.length = n * size ∧ n ≤ c ∧ c ≤ maxLen ∧ (a = none → c = 0) ∧ (0 < n → ∃ b off, D b ∧ a = some ⟨b, off, none⟩ ∧ w.rangeAt b off xs)
theorem range_lt {w : World} {b off : Nat} {xs : List Value} (h : w.rangeAt b off xs) (hx : 0 < xs.length) : b < w.heap.size :=
  block_lt_of_cell (h 0 _ (List.getElem?_eq_getElem hx))
theorem Sl.kept {D S : Nat → Prop} {w w' : World} {a : Option Addr} {n c : Nat} {xs : List Value} {size : Nat} (h : Sl D w a n c xs size) (hz : 0 < size) (hk : Kept S w w') (hd : ∀ b, b < w.heap.size → D b → ¬ S b) : Sl D w' a n c xs size := by
  obtain ⟨h1, h2, h3, h4, h5⟩ := h
  refine ⟨h1, h2, h3, h4, fun hn => ?_⟩
  obtain ⟨b, off, hD, ha, hr⟩ := h5 hn
  have hb := range_lt hr (by rw [h1]; exact Nat.mul_pos hn hz)
  exact ⟨b, off, hD, ha, fun j v hv => (hk.cell hb (hd b hb hD)).trans (hr j v hv)⟩
theorem Sl.dom {D D' : Nat → Prop} {w : World} {a : Option Addr} {n c : Nat} {xs : List Value} {size : Nat} (h : Sl D w a n c xs size) (hd : ∀ b, D b → D' b) : Sl D' w a n c xs size := by
  obtain ⟨h1, h2, h3, h4, h5⟩ := h
  refine ⟨h1, h2, h3, h4, fun hn => ?_⟩
  obtain ⟨b, off, hD, ha, hr⟩ := h5 hn
  exact ⟨b, off, hd b hD, ha, hr⟩
theorem Sl.empty (D : Nat → Prop) (w : World) (a : Option Addr) (c : Nat) (size : Nat) (hc : c ≤ maxLen) (ha : a = none → c = 0) : Sl D w a 0 c [] size :=
  ⟨by simp, Nat.zero_le _, hc, ha, fun h => absurd h (by omega)⟩
theorem Own.sl {w : World} {e : TypeId} {size : Nat} {k : Option Nat} {v : Value} {n : Nat} {xs : List Value} (h : Own w e size k v n xs) : ∃ a c, v = .slice a n c ∧ Sl (fun b => k = some b) w a n c xs size := by
  rcases h.2 with ⟨rfl, rfl, rfl⟩ | ⟨g, cap, cur, rfl, rfl, hg, hn, hm, hsz, htk⟩
  · have : xs = [] := List.eq_nil_of_length_eq_zero (by simpa using h.1)
    subst this
    exact ⟨none, 0, rfl, Sl.empty _ _ _ _ _ (Nat.zero_le _) (fun _ => rfl)⟩
  · refine ⟨_, cap, rfl, h.1, hn, hm, (fun hh => by cases hh), fun hp => ⟨g, 0, rfl, rfl, fun j u hu => ?_⟩⟩
    rw [Nat.zero_add, cell_of_row w g j cur _ _ hg]
    rw [← htk, List.getElem?_take] at hu
    split at hu
    · simpa using hu
    · cases hu
theorem Sl.src {P : Program} {D : Nat → Prop} {w : World} {a : Option Addr} {n c : Nat} {xs : List Value} {size : Nat} {tx e' : TypeId} (h : Sl D w a n c xs size) (hk : P.underlying tx = some (.slice e')) (h1 : ∀ u ∈ xs, u.oneCell' = true) :
    Src P size tx (.slice a n c) n xs w := by
  obtain ⟨hl, hn, hm, ha, hr⟩ := h
  cases a with
  | none =>
    have := ha rfl
    subst this
    obtain rfl : n = 0 := by omega
    obtain rfl : xs = [] := List.eq_nil_of_length_eq_zero (by simpa using hl)
    exact Src.ofNil w hk 0
  | some ad =>
    refine Src.ofSlice w hk ad n c xs hl (fun j u hu => ?_) h1
    by_cases h0 : n = 0
    · subst h0
      obtain rfl : xs = [] := List.eq_nil_of_length_eq_zero (by simpa using hl)
      simp at hu
    · obtain ⟨b, off, _, hab, hcell⟩ := hr (by omega)
      cases hab
      rw [Addr.add_mid]
      exact hcell j u hu
section
variable {P : Program} (w : World)
theorem run_append_room2 (t tx ty e : TypeId) (i : TypeInfo) (ht : P.underlying t = some (.slice e)) (hi : P.info? e = some i)
    (g sLen sCap : Nat) (cur : Array Value) (hg : w.heap[g]? = some (.cells cur e (0, 0)))
    (x : Value) (m : Nat) (news : List Value) (hs : Src P i.size tx x m news w) (hroom : sLen + m ≤ sCap) (hfit : sLen * i.size + news.length ≤ cur.size) :
    (Builtin.append_ #[t, tx] ty #[.slice (some ⟨g, 0, none⟩) sLen sCap, x]).run P w =
      .ok (.slice (some ⟨g, 0, none⟩) (sLen + m) sCap) (w.setRow g (cur.toList.take (sLen * i.size) ++ news ++ cur.toList.drop (sLen * i.size + news.length)).toArray) := by
  have hst := run_storeCells_at P g (sLen * i.size) e news 0 cur w hg (by simpa using hfit) hs.one
  simp only [Nat.add_zero] at hst
  rcases hs.kind with ⟨e', hk⟩ | hk <;> simp [Builtin.append_, run_underlying ht, run_underlying hk, sizeOf, typeInfo, hi, hs.len, hroom, hs.cells, Addr.add_lit, hst]
/-- append onto a row of one's own, of whatever source: the row stays in its block or moves to a new one -/
theorem run_append_any (t tx ty e : TypeId) (i : TypeInfo) (z : Value) (size bytes : Nat) (ht : P.underlying t = some (.slice e)) (hi : P.info? e = some i) (hz : i.zero = some z)
    (hsize : i.size = size) (hby : i.bytes = bytes) (hzs : z.cells.size = size) (k : Option Nat) (v : Value) (n : Nat) (xs : List Value) (hown : Own w e size k v n xs)
    (x : Value) (m : Nat) (news : List Value) (hs : Src P size tx x m news w) (h63 : n + m ≤ maxLen) (hbytes : (n + m) * bytes ≤ 140737488355328) :
    ∃ k' v' w', (Builtin.append_ #[t, tx] ty #[v, x]).run P w = .ok v' w' ∧ Own w' e size k' v' (n + m) (xs ++ news) ∧ (∀ j, k' = some j → k = some j ∨ w.heap.size ≤ j) ∧ Kept (fun j => k = some j) w w' ∧ (0 < m → k' ≠ none) := by
  subst hsize
  subst hby
  have hsmall : n + m ≤ 9223372036854775807 := by simp only [maxLen] at h63; omega
  have hlen : (xs ++ news).length = (n + m) * i.size := by rw [List.length_append, hown.1, hs.newsLen, Nat.add_mul]
  have grows : ∀ (b : Option Addr) (old : Nat), v = .slice b n old → old < n + m → (Builtin.firstCells i.size n (.slice b n old)).run P w.drew = .ok xs.toArray w.drew → ∃ k' v' w', (Builtin.append_ #[t, tx] ty #[v, x]).run P w = .ok v' w' ∧ Own w' e i.size k' v' (n + m) (xs ++ news) ∧ (∀ j, k' = some j → k = some j ∨ w.heap.size ≤ j) ∧ Kept (fun j => k = some j) w w' ∧ (0 < m → k' ≠ none) := by
    intro b old hv ho hf
    subst hv
    have hr := run_append_grow_src (P := P) w t tx ty e i z ht hi hz b n old xs hf x m news hs ho (by omega) (growslice_fits (by omega) hbytes)
    have hge := grownCap_ge w (n + m) old e
    have hcm : grownCap w (n + m) old e ≤ maxLen := grownCap_le_maxLen w (n + m) old e h63
    refine ⟨some w.heap.size, _, _, hr, ⟨hlen, .inr ⟨w.heap.size, _, _, rfl, rfl, heap_alloc_new w.drew _, hge, hcm, ?_, ?_⟩⟩, ?_, ?_, ?_⟩
    · simp only [Array.size_append, List.size_toArray, size_zeroCells, hzs, hlen, ← Nat.add_mul]
      congr 1
      omega
    · simp only [Array.toList_append]
      rw [← hlen]
      exact List.take_left
    · intro j hj; cases hj; exact .inr (Nat.le_refl _)
    · exact (Kept.refl _ w).drew.alloc _
    · intro _ h; cases h
  rcases hown.2 with ⟨rfl, rfl, rfl⟩ | ⟨g, cap, cur, rfl, rfl, hg, hnc, hcm, hcs, htake⟩
  · have hx : xs = [] := List.eq_nil_of_length_eq_zero (by simpa using hown.1)
    subst hx
    by_cases hm : m = 0
    · subst hm
      have hn : news = [] := List.eq_nil_of_length_eq_zero (by simpa using hs.newsLen)
      subst hn
      refine ⟨none, .slice none 0 0, w, ?_, Own.nil w e i.size, (fun _ h => by cases h), Kept.refl _ _, fun h => absurd h (by omega)⟩
      have hc := hs.cells
      rcases hs.kind with ⟨e', hk⟩ | hk <;> simp [Builtin.append_, run_underlying ht, run_underlying hk, sizeOf, typeInfo, hi, hs.len, hc]
    · exact grows none 0 rfl (by omega) (run_firstCells_none w.drew i.size 0 0 0)
  · by_cases hroom : n + m ≤ cap
    · have hfit : n * i.size + news.length ≤ cur.size := by rw [hs.newsLen, hcs, ← Nat.add_mul]; exact Nat.mul_le_mul_right _ hroom
      have hr := run_append_room2 (P := P) w t tx ty e i ht hi g n cap cur hg x m news hs hroom hfit
      refine ⟨some g, _, _, hr, ⟨hlen, .inr ⟨g, cap, _, rfl, rfl, setRow_heap w g cur _ e _ hg, hroom, hcm, ?_, ?_⟩⟩, ?_, ?_, ?_⟩
      · simp only [List.size_toArray, List.length_append, List.length_take, List.length_drop, Array.length_toList]
        omega
      · rw [htake, ← hlen]
        exact List.take_left
      · intro j hj; cases hj; exact .inl rfl
      · exact (Kept.refl (fun j => some g = some j) w).setRow (fun _ => rfl) _
      · intro _ h; cases h
    · obtain ⟨a, c, hv, hsl⟩ := hown.sl
      cases hv
      refine grows _ cap rfl (by omega) (run_firstCells_some w.drew i.size n ⟨g, 0, none⟩ n cap xs hown.1 ?_)
      intro j u hu
      have h0 : 0 < n := by
        rcases Nat.eq_zero_or_pos n with rfl | h
        · have := hown.1
          have := (List.getElem?_eq_some_iff.1 hu).1
          omega
        · exact h
      obtain ⟨b, off, _, hab, hcell⟩ := hsl.2.2.2.2 h0
      cases hab
      rw [Addr.add_mid]
      exact hcell j u hu
theorem wpList_append_any {ops : Array Oper} {rest : List Oper} {o : Oper} {a : Act} {Q : Exit → Act → World → Prop} (hgd : o.guard = none) (s x : Operand) (t tx : TypeId)
    (ho : o.op = .call { callee := .builtin .append, args := #[s, x], argTypes := #[t, tx] })
    (e : TypeId) (i : TypeInfo) (z : Value) (size bytes : Nat) (ht : P.underlying t = some (.slice e)) (hi : P.info? e = some i) (hz : i.zero = some z)
    (hsize : i.size = size) (hby : i.bytes = bytes) (hzs : z.cells.size = size) (k : Option Nat) (v : Value) (n : Nat) (xs : List Value) (hv : a.eval s = v) (hown : Own w e size k v n xs)
    (m : Nat) (news : List Value) (hs : Src P size tx (a.eval x) m news w) (h63 : n + m ≤ maxLen) (hbytes : (n + m) * bytes ≤ 140737488355328)
    (h : ∀ k' v' w', Own w' e size k' v' (n + m) (xs ++ news) → (∀ j, k' = some j → k = some j ∨ w.heap.size ≤ j) → Kept (fun j => k = some j) w w' → (0 < m → k' ≠ none) → wpList P ops Q rest (a.put o.dst v') w') : wpList P ops Q (o :: rest) a w := by
  obtain ⟨k', v', w', hr, h2, h3, h4, h5⟩ := run_append_any (P := P) w t tx o.type e i z size bytes ht hi hz hsize hby hzs k v n xs hown (a.eval x) m news hs h63 hbytes
  refine wpList_plain hgd fun K hK => ?_
  unfold Oper.wp execOp
  simp only [ho, resolve, invoke, builtin, Sem.run_bind, Sem.run_pure, Result.andThen_ok, List.map_toArray, List.map_cons, List.map_nil, hv, hr]
  exact hK _ _ (h k' v' w' h2 h3 h4 h5)
end
end Go.Proofs.Ytfgmhidgkemfoaa
namespace Go.Proofs.Ytfgmhidgkemfoaa
/-- the groups of 7 bits of an unsigned number -/
def encU (n : Nat) : List UInt8 := if h : n < 128 then [UInt8.ofNat n] else UInt8.ofNat (128 + n % 128) :: encU (n / 128)
termination_by n
decreasing_by omega
theorem encU_small {n : Nat} (h : n < 128) : encU n = [UInt8.ofNat n] := by rw [encU, dif_pos h]
theorem encU_big {n : Nat} (h : ¬ n < 128) : encU n = UInt8.ofNat (128 + n % 128) :: encU (n / 128) := by rw [encU, dif_neg h]
theorem encU_len_pos (n : Nat) : 0 < (encU n).length := by
  by_cases h : n < 128
  · rw [encU_small h]; simp
  · rw [encU_big h]; simp
theorem encU_len (i : Nat) : ∀ n : Nat, n < 128 ^ (i + 1) → (encU n).length ≤ i + 1 := by
  induction i with
  | zero => intro n h; rw [encU_small (by simpa using h)]; simp
  | succ i ih =>
    intro n h
    by_cases hn : n < 128
    · rw [encU_small hn]; simp
    · rw [encU_big hn, List.length_cons]
      have := ih (n / 128) (by rw [Nat.div_lt_iff_lt_mul (by omega)]; rw [Nat.pow_succ] at h; exact h)
      omega
theorem encU_len10 (n : Nat) (h : n < 18446744073709551616) : (encU n).length ≤ 10 := encU_len 9 n (Nat.lt_of_lt_of_le h (by decide))
/-- what reading a number from some bytes gives, i groups having been read with the value acc: the value, the size, the error -/
def fnum : List UInt8 → Nat → Nat → Nat × Nat × Nat
  | [], _, _ => (0, 0, 6)
  | b :: r, i, acc =>
    if i = 9 ∧ 1 < b.toNat then (0, 0, 7)
    else if 128 ≤ b.toNat then fnum r (i + 1) (acc + b.toNat % 128 * 128 ^ i)
    else if b.toNat = 0 ∧ 0 < i then (0, 0, 7)
    else (acc + b.toNat % 128 * 128 ^ i, i + 1, 0)
theorem toNat_ofNat (n : Nat) (h : n < 256) : (UInt8.ofNat n).toNat = n := by simp; omega
theorem pow_le_pow128 {i j : Nat} (h : i ≤ j) : 128 ^ i ≤ 128 ^ j := Nat.pow_le_pow_right (by omega) h
theorem pow9 : 128 ^ 9 = 9223372036854775808 := by decide
theorem fnum_enc : ∀ (n : Nat) (r : List UInt8) (i acc : Nat), n * 128 ^ i < 18446744073709551616 → (0 < i → 0 < n) → i ≤ 9 → fnum (encU n ++ r) i acc = (acc + n * 128 ^ i, i + (encU n).length, 0) := by
  intro n
  induction n using Nat.strongRecOn with
  | _ n ih =>
    intro r i acc hb hp hi
    by_cases hn : n < 128
    · rw [encU_small hn, List.singleton_append, fnum, toNat_ofNat n (by omega)]
      have h1 : ¬ (i = 9 ∧ 1 < n) := by
        rintro ⟨rfl, h⟩
        rw [pow9] at hb
        omega
      rw [if_neg h1, if_neg (by omega), if_neg (by omega), Nat.mod_eq_of_lt hn]
      rfl
    · rw [encU_big hn, List.cons_append, fnum, toNat_ofNat _ (by omega)]
      have h1 : ¬ (i = 9 ∧ 1 < 128 + n % 128) := by
        rintro ⟨rfl, h⟩
        rw [pow9] at hb
        omega
      have e : n / 128 * 128 ^ (i + 1) + n % 128 * 128 ^ i = n * 128 ^ i := by
        rw [Nat.pow_succ, ← Nat.mul_assoc, Nat.mul_right_comm, ← Nat.add_mul, Nat.div_add_mod']
      have hi2 : i + 1 ≤ 9 := by
        rcases Nat.lt_or_ge i 9 with h | h
        · exact h
        · exfalso
          have := pow_le_pow128 h
          rw [pow9] at this
          have : 128 * 9223372036854775808 ≤ n * 128 ^ i := Nat.mul_le_mul (by omega) this
          omega
      have h2 : (128 + n % 128) % 128 = n % 128 := by omega
      rw [if_neg h1, if_pos (by omega), h2, ih (n / 128) (by omega) r (i + 1) _ (by omega) (fun _ => by omega) hi2]
      rw [List.length_cons, Nat.add_assoc acc, Nat.add_comm (n % 128 * 128 ^ i), e, Nat.add_right_comm i, Nat.add_assoc i]
/-- what is read without an error is an encoding -/
theorem fnum_ok : ∀ (l : List UInt8) (i acc v k : Nat), fnum l i acc = (v, k, 0) → i ≤ 9 → ∃ n r, l = encU n ++ r ∧ v = acc + n * 128 ^ i ∧ k = i + (encU n).length ∧ n * 128 ^ i < 18446744073709551616 ∧ (0 < i → 0 < n) := by
  intro l
  induction l with
  | nil => intro i acc v k h; simp [fnum] at h
  | cons b r ih =>
    intro i acc v k h hi
    rw [fnum] at h
    have hb := b.toNat_lt
    by_cases h1 : i = 9 ∧ 1 < b.toNat
    · rw [if_pos h1] at h; simp at h
    rw [if_neg h1] at h
    by_cases h2 : 128 ≤ b.toNat
    · rw [if_pos h2] at h
      have hi2 : i + 1 ≤ 9 := by omega
      obtain ⟨n, r', rfl, rfl, rfl, hn, hp⟩ := ih (i + 1) _ v k h hi2
      have hp' := hp (by omega)
      have e : (b.toNat % 128 + n * 128) * 128 ^ i = b.toNat % 128 * 128 ^ i + n * 128 ^ (i + 1) := by
        rw [Nat.add_mul, Nat.pow_succ, Nat.mul_assoc, Nat.mul_comm 128]
      refine ⟨b.toNat % 128 + n * 128, r', ?_, ?_, ?_, ?_, fun _ => by omega⟩
      · rw [encU_big (n := b.toNat % 128 + n * 128) (by omega), show (b.toNat % 128 + n * 128) / 128 = n by omega, show 128 + (b.toNat % 128 + n * 128) % 128 = b.toNat by omega]
        simp
      · rw [e, Nat.add_assoc]
      · rw [encU_big (n := b.toNat % 128 + n * 128) (by omega), show (b.toNat % 128 + n * 128) / 128 = n by omega, List.length_cons]
        omega
      · have hm : b.toNat % 128 * 128 ^ i < 128 ^ (i + 1) := by
          rw [Nat.pow_succ, Nat.mul_comm (128 ^ i)]
          exact Nat.mul_lt_mul_of_pos_right (by omega) (Nat.pow_pos (by omega))
        rw [e]
        have hd : (18446744073709551616 : Nat) = 2 ^ (64 - 7 * (i + 1)) * 128 ^ (i + 1) := by
          rw [show (128 : Nat) = 2 ^ 7 by rfl, ← Nat.pow_mul, ← Nat.pow_add, show 64 - 7 * (i + 1) + 7 * (i + 1) = 64 by omega]
        rw [hd] at hn ⊢
        have hn2 := Nat.lt_of_mul_lt_mul_right hn
        calc  b.toNat % 128 * 128 ^ i + n * 128 ^ (i + 1) < 128 ^ (i + 1) + n * 128 ^ (i + 1) := by omega
          _ = (n + 1) * 128 ^ (i + 1) := by rw [Nat.add_mul, Nat.one_mul, Nat.add_comm]
          _ ≤ 2 ^ (64 - 7 * (i + 1)) * 128 ^ (i + 1) := Nat.mul_le_mul_right _ hn2
    · rw [if_neg h2] at h
      by_cases h3 : b.toNat = 0 ∧ 0 < i
      · rw [if_pos h3] at h; simp at h
      rw [if_neg h3] at h
      simp only [Prod.mk.injEq, and_true] at h
      obtain ⟨rfl, rfl⟩ := h
      refine ⟨b.toNat, r, ?_, ?_, ?_, ?_, fun _ => by omega⟩
      · rw [encU_small (by omega)]; simp
      · rw [Nat.mod_eq_of_lt (by omega)]
      · rw [encU_small (by omega)]; rfl
      · rcases Nat.lt_or_ge i 9 with h | h
        · have h8 : 128 ^ i ≤ 128 ^ 8 := pow_le_pow128 (by omega)
          have : b.toNat * 128 ^ i ≤ 127 * 128 ^ 8 := Nat.mul_le_mul (by omega) h8
          have e8 : (127 : Nat) * 128 ^ 8 < 18446744073709551616 := by decide
          omega
        · obtain rfl : i = 9 := by omega
          rw [pow9]
          omega
/-- of a proper prefix of an encoding nothing is read -/
theorem fnum_cut : ∀ (n : Nat) (p : List UInt8) (i acc : Nat), n * 128 ^ i < 18446744073709551616 → i ≤ 9 → (∃ q, q ≠ [] ∧ encU n = p ++ q) → fnum p i acc = (0, 0, 6) := by
  intro n
  induction n using Nat.strongRecOn with
  | _ n ih =>
    intro p i acc hb hi hq
    obtain ⟨q, hq, he⟩ := hq
    cases p with
    | nil => rfl
    | cons x p =>
      by_cases hn : n < 128
      · rw [encU_small hn] at he
        simp at he
        exact (hq he.2.2).elim
      · rw [encU_big hn] at he
        simp only [List.cons_append, List.cons.injEq] at he
        obtain ⟨rfl, he⟩ := he
        have hi2 : i + 1 ≤ 9 := by
          rcases Nat.lt_or_ge i 9 with h | h
          · exact h
          · exfalso
            have := pow_le_pow128 h
            rw [pow9] at this
            have : 128 * 9223372036854775808 ≤ n * 128 ^ i := Nat.mul_le_mul (by omega) this
            omega
        have e : n / 128 * 128 ^ (i + 1) ≤ n * 128 ^ i := by
          rw [Nat.pow_succ, ← Nat.mul_assoc, Nat.mul_right_comm]
          exact Nat.mul_le_mul_right _ (by omega)
        rw [fnum, toNat_ofNat _ (by omega), if_neg (by omega), if_pos (by omega)]
        exact ih (n / 128) (by omega) p (i + 1) _ (by omega) hi2 ⟨q, hq, he⟩
theorem fnum_err (l : List UInt8) : ∀ i acc : Nat, (fnum l i acc).2.2 = 0 ∨ (fnum l i acc = (0, 0, 6)) ∨ fnum l i acc = (0, 0, 7) := by
  induction l with
  | nil => intro i acc; exact .inr (.inl rfl)
  | cons b r ih =>
    intro i acc
    rw [fnum]
    split
    · exact .inr (.inr rfl)
    · split
      · exact ih _ _
      · split
        · exact .inr (.inr rfl)
        · exact .inl rfl
/-- the number for which an unsigned number stands, and back -/
def zig (n : Int) : Nat := if n < 0 then (2 * (-(n + 1)) + 1).toNat else (2 * n).toNat
def zag (u : Nat) : Int := if u % 2 = 0 then ((u / 2 : Nat) : Int) else -((u / 2 : Nat) : Int) - 1
theorem zag_zig (n : Int) : zag (zig n) = n := by unfold zag zig; split <;> split <;> omega
theorem zig_zag (u : Nat) : zig (zag u) = u := by unfold zag zig; split <;> split <;> omega
theorem zig_lt (n : Int) (h1 : -9223372036854775808 ≤ n) (h2 : n ≤ 9223372036854775807) : zig n < 18446744073709551616 := by unfold zig; split <;> omega
theorem zag_bd (u : Nat) (h : u < 18446744073709551616) : -9223372036854775808 ≤ zag u ∧ zag u ≤ 9223372036854775807 := by unfold zag; split <;> omega
def encI (n : Int) : List UInt8 := encU (zig n)
def encB (b : Bool) : List UInt8 := if b then [1] else [0]
def encT (s : List UInt8) : List UInt8 := encU s.length ++ s
def encL (l : List Int) : List UInt8 := encU l.length ++ l.flatMap encI
end Go.Proofs.Ytfgmhidgkemfoaa
namespace Go.Proofs.Ytfgmhidgkemfoaa
open Go.RowKit
theorem heap_alloc_if (w : World) (o : Obj) (i : Nat) : (w.alloc o).heap[i]? = if i = w.heap.size then some o else w.heap[i]? := by
  show (w.heap.push o)[i]? = _
  rw [Array.getElem?_push]
theorem size_alloc1 (w : World) (o : Obj) : (w.alloc o).heap.size = w.heap.size + 1 := by
  show (w.heap.push o).size = _
  simp
theorem heap_new {w : World} {o : Obj} {g : Nat} (h : g = w.heap.size) : (w.alloc o).heap[g]? = some o := by
  rw [heap_alloc_if, if_pos h]
theorem heap_old {w : World} {o o' : Obj} {g : Nat} (h : w.heap[g]? = some o) : (w.alloc o').heap[g]? = some o := by
  have hl : g < w.heap.size := by
    by_cases hl : g < w.heap.size
    · exact hl
    · rw [Array.getElem?_eq_none (by omega)] at h; cases h
  rw [heap_alloc_if, if_neg (by omega), h]
theorem heap_lt {w : World} {o : Obj} {g : Nat} (h : w.heap[g]? = some o) : g < w.heap.size := by
  by_cases hl : g < w.heap.size
  · exact hl
  · rw [Array.getElem?_eq_none (by omega)] at h; cases h
def vals (l : List UInt8) : List Value := l.map fun x => Value.int .u8 (x.toNat : Int)
theorem vals_len (l : List UInt8) : (vals l).length = l.length := by simp [vals]
theorem vals_app (l m : List UInt8) : vals (l ++ m) = vals l ++ vals m := by simp [vals]
theorem vals_one (l : List UInt8) : ∀ u ∈ vals l, u.oneCell' = true := by simp [vals, Value.oneCell']
theorem vals_str (s : ByteArray) : byteCells s = vals s.data.toList := rfl
def ivals (l : List Int) : List Value := l.map (Value.int .i64)
theorem ivals_len (l : List Int) : (ivals l).length = l.length := by simp [ivals]
theorem ivals_app (l m : List Int) : ivals (l ++ m) = ivals l ++ ivals m := by simp [ivals]
theorem ivals_one (l : List Int) : ∀ u ∈ ivals l, u.oneCell' = true := by simp [ivals, Value.oneCell']
theorem info5 : (Try.prog.info? 5).map (fun i => (i.zero, i.size, i.bytes)) = some (some (.int .u8 0), 1, 1) := by kernel_rfl
theorem info3 : (Try.prog.info? 3).map (fun i => (i.zero, i.size, i.bytes)) = some (some (.int .i64 0), 1, 8) := by kernel_rfl
theorem i64_id (n : Int) (h0 : -9223372036854775808 ≤ n) (h1 : n ≤ 9223372036854775807) : IntKind.i64.wrap n = n := by
  rw [IntKind.wrap_i64]; omega
/-- a slice of bytes -/
def Bs (D : Nat → Prop) (w : World) (a : Option Addr) (n c : Nat) (l : List UInt8) : Prop := l.length = n ∧ Sl D w a n c (vals l) 1
/-- a slice of numbers -/
def Is (D : Nat → Prop) (w : World) (a : Option Addr) (n c : Nat) (l : List Int) : Prop := l.length = n ∧ Sl D w a n c (ivals l) 1
theorem Bs.kept {D S : Nat → Prop} {w w' : World} {a : Option Addr} {n c : Nat} {l : List UInt8} (h : Bs D w a n c l) (hk : Kept S w w') (hd : ∀ b, b < w.heap.size → D b → ¬ S b) : Bs D w' a n c l := ⟨h.1, h.2.kept (by decide) hk hd⟩
theorem Is.kept {D S : Nat → Prop} {w w' : World} {a : Option Addr} {n c : Nat} {l : List Int} (h : Is D w a n c l) (hk : Kept S w w') (hd : ∀ b, b < w.heap.size → D b → ¬ S b) : Is D w' a n c l := ⟨h.1, h.2.kept (by decide) hk hd⟩
theorem Bs.dom {D D' : Nat → Prop} {w : World} {a : Option Addr} {n c : Nat} {l : List UInt8} (h : Bs D w a n c l) (hd : ∀ b, D b → D' b) : Bs D' w a n c l := ⟨h.1, h.2.dom hd⟩
theorem Is.dom {D D' : Nat → Prop} {w : World} {a : Option Addr} {n c : Nat} {l : List Int} (h : Is D w a n c l) (hd : ∀ b, D b → D' b) : Is D' w a n c l := ⟨h.1, h.2.dom hd⟩
/-- a writer in block g has collected l, in block k -/
def Wr (w : World) (g : Nat) (k : Option Nat) (l : List UInt8) : Prop :=
  ∃ v, w.heap[g]? = some (.cells #[v] 75 (0, 0)) ∧ Own w 5 1 k v l.length (vals l) ∧ k ≠ some g
/-- from one world of a writer to a later one: nothing but its own blocks has changed, and its row moves to new blocks only -/
structure Link (g : Nat) (k : Option Nat) (w : World) (k' : Option Nat) (w' : World) : Prop where
  fresh : ∀ j, k' = some j → k = some j ∨ w.heap.size ≤ j
  kept : Kept (fun j => j = g ∨ k = some j) w w'
theorem Link.trans {g : Nat} {k k1 k2 : Option Nat} {w w1 w2 : World} (h : Link g k w k1 w1) (h2 : Link g k1 w1 k2 w2) : Link g k w k2 w2 := by
  refine ⟨fun j hj => ?_, h.kept.trans h2.kept (fun j hj ht => ?_)⟩
  · rcases h2.fresh j hj with e | e
    · exact h.fresh j e
    · exact .inr (Nat.le_trans h.kept.size e)
  · rcases ht with e | e
    · exact .inl e
    · rcases h.fresh j e with e | e
      · exact .inr e
      · omega
theorem Link.refl (g : Nat) (k : Option Nat) (w : World) : Link g k w k w := ⟨fun _ h => .inl h, Kept.refl _ _⟩
theorem Link.of_below {g : Nat} {k : Option Nat} {w w' : World} (h : Below w.heap.size w w') : Link g k w k w' := ⟨fun _ h => .inl h, Kept.of_below _ h⟩
/-- what a method of a writer does -/
def Wrote (g : Nat) (k : Option Nat) (w : World) (l' : List UInt8) (w' : World) : Prop := ∃ k', Wr w' g k' l' ∧ Link g k w k' w'
theorem Wr.lt {w : World} {g : Nat} {k : Option Nat} {l : List UInt8} (h : Wr w g k l) : g < w.heap.size := by
  obtain ⟨v, hg, _⟩ := h
  exact (Array.getElem?_eq_some_iff.1 hg).1
theorem Wr.kept {S : Nat → Prop} {w w' : World} {g : Nat} {k : Option Nat} {l : List UInt8} (h : Wr w g k l) (hk : Kept S w w') (hg : ¬ S g) (hs : ∀ j, k = some j → ¬ S j) : Wr w' g k l := by
  obtain ⟨v, h1, h2, h3⟩ := h
  exact ⟨v, hk.heap h1 hg, h2.kept hk hs, h3⟩
theorem Wrote.refl {w : World} {g : Nat} {k : Option Nat} {l : List UInt8} (h : Wr w g k l) : Wrote g k w l w := ⟨k, h, Link.refl _ _ _⟩
theorem Wrote.after {g : Nat} {k k1 : Option Nat} {w w1 w2 : World} {l2 : List UInt8} (h : Link g k w k1 w1) (h2 : Wrote g k1 w1 l2 w2) : Wrote g k w l2 w2 := by
  obtain ⟨k2, hw2, hl2⟩ := h2
  exact ⟨k2, hw2, h.trans hl2⟩
theorem one_set {w : World} {g : Nat} {v u : Value} {t : TypeId} (hg : w.heap[g]? = some (.cells #[v] t (0, 0))) : (w.setCell ⟨g, 0, none⟩ u).heap[g]? = some (.cells #[u] t (0, 0)) := by
  rw [heap_setCell_same w g 0 _ _ _ hg]
  rfl
end Go.Proofs.Ytfgmhidgkemfoaa
namespace Go.Proofs.Ytfgmhidgkemfoaa
open Go.RowKit
set_option maxRecDepth 100000 in
set_option maxHeartbeats 400000 in
theorem put_any (g : Nat) (k : Option Nat) (l : List UInt8) (x : UInt8) (X : Int) (w : World) (hW : Wr w g k l) (hl : l.length ≤ 1000000000000) (hX : X = (x.toNat : Int)) :
    Calls Try.prog 60 #[.pointer (some ⟨g, 0, none⟩), .int .u8 X] w fun e w' => e = .returned (.tuple #[]) ∧ Wrote g k w (l ++ [x]) w' := by
  obtain ⟨i0, hi, hz0, hz1, hz2⟩ := info_parts info5
  obtain ⟨v, hg, hO, hk⟩ := hW
  have h0 : w.cell? ⟨g, 0, none⟩ = some v := by rw [cell_of_row w g 0 _ _ _ hg]; rfl
  have hb : g < w.heap.size := (Array.getElem?_eq_some_iff.1 hg).1
  have HX := Lib.hid hX
  have HG := Lib.hid hg
  have HO := Lib.hid hO
  have HK := Lib.hid hk
  clear hX hg hO hk
  go_enter Try.func60, Try.ntmps60
  go_wp2_with (at_builtin; refine wpList_append_any _ rfl (.tmp 8) (.tmp 10) 71 71 rfl 5 i0 (.int .u8 0) 1 1 Try.underlying71 hi hz0 hz1 hz2 rfl k v l.length (vals l) rfl (HO.out.kept ((Kept.refl (fun _ => False) w).alloc _) (fun _ _ h => h)) 1 [.int .u8 X] (Src.ofSlice _ Try.underlying71 ⟨w.heap.size, 0, none⟩ 1 1 _ rfl ?c1 ?c2) (by unfold maxLen; omega) (by omega) ?_)
  case c1 => intro j u hj; match j, hj with | 0, hj => simp at hj; subst hj; simp [Addr.add]
  case c2 => intro u hu; simp at hu; subst hu; rfl
  intro k' v' w' ho hf hK hn
  obtain ⟨a, c, rfl, -⟩ := ho.sl
  have hK2 : Kept (fun j => k = some j) w w' := ((Kept.refl (fun j => k = some j) w).alloc _).trans hK (fun _ _ h => h)
  have hg' := hK2.heap HG.out HK.out
  have c0 : w'.cell? ⟨g, 0, none⟩ = some v := by rw [cell_of_row w' g 0 _ _ _ hg']; rfl
  have f0 : w'.frozen? ⟨g, 0, none⟩ = false := frozen_of_row w' g 0 _ _ hg'
  have R : Wrote g k w (l ++ [x]) (w'.setCell ⟨g, 0, none⟩ (.slice a (l.length + 1) c)) := by
    refine ⟨k', ⟨_, one_set hg', ?_, ?_⟩, ?_, (hK2.mono (fun _ _ h => .inr h)).setCell (fun _ => .inl rfl) _⟩
    · rw [vals_app, List.length_append]
      rw [HX.out] at ho
      exact ho.kept ((Kept.refl (fun j => j = g) w').setCell (fun _ => rfl) _) (fun j hj e => by
        subst e
        rcases hf _ hj with h | h
        · exact HK.out h
        · omega)
    · intro e
      rcases hf _ e with h | h
      · exact HK.out h
      · omega
    · intro j hj
      rcases hf j hj with h | h
      · exact .inl h
      · exact .inr (by omega)
  have HR := Lib.hid R
  clear R hg' hK2 hn hK hf ho h0
  go_wp2
  go_end0
  exact ⟨rfl, HR.out⟩
set_option maxRecDepth 100000 in
set_option maxHeartbeats 400000 in
theorem putText_any (g : Nat) (k : Option Nat) (l : List UInt8) (s : ByteArray) (w : World) (hW : Wr w g k l) (hl : l.length ≤ 1000000000000) (hs : s.size ≤ 100000000000000) :
    Calls Try.prog 61 #[.pointer (some ⟨g, 0, none⟩), .string s] w fun e w' => e = .returned (.tuple #[]) ∧ Wrote g k w (l ++ s.data.toList) w' := by
  obtain ⟨i0, hi, hz0, hz1, hz2⟩ := info_parts info5
  obtain ⟨v, hg, hO, hk⟩ := hW
  have h0 : w.cell? ⟨g, 0, none⟩ = some v := by rw [cell_of_row w g 0 _ _ _ hg]; rfl
  have HG := Lib.hid hg
  have HO := Lib.hid hO
  have HK := Lib.hid hk
  clear hg hO hk
  go_enter Try.func61, Try.ntmps61
  go_wp2_with (at_builtin; refine wpList_append_any _ rfl (.tmp 8) (.tmp 9) 71 9 rfl 5 i0 (.int .u8 0) 1 1 Try.underlying71 hi hz0 hz1 hz2 rfl k v l.length (vals l) rfl HO.out s.size (byteCells s) (Src.ofString _ Try.underlying9 s) (by unfold maxLen; omega) (by omega) ?_)
  intro k' v' w' ho hf hK hn
  obtain ⟨a, c, rfl, -⟩ := ho.sl
  have hg' := hK.heap HG.out HK.out
  have c0 : w'.cell? ⟨g, 0, none⟩ = some v := by rw [cell_of_row w' g 0 _ _ _ hg']; rfl
  have f0 : w'.frozen? ⟨g, 0, none⟩ = false := frozen_of_row w' g 0 _ _ hg'
  have R : Wrote g k w (l ++ s.data.toList) (w'.setCell ⟨g, 0, none⟩ (.slice a (l.length + s.size) c)) := by
    have hg2 := HG.out
    have hl2 := heap_lt hg2
    refine ⟨k', ⟨_, one_set hg', ?_, ?_⟩, hf, (hK.mono (fun _ _ h => .inr h)).setCell (fun _ => .inl rfl) _⟩
    · rw [vals_app, List.length_append, Array.length_toList]
      rw [vals_str] at ho
      exact ho.kept ((Kept.refl (fun j => j = g) w').setCell (fun _ => rfl) _) (fun j hj e => by
        subst e
        rcases hf _ hj with h | h
        · exact HK.out h
        · omega)
    · intro e
      rcases hf _ e with h | h
      · exact HK.out h
      · omega
  have HR := Lib.hid R
  clear R hg' hn hK hf ho h0
  go_wp2
  go_end0
  exact ⟨rfl, HR.out⟩
end Go.Proofs.Ytfgmhidgkemfoaa
namespace Go.Proofs.Ytfgmhidgkemfoaa
open Go.RowKit
theorem vals_u8 (n : Nat) (h : n < 256) : (n : Int) = ((UInt8.ofNat n).toNat : Int) := by rw [toNat_ofNat n h]
theorem encU_tail (l : List UInt8) (m : Nat) (h : ¬ m < 128) : (l ++ [UInt8.ofNat (128 + m % 128)]) ++ encU (m / 128) = l ++ encU m := by
  rw [encU_big h]; simp
theorem encU_end (l : List UInt8) (m : Nat) (h : m < 128) : l ++ [UInt8.ofNat m] = l ++ encU m := by rw [encU_small h]
/-- where the loop of Uint stands -/
def AtU (g : Nat) (k : Option Nat) (w : World) (L : List UInt8) (m : Nat) (wr : World) : Prop := ∃ l1, l1 ++ encU m = L ∧ Wrote g k w l1 wr
set_option maxRecDepth 100000 in
set_option maxHeartbeats 400000 in
theorem wuint_any (g : Nat) (k : Option Nat) (l : List UInt8) (n : Nat) (N : Int) (w : World) (hW : Wr w g k l) (hl : l.length ≤ 500000000000) (hn : n < 18446744073709551616) (hN : N = (n : Int)) :
    Calls Try.prog 37 #[.pointer (some ⟨g, 0, none⟩), .int .u64 N] w fun e w' => e = .returned (.tuple #[]) ∧ Wrote g k w (l ++ encU n) w' := by
  subst hN
  have HW := Lib.hid (Wrote.refl hW)
  have Hlen := Lib.hid (encU_len10 n hn)
  clear hW
  go_enter Try.func37, Try.ntmps37
  go_wp2
  go_loopw [1] (fun t wr => ∃ m : Nat, m < 18446744073709551616 ∧ t = .int .u64 (m : Int) ∧ AtU g k w (l ++ encU n) m wr) (fun t _ => (intOf t).toNat)
  case atStart => exact ⟨n, hn, rfl, l, rfl, HW.out⟩
  case round =>
    obtain ⟨m, hm, rfl, hA⟩ := hrel
    have HA := Lib.hid hA
    clear hA HW hn
    obtain ⟨l1, e1, hw1⟩ := HA.out
    have hlen1 : l1.length ≤ 1000000000000 := by
      have := congrArg List.length e1
      simp only [List.length_append] at this
      have := Hlen.out
      omega
    have He := Lib.hid e1
    have Hw := Lib.hid hw1
    clear e1 hw1 HA
    by_cases hlt : m < 128
    · obtain ⟨k1, hW1, hl1⟩ := Hw.out
      have HW1 := Lib.hid hW1
      have HL1 := Lib.hid hl1
      have Hm := Lib.hid (vals_u8 m (by omega))
      clear hW1 hl1
      go_wp2_with (go_at_call 60; refine (put_any g k1 l1 (UInt8.ofNat m) _ _ HW1.out hlen1 Hm.out).mono ?_; rintro e w2 ⟨rfl, hw2⟩; have H2 := Lib.hid hw2; clear hw2)
      go_end0
      refine ⟨rfl, ?_⟩
      have h2 := H2.out
      rw [encU_end l1 m hlt, He.out] at h2
      exact h2.after HL1.out
    · obtain ⟨k1, hW1, hl1⟩ := Hw.out
      have HW1 := Lib.hid hW1
      have HL1 := Lib.hid hl1
      have Hm := Lib.hid (vals_u8 (128 + m % 128) (by omega))
      clear hW1 hl1
      go_wp2_with (go_at_call 60; refine (put_any g k1 l1 (UInt8.ofNat (128 + m % 128)) _ _ HW1.out hlen1 (by rw [← Hm.out]; omega)).mono ?_; rintro e w2 ⟨rfl, hw2⟩; have H2 := Lib.hid hw2; clear hw2)
      go_roundw
      case rel => exact ⟨m / 128, by omega, by go_num, _, (encU_tail l1 m hlt).trans He.out, H2.out.after HL1.out⟩
      case measure => simp [intOf]; omega
end Go.Proofs.Ytfgmhidgkemfoaa
namespace Go.Proofs.Ytfgmhidgkemfoaa
open Go.RowKit
theorem zig_pos (n : Int) (h : 0 ≤ n) : 2 * n = ((zig n : Nat) : Int) := by unfold zig; rw [if_neg (by omega)]; omega
theorem zig_neg (n : Int) (h : n < 0) : 2 * (-(n + 1)) + 1 = ((zig n : Nat) : Int) := by unfold zig; rw [if_pos h]; omega
set_option maxRecDepth 100000 in
set_option maxHeartbeats 400000 in
theorem wbool_any (g : Nat) (k : Option Nat) (l : List UInt8) (b : Bool) (w : World) (hW : Wr w g k l) (hl : l.length ≤ 500000000000) :
    Calls Try.prog 116 #[.pointer (some ⟨g, 0, none⟩), .bool b] w fun e w' => e = .returned (.tuple #[]) ∧ Wrote g k w (l ++ encB b) w' := by
  have HW := Lib.hid hW
  clear hW
  cases b
  · go_enter Try.func116, Try.ntmps116
    go_wp2_with (go_at_call 60; refine (put_any g k l 0 _ _ HW.out (by omega) rfl).mono ?_; rintro e w2 ⟨rfl, hw2⟩; have H2 := Lib.hid hw2; clear hw2)
    go_end0
    exact ⟨rfl, H2.out⟩
  · go_enter Try.func116, Try.ntmps116
    go_wp2_with (go_at_call 60; refine (put_any g k l 1 _ _ HW.out (by omega) rfl).mono ?_; rintro e w2 ⟨rfl, hw2⟩; have H2 := Lib.hid hw2; clear hw2)
    go_end0
    exact ⟨rfl, H2.out⟩
set_option maxRecDepth 100000 in
set_option maxHeartbeats 400000 in
theorem wtext_any (g : Nat) (k : Option Nat) (l : List UInt8) (s : ByteArray) (w : World) (hW : Wr w g k l) (hl : l.length ≤ 400000000000) (hs : s.size ≤ 100000000000000) :
    Calls Try.prog 38 #[.pointer (some ⟨g, 0, none⟩), .string s] w fun e w' => e = .returned (.tuple #[]) ∧ Wrote g k w (l ++ encT s.data.toList) w' := by
  have HW := Lib.hid hW
  have HL := Lib.hid (encU_len10 s.size (by omega))
  clear hW
  go_enter Try.func38, Try.ntmps38
  go_wp2_with (first
    | (go_at_call 61; refine (putText_any g _ _ s _ W1.out (by have := HL.out; simp; omega) hs).mono ?_; rintro e w2 ⟨rfl, hw2⟩; have H2 := Lib.hid hw2; clear hw2)
    | (go_at_call 37; refine (wuint_any g k l s.size _ _ HW.out (by omega) (by omega) (by first | rfl | omega | (simp only [IntKind.wrap_u64]; omega))).mono ?_; rintro e w1 ⟨rfl, k1, hw1, hl1⟩; have W1 := Lib.hid hw1; have L1 := Lib.hid hl1; clear hw1 hl1))
  go_end0
  refine ⟨rfl, ?_⟩
  have h := H2.out.after L1.out
  rw [List.append_assoc] at h
  exact h
def Ok64 (l : List Int) : Prop := ∀ x ∈ l, -9223372036854775808 ≤ x ∧ x ≤ 9223372036854775807
theorem Is.cells {D : Nat → Prop} {w : World} {a : Option Addr} {n c : Nat} {l : List Int} (h : Is D w a n c l) (hn : 0 < n) : ∃ b off, D b ∧ b < w.heap.size ∧ a = some ⟨b, off, none⟩ ∧ ∀ i (hi : i < l.length), w.cell? ⟨b, off + i, none⟩ = some (.int .i64 l[i]) := by
  obtain ⟨h1, h2, h3, h4, h5, h6⟩ := h
  obtain ⟨b, off, hD, ha, hr⟩ := h6 hn
  exact ⟨b, off, hD, range_lt hr (by rw [ivals_len]; omega), ha, fun i hi => hr i _ (by simp [ivals, hi])⟩
theorem encI_len (n : Int) (h1 : -9223372036854775808 ≤ n) (h2 : n ≤ 9223372036854775807) : (encI n).length ≤ 10 := encU_len10 _ (zig_lt n h1 h2)
theorem encIs_len (l : List Int) (h : Ok64 l) : (l.flatMap encI).length ≤ 10 * l.length := by
  induction l with
  | nil => simp
  | cons x r ih =>
    have h1 := encI_len x (h x (by simp)).1 (h x (by simp)).2
    have h2 := ih (fun y hy => h y (by simp [hy]))
    simp only [List.flatMap_cons, List.length_append, List.length_cons]
    omega
theorem Ok64.take {l : List Int} (h : Ok64 l) (i : Nat) : Ok64 (l.take i) := fun x hx => h x (List.mem_of_mem_take hx)
theorem take_enc (l : List Int) (i : Nat) (h : i < l.length) : (l.take (i + 1)).flatMap encI = (l.take i).flatMap encI ++ encI l[i] := by
  rw [List.take_succ_eq_append_getElem h, List.flatMap_append]; simp
end Go.Proofs.Ytfgmhidgkemfoaa
namespace Go.Proofs.Ytfgmhidgkemfoaa
open Go.RowKit
set_option linter.unusedSimpArgs false
set_option linter.unusedVariables false
/-- a Value: its fields; of the list where it lies and what it reads as -/
structure VM where
  k : Nat
  u : Nat
  n : Int
  b : Bool
  s : ByteArray
  a : Option Addr
  ln : Nat
  c : Nat
  l : List Int
def VM.cells (m : VM) : List Value := [.int .u8 (m.k : Int), .int .u64 (m.u : Int), .int .i64 m.n, .bool m.b, .string m.s, .slice m.a m.ln m.c]
def VM.val (m : VM) : Value := .agg #[.int .u8 (m.k : Int), .int .u64 (m.u : Int), .int .i64 m.n, .bool m.b, .string m.s, .slice m.a m.ln m.c]
structure VOk (D : Nat → Prop) (w : World) (m : VM) : Prop where
  k : m.k < 256
  u : m.u < 18446744073709551616
  n1 : -9223372036854775808 ≤ m.n
  n2 : m.n ≤ 9223372036854775807
  s : m.s.size ≤ 9223372036854775807
  l : Is D w m.a m.ln m.c m.l
  l64 : Ok64 m.l
/-- short strings and lists -/
def VShort (m : VM) : Prop := m.s.size ≤ 1000000 ∧ m.ln ≤ 1000000
/-- the encoding of a Value -/
def encV (m : VM) : List UInt8 := if m.k % 5 = 0 then encU m.u else if m.k % 5 = 1 then encI m.n else if m.k % 5 = 2 then encB m.b else if m.k % 5 = 3 then encT m.s.data.toList else encL m.l
theorem VOk.kept {D S : Nat → Prop} {w w' : World} {m : VM} (h : VOk D w m) (hk : Kept S w w') (hd : ∀ b, b < w.heap.size → D b → ¬ S b) : VOk D w' m := ⟨h.k, h.u, h.n1, h.n2, h.s, h.l.kept hk hd, h.l64⟩
theorem VOk.dom {D D' : Nat → Prop} {w : World} {m : VM} (h : VOk D w m) (hd : ∀ b, D b → D' b) : VOk D' w m := ⟨h.k, h.u, h.n1, h.n2, h.s, h.l.dom hd, h.l64⟩
theorem kind_of (k : Nat) : ((k : Int) % 5 == 0) = decide (k % 5 = 0) := by
  rw [Bool.eq_iff_iff]; simp; omega
end Go.Proofs.Ytfgmhidgkemfoaa
namespace Go.Proofs.Ytfgmhidgkemfoaa
open Go.RowKit
set_option linter.unusedSimpArgs false
set_option linter.unusedVariables false
theorem Bs.cells {D : Nat → Prop} {w : World} {a : Option Addr} {n c : Nat} {l : List UInt8} (h : Bs D w a n c l) (hn : 0 < n) : ∃ b off, D b ∧ b < w.heap.size ∧ a = some ⟨b, off, none⟩ ∧ ∀ i (hi : i < l.length), w.cell? ⟨b, off + i, none⟩ = some (.int .u8 (l[i].toNat : Int)) := by
  obtain ⟨h1, h2, h3, h4, h5, h6⟩ := h
  obtain ⟨b, off, hD, ha, hr⟩ := h6 hn
  exact ⟨b, off, hD, range_lt hr (by rw [vals_len]; omega), ha, fun i hi => hr i _ (by simp [vals, hi])⟩
theorem u8_under : Try.prog.underlying 5 = some (.int .u8) := Try.underlying5
theorem str_under : Try.prog.underlying 9 = some .string := Try.underlying9
/-- a slice of bytes as a string -/
theorem run_str {D : Nat → Prop} {w : World} {a : Option Addr} {n c : Nat} {l : List UInt8} (h : Bs D w a n c l) :
    (convert 71 9 (.slice a n c)).run Try.prog w = .ok (.string ⟨l.toArray⟩) w := by
  obtain ⟨h1, h2, h3, h4, h5, h6⟩ := h
  subst h1
  cases a with
  | none =>
    have := h5 rfl
    have hl : l = [] := List.eq_nil_of_length_eq_zero (by omega)
    subst hl
    exact run_convert_bytes_nil w 71 5 Try.underlying71 u8_under _ _ _ str_under
  | some ad =>
    refine run_convert_bytes_back w 71 9 5 ad c l Try.underlying71 u8_under str_under (fun j hj => ?_)
    obtain ⟨b, off, _, ha, hc⟩ := h6 (by omega)
    obtain rfl : ad = ⟨b, off, none⟩ := Option.some.inj ha
    rw [Addr.add_mid, hc j (.int .u8 (l[j].toNat : Int)) (by simp [vals, hj])]
/-- new bytes: nobody else's -/
def Made (w : World) (v : Value) (l : List UInt8) (w' : World) : Prop :=
  ∃ k, Own w' 5 1 k v l.length (vals l) ∧ (∀ j, k = some j → w.heap.size ≤ j) ∧ Below w.heap.size w w'
theorem Own.bs {w : World} {k : Option Nat} {v : Value} {l : List UInt8} (h : Own w 5 1 k v l.length (vals l)) : ∃ a c, v = .slice a l.length c ∧ Bs (fun b => k = some b) w a l.length c l := by
  obtain ⟨a, c, hv, hs⟩ := h.sl
  exact ⟨a, c, hv, rfl, hs⟩
theorem Bs.src {P : Program} {D : Nat → Prop} {w : World} {a : Option Addr} {n c : Nat} {l : List UInt8} {tx e' : TypeId} (h : Bs D w a n c l) (hk : P.underlying tx = some (.slice e')) : Src P 1 tx (.slice a n c) n (vals l) w := h.2.src hk (vals_one l)
theorem Own.empty (w : World) : Own (w.alloc (.cells #[] 5)) 5 1 (some w.heap.size) (.slice (some ⟨w.heap.size, 0, none⟩) 0 0) 0 [] := Own.made w 5 1 #[] 0 (Nat.zero_le _) rfl
set_option maxRecDepth 100000 in
set_option maxHeartbeats 400000 in
theorem clone_any (D : Nat → Prop) (a : Option Addr) (n c : Nat) (l : List UInt8) (w : World) (hB : Bs D w a n c l) (hn : n ≤ 100000000000000) :
    Calls Try.prog 62 #[.slice a n c] w fun e w' => ∃ v, e = .returned v ∧ Made w v l w' := by
  obtain ⟨i0, hi, hz0, hz1, hz2⟩ := info_parts info5
  cases a with
  | none =>
    have ke := fun (w : World) => Lib.run_eql_slice_nil (P := Try.prog) w 71 5 none n c 0 0 Try.underlying71
    have h0 := hB.2.2.2.2.1 rfl
    have h1 := hB.2.2.1
    subst h0
    obtain rfl : n = 0 := by omega
    obtain rfl : l = [] := List.eq_nil_of_length_eq_zero hB.1
    clear hB
    go_enter Try.func62, Try.ntmps62
    go_wp2
    go_ret
    exact ⟨_, rfl, none, Own.nil _ _ _, (fun _ h => by cases h), Below.refl _ _⟩
  | some ad =>
    have HB := Lib.hid hB
    have HL := Lib.hid hB.1
    have ke := fun (w : World) => Lib.run_eql_slice_nil (P := Try.prog) w 71 5 (some ad) n c 0 0 Try.underlying71
    clear hB
    go_enter Try.func62, Try.ntmps62
    go_wp2_with (at_builtin; refine wpList_append_any _ rfl (.tmp 5) (.tmp 6) 71 71 rfl 5 i0 (.int .u8 0) 1 1 Try.underlying71 hi hz0 hz1 hz2 rfl (some w.heap.size) _ 0 [] rfl (Own.empty w) n (vals l) ((HB.out.kept ((Kept.refl (fun _ => False) w).alloc _) (fun _ _ _ h => h)).src Try.underlying71) (by unfold maxLen; omega) (by omega) ?_)
    intro k' v' w' ho hf hK hn
    have R : Made w v' l w' := ⟨k', by rw [HL.out]; exact ho, fun j hj => by
      rcases hf j hj with h | h
      · cases h; exact Nat.le_refl _
      · omega, ((Below.refl w.heap.size w).alloc (Nat.le_refl _) _).trans (hK.below (by simp) (fun j hj h => by cases h; omega))⟩
    have HR := Lib.hid R
    clear R ho hf hK hn
    go_wp2
    go_ret
    exact ⟨_, rfl, HR.out⟩
theorem Made.bs {w w' : World} {v : Value} {l : List UInt8} (h : Made w v l w') : ∃ a c, v = .slice a l.length c ∧ Bs (fun b => w.heap.size ≤ b) w' a l.length c l := by
  obtain ⟨k, ho, hf, hb⟩ := h
  obtain ⟨a, c, hv, hs⟩ := ho.bs
  exact ⟨a, c, hv, hs.dom hf⟩
set_option maxRecDepth 100000 in
set_option maxHeartbeats 400000 in
theorem copied_any (g : Nat) (k : Option Nat) (l : List UInt8) (w : World) (hW : Wr w g k l) (hl : l.length ≤ 100000000000000) :
    Calls Try.prog 63 #[.pointer (some ⟨g, 0, none⟩)] w fun e w' => ∃ v, e = .returned v ∧ Made w v l w' := by
  obtain ⟨v, hg, hO, hk⟩ := hW
  have h0 : w.cell? ⟨g, 0, none⟩ = some v := by rw [cell_of_row w g 0 _ _ _ hg]; rfl
  obtain ⟨a, c, rfl, hB⟩ := hO.bs
  have HB := Lib.hid hB
  clear hg hO hk hB
  go_enter Try.func63, Try.ntmps63
  go_wp2_with (go_at_call 62; refine (clone_any _ a _ c l _ HB.out hl).mono ?_; rintro e w2 ⟨v, rfl, hw2⟩; have H2 := Lib.hid hw2; clear hw2)
  go_ret
  exact ⟨_, rfl, H2.out⟩
set_option maxRecDepth 100000 in
set_option maxHeartbeats 400000 in
theorem done_any (g : Nat) (k : Option Nat) (l : List UInt8) (w : World) (hW : Wr w g k l) (hl : l.length ≤ 100000000000000) :
    Calls Try.prog 40 #[.pointer (some ⟨g, 0, none⟩)] w fun e w' => ∃ v, e = .returned v ∧ Made w v l w' := by
  have HW := Lib.hid hW
  clear hW
  go_enter Try.func40, Try.ntmps40
  go_wp2_with (go_at_call 63; refine (copied_any g k l _ HW.out hl).mono ?_; rintro e w2 ⟨v, rfl, hw2⟩; have H2 := Lib.hid hw2; clear hw2)
  go_ret
  exact ⟨_, rfl, H2.out⟩
/-- a reader in block g has the bytes l left, in block k, and the error e -/
def Rd (w : World) (g : Nat) (k : Option Nat) (l : List UInt8) (e : Nat) : Prop :=
  ∃ a c, w.heap[g]? = some (.cells #[.slice a l.length c, .int .i64 (e : Int)] 113 (0, 0)) ∧ Bs (fun b => k = some b) w a l.length c l ∧ k ≠ some g
theorem Rd.kept {S : Nat → Prop} {w w' : World} {g : Nat} {k : Option Nat} {l : List UInt8} {e : Nat} (h : Rd w g k l e) (hk : Kept S w w') (hg : ¬ S g) (hs : ∀ j, k = some j → ¬ S j) : Rd w' g k l e := by
  obtain ⟨a, c, h1, h2, h3⟩ := h
  exact ⟨a, c, hk.heap h1 hg, h2.kept hk (fun b _ hb => hs b hb), h3⟩
theorem Rd.lt {w : World} {g : Nat} {k : Option Nat} {l : List UInt8} {e : Nat} (h : Rd w g k l e) : g < w.heap.size := by
  obtain ⟨a, c, h1, h2⟩ := h
  exact heap_lt h1
/-- a new reader -/
def NewRd (w : World) (g : Nat) (l : List UInt8) (w' : World) : Prop :=
  ∃ k, Rd w' g k l 0 ∧ w.heap.size ≤ g ∧ (∀ j, k = some j → w.heap.size ≤ j ∧ j < w'.heap.size) ∧ Below w.heap.size w w'
set_option maxRecDepth 100000 in
set_option maxHeartbeats 400000 in
theorem newReader_any (D : Nat → Prop) (a : Option Addr) (n c : Nat) (l : List UInt8) (w : World) (hB : Bs D w a n c l) (hn : n ≤ 100000000000000) :
    Calls Try.prog 39 #[.slice a n c] w fun e w' => ∃ g, e = .returned (.pointer (some ⟨g, 0, none⟩)) ∧ NewRd w g l w' := by
  have HB := Lib.hid hB
  clear hB
  go_enter Try.func39, Try.ntmps39
  go_wp2_with (go_at_call 62; refine (clone_any _ a _ c l _ HB.out hn).mono ?_; rintro e w2 ⟨v, rfl, k, ho, hf, hb⟩; obtain ⟨a2, c2, rfl, hs⟩ := ho.bs; have HO := Lib.hid ho; have HS := Lib.hid hs; have HF := Lib.hid hf; have HBe := Lib.hid hb; clear ho hs hf hb)
  go_ret
  refine ⟨w2.heap.size, rfl, k, ⟨a2, c2, heap_new rfl, HS.out.kept ((Kept.refl (fun _ => False) w2).alloc _) (fun _ _ _ h => h), fun e => ?_⟩, HBe.out.size, fun j hj => ⟨HF.out j hj, by have := HO.out.lt j hj; rw [size_alloc1]; omega⟩, HBe.out.trans ((Below.refl _ _).alloc HBe.out.size _)⟩
  have := HO.out.lt _ e
  omega
end Go.Proofs.Ytfgmhidgkemfoaa
namespace Go.Proofs.Ytfgmhidgkemfoaa
open Go.RowKit
set_option linter.unusedSimpArgs false
set_option linter.unusedVariables false
theorem pow128 (k : Nat) : 128 ^ k = 2 ^ (7 * k) := by rw [Nat.pow_mul]
/-- a group is laid behind those that were read -/
theorem or_step (acc x k : Nat) (ha : acc < 128 ^ k) (hx : x % 128 * 128 ^ k < 18446744073709551616) (h64 : acc < 18446744073709551616) :
    bits .or .u64 (acc : Int) (IntKind.u64.wrap ((x : Int) % 128 * 2 ^ (7 * k))) = ((acc + x % 128 * 128 ^ k : Nat) : Int) := by
  rw [pow128] at ha hx ⊢
  have e : (x : Int) % 128 * 2 ^ (7 * k) = ((x % 128 * 2 ^ (7 * k) : Nat) : Int) := by simp
  have e2 : IntKind.u64.wrap ((x % 128 * 2 ^ (7 * k) : Nat) : Int) = ((x % 128 * 2 ^ (7 * k) : Nat) : Int) := by rw [IntKind.wrap_u64]; omega
  rw [e, e2, u64_or_nat _ _ h64 hx, Nat.or_comm, ← Nat.shiftLeft_eq, ← Nat.shiftLeft_add_eq_or_of_lt ha, Nat.shiftLeft_eq, Nat.add_comm]
theorem acc_next (acc x k : Nat) (ha : acc < 128 ^ k) : acc + x % 128 * 128 ^ k < 128 ^ (k + 1) := by
  rw [Nat.pow_succ, Nat.mul_comm (128 ^ k)]
  have : x % 128 * 128 ^ k ≤ 127 * 128 ^ k := Nat.mul_le_mul_right _ (by omega)
  omega
theorem pow_lt9 {k : Nat} (h : k ≤ 9) : 128 ^ k ≤ 9223372036854775808 := by have := pow_le_pow128 h; rw [pow9] at this; exact this
theorem grp_fits {k : Nat} (x : Nat) (h : k < 9) : x % 128 * 128 ^ k < 18446744073709551616 := by
  have h8 : 128 ^ k ≤ 128 ^ 8 := pow_le_pow128 (by omega)
  have : x % 128 * 128 ^ k ≤ 127 * 128 ^ 8 := Nat.mul_le_mul (by omega) h8
  have e8 : (127 : Nat) * 128 ^ 8 < 18446744073709551616 := by decide
  omega
theorem ret3 {a a' : Int} {b b' c c' : Nat} (h : a = a') (h2 : b = b') (h3 : c = c') : Ending.returned (.tuple #[.int .u64 a, .int .i64 (b : Int), .int .i64 (c : Int)]) = .returned (.tuple #[.int .u64 a', .int .i64 (b' : Int), .int .i64 (c' : Int)]) := by rw [h, h2, h3]
set_option maxRecDepth 100000 in
set_option maxHeartbeats 1000000 in
theorem firstNumber_any (D : Nat → Prop) (a : Option Addr) (n c : Nat) (l : List UInt8) (w : World) (hB : Bs D w a n c l) (hn : n ≤ 100000000000000) :
    Calls Try.prog 64 #[.slice a n c] w fun e w' => e = .returned (.tuple #[.int .u64 ((fnum l 0 0).1 : Int), .int .i64 ((fnum l 0 0).2.1 : Int), .int .i64 ((fnum l 0 0).2.2 : Int)]) ∧ w = w' := by
  have HB := Lib.hid hB
  have HL := Lib.hid hB.1
  clear hB
  obtain ⟨F, hF⟩ : ∃ F, F = fnum l 0 0 := ⟨_, rfl⟩
  rw [← hF]
  have HF := Lib.hid hF
  clear hF
  go_enter Try.func64, Try.ntmps64
  go_wp2
  go_loop [5, 10] (fun t i => ∃ (k acc : Nat), k ≤ n ∧ k ≤ 9 ∧ i = .int .i64 (k : Int) ∧ t = .int .u64 (acc : Int) ∧ acc < 128 ^ k ∧ F = fnum (l.drop k) k acc) (fun _ i => n - (intOf i).toNat)
  case atStart => exact ⟨0, 0, Nat.zero_le _, by omega, rfl, rfl, by simp, HF.out⟩
  case round =>
    obtain ⟨k, acc, hk, hk9, rfl, rfl, hacc, hFk⟩ := hrel
    have HFk := Lib.hid hFk
    have HAcc := Lib.hid hacc
    clear hFk hacc HF
    by_cases hlt : k < n
    · have hkl : k < l.length := by have := HL.out; omega
      obtain ⟨b, off, hDb, hbw, rfl, hc⟩ := HB.out.cells (by omega)
      have hcell := hc k hkl
      have hd : l.drop k = l[k] :: l.drop (k + 1) := List.drop_eq_getElem_cons hkl
      have HD := Lib.hid hd
      have hx := l[k].toNat_lt
      clear hc hd
      generalize l[k] = x at *
      by_cases h9 : k = 9
      · subst h9
        by_cases hb : 1 < x.toNat
        · have e := HFk.out
          rw [HD.out, fnum, if_pos ⟨rfl, hb⟩] at e
          subst e
          go_wp2
          go_ret3
          exact ⟨rfl, rfl⟩
        · by_cases hz : x.toNat = 0
          · have e := HFk.out
            rw [HD.out, fnum, if_neg (by omega), if_neg (by omega), if_pos ⟨hz, by omega⟩] at e
            subst e
            go_wp2
            go_ret3
            exact ⟨rfl, rfl⟩
          · have h1 : x.toNat = 1 := by omega
            have e := HFk.out
            rw [HD.out, fnum, if_neg (by omega), if_neg (by omega), if_neg (by omega)] at e
            have ho := or_step acc x.toNat 9 HAcc.out (by rw [h1, pow9]; decide) (by have := HAcc.out; rw [pow9] at this; omega)
            have ho2 : bits .or .u64 (acc : Int) 9223372036854775808 = (acc : Int) + 9223372036854775808 := by
              have h := or_step acc 1 9 HAcc.out (by decide) (by have := HAcc.out; rw [pow9] at this; omega)
              rw [show IntKind.u64.wrap (((1 : Nat) : Int) % 128 * 2 ^ (7 * 9)) = 9223372036854775808 by decide] at h
              rw [h, pow9]; omega
            have HO := Lib.hid ho2
            subst e
            clear ho ho2
            have hz2 : ((x.toNat : Int) == 0) = false := by rw [beq_eq_false_iff_ne]; omega
            go_wp2
            go_ret3
            exact ⟨ret3 HO.out rfl rfl, rfl⟩
      · by_cases hb : 128 ≤ x.toNat
        · have e := HFk.out
          rw [HD.out, fnum, if_neg (by omega), if_pos hb] at e
          have HE := Lib.hid e
          have HO := Lib.hid (or_step acc x.toNat k HAcc.out (grp_fits _ (by omega)) (by have := HAcc.out; have := pow_lt9 hk9; omega))
          clear e
          go_wp2
          go_round
          case rel => exact ⟨k + 1, _, by omega, by omega, by go_num, by rw [HO.out], acc_next _ _ _ HAcc.out, HE.out⟩
          case measure => simp [intOf]; omega
        · by_cases hz : x.toNat = 0 ∧ 0 < k
          · have e := HFk.out
            rw [HD.out, fnum, if_neg (by omega), if_neg hb, if_pos hz] at e
            subst e
            obtain ⟨hz1, hz2⟩ := hz
            go_wp2
            go_ret3
            exact ⟨rfl, rfl⟩
          · have e := HFk.out
            rw [HD.out, fnum, if_neg (by omega), if_neg hb, if_neg hz] at e
            have HO := Lib.hid (or_step acc x.toNat k HAcc.out (grp_fits _ (by omega)) (by have := HAcc.out; have := pow_lt9 hk9; omega))
            subst e
            by_cases hz1 : x.toNat = 0
            · obtain rfl : k = 0 := by omega
              obtain rfl : acc = 0 := by have := HAcc.out; omega
              have hb0 : bits .or .u64 0 0 = 0 := by decide
              have hcell0 : w.cell? ⟨b, off, none⟩ = some (.int .u8 0) := by simpa [hz1] using hcell
              clear HO hcell
              rw [hz1]
              go_wp2
              go_ret3
              exact ⟨rfl, rfl⟩
            · have hz2 : ((x.toNat : Int) == 0) = false := by rw [beq_eq_false_iff_ne]; omega
              go_wp2
              go_ret3
              exact ⟨ret3 HO.out rfl rfl, rfl⟩
    · have e := HFk.out
      rw [List.drop_of_length_le (by have := HL.out; omega), fnum] at e
      subst e
      go_wp2
      go_ret3
      exact ⟨rfl, rfl⟩
end Go.Proofs.Ytfgmhidgkemfoaa
namespace Go.Proofs.Ytfgmhidgkemfoaa
open Go.RowKit
set_option linter.unusedSimpArgs false
set_option linter.unusedVariables false
/-- what a method of a reader leaves -/
def Reads (g : Nat) (k : Option Nat) (w : World) (l' : List UInt8) (e' : Nat) (w' : World) : Prop := Rd w' g k l' e' ∧ Kept (fun j => j = g) w w'
theorem Rd.facts {w : World} {g : Nat} {k : Option Nat} {l : List UInt8} {e : Nat} (h : Rd w g k l e) : ∃ a c, w.heap[g]? = some (.cells #[.slice a l.length c, .int .i64 (e : Int)] 113 (0, 0)) ∧ w.cell? ⟨g, 0, none⟩ = some (.slice a l.length c) ∧ w.cell? ⟨g, 1, none⟩ = some (.int .i64 (e : Int)) ∧ w.frozen? ⟨g, 0, none⟩ = false ∧ w.frozen? ⟨g, 1, none⟩ = false ∧ Bs (fun b => k = some b) w a l.length c l ∧ k ≠ some g := by
  obtain ⟨a, c, hg, hB, hk⟩ := h
  exact ⟨a, c, hg, by rw [cell_of_row w g 0 _ _ _ hg]; rfl, by rw [cell_of_row w g 1 _ _ _ hg]; rfl, frozen_of_row w g 0 _ _ hg, frozen_of_row w g 1 _ _ hg, hB, hk⟩
def failed (e f : Nat) : Nat := if e = 0 then f else e
set_option maxRecDepth 100000 in
set_option maxHeartbeats 400000 in
theorem fail_any (g : Nat) (k : Option Nat) (l : List UInt8) (e f : Nat) (F : Int) (w : World) (hR : Rd w g k l e) (hF : F = (f : Int)) :
    Calls Try.prog 65 #[.pointer (some ⟨g, 0, none⟩), .int .i64 F] w fun x w' => x = .returned (.tuple #[]) ∧ Reads g k w l (failed e f) w' := by
  subst hF
  obtain ⟨a, c, hg, h0, h1, f0, f1, hB, hk⟩ := hR.facts
  have HG := Lib.hid hg
  have HB := Lib.hid hB
  have HK := Lib.hid hk
  have HR := Lib.hid hR
  clear hg hB hk hR
  by_cases he : e = 0
  · subst he
    go_enter Try.func65, Try.ntmps65
    go_wp2
    go_end0
    refine ⟨rfl, ⟨a, c, ?_, HB.out.kept ((Kept.refl (fun j => j = g) w).setCell (fun _ => rfl) _) (fun b _ hb e => HK.out (by rw [hb, e])), HK.out⟩, (Kept.refl (fun j => j = g) w).setCell (fun _ => rfl) _⟩
    rw [heap_setCell_same w g 1 _ _ _ HG.out]
    rfl
  · have he2 : ((e : Int) == 0) = false := by rw [beq_eq_false_iff_ne]; omega
    go_enter Try.func65, Try.ntmps65
    go_wp2
    go_end0
    refine ⟨rfl, ?_, Kept.refl _ _⟩
    rw [failed, if_neg he]
    exact HR.out
set_option maxRecDepth 100000 in
theorem left_any (g : Nat) (k : Option Nat) (l : List UInt8) (e : Nat) (w : World) (hR : Rd w g k l e) :
    Calls Try.prog 68 #[.pointer (some ⟨g, 0, none⟩)] w fun x w' => x = .returned (.int .i64 (l.length : Int)) ∧ w = w' := by
  obtain ⟨a, c, hg, h0, h1, f0, f1, hB, hk⟩ := hR.facts
  clear hg hB hk hR
  go_enter Try.func68, Try.ntmps68
  go_wp2
  go_ret
  exact ⟨rfl, rfl⟩
def endE (e n : Nat) : Nat := if e = 0 ∧ 0 < n then 7 else e
theorem ret_int {k : IntKind} {a b : Int} (h : a = b) : Ending.returned (.int k a) = .returned (.int k b) := by rw [h]
set_option maxRecDepth 100000 in
theorem end_any (g : Nat) (k : Option Nat) (l : List UInt8) (e : Nat) (w : World) (hR : Rd w g k l e) :
    Calls Try.prog 43 #[.pointer (some ⟨g, 0, none⟩)] w fun x w' => x = .returned (.int .i64 (endE e l.length : Int)) ∧ w = w' := by
  obtain ⟨a, c, hg, h0, h1, f0, f1, hB, hk⟩ := hR.facts
  have HR := Lib.hid hR
  clear hg hB hk hR
  by_cases he : e = 0
  · subst he
    by_cases hl : 0 < l.length
    · go_enter Try.func43, Try.ntmps43
      go_wp2_with (go_at_call 68; refine (left_any g k l _ _ HR.out).mono ?_; rintro e w2 ⟨rfl, rfl⟩)
      go_ret
      exact ⟨ret_int (by rw [endE, if_pos ⟨rfl, hl⟩]; rfl), rfl⟩
    · have hl0 : l.length = 0 := by omega
      go_enter Try.func43, Try.ntmps43
      go_wp2_with (go_at_call 68; refine (left_any g k l _ _ HR.out).mono ?_; rintro e w2 ⟨rfl, rfl⟩)
      go_ret
      exact ⟨ret_int (by rw [endE, if_neg (by omega)]; rfl), rfl⟩
  · have he2 : ((e : Int) == 0) = false := by rw [beq_eq_false_iff_ne]; omega
    go_enter Try.func43, Try.ntmps43
    go_wp2
    go_ret
    exact ⟨ret_int (by rw [endE, if_neg (by omega)]), rfl⟩
theorem vals_take (l : List UInt8) (n : Nat) : vals (l.take n) = (vals l).take n := by simp [vals, List.map_take]
theorem vals_drop (l : List UInt8) (n : Nat) : vals (l.drop n) = (vals l).drop n := by simp [vals, List.map_drop]
theorem Bs.upto {D : Nat → Prop} {w : World} {a : Option Addr} {n c : Nat} {l : List UInt8} (h : Bs D w a n c l) (F : Nat) (hF : F ≤ n) : Bs D w a F c (l.take F) := by
  obtain ⟨h1, h2, h3, h4, h5, h6⟩ := h
  refine ⟨by rw [List.length_take]; omega, ?_, by omega, h4, h5, fun hp => ?_⟩
  · rw [vals_len, List.length_take]; omega
  · obtain ⟨b, off, hD, ha, hr⟩ := h6 (by omega)
    refine ⟨b, off, hD, ha, fun j v hv => hr j v ?_⟩
    rw [vals_take, List.getElem?_take] at hv
    split at hv
    · exact hv
    · cases hv
theorem Bs.from {D : Nat → Prop} {w : World} {a : Option Addr} {n c : Nat} {l : List UInt8} (h : Bs D w a n c l) (F : Nat) (hF : F ≤ n) : Bs D w (if c = F then a else a.map (fun x => x.add F)) (n - F) (c - F) (l.drop F) := by
  obtain ⟨h1, h2, h3, h4, h5, h6⟩ := h
  have h4' : c ≤ maxLen := h4
  refine ⟨by rw [List.length_drop]; omega, ?_, by omega, by unfold maxLen at *; omega, ?_, fun hp => ?_⟩
  · rw [vals_len, List.length_drop]; omega
  · intro ha
    by_cases hcF : c = F
    · omega
    · rw [if_neg hcF] at ha
      cases a with
      | none => have := h5 rfl; omega
      | some x => cases ha
  · obtain ⟨b, off, hD, rfl, hr⟩ := h6 (by omega)
    rw [if_neg (by omega)]
    refine ⟨b, off + F, hD, by rw [Option.map_some, Addr.add_mid], fun j v hv => ?_⟩
    rw [vals_drop, List.getElem?_drop] at hv
    rw [Nat.add_assoc]
    exact hr (F + j) v hv
set_option maxRecDepth 100000 in
set_option maxHeartbeats 400000 in
theorem take_any (g : Nat) (k : Option Nat) (l : List UInt8) (e : Nat) (n : Nat) (w : World) (hR : Rd w g k l e) (hn : n ≤ l.length) :
    Calls Try.prog 66 #[.pointer (some ⟨g, 0, none⟩), .int .i64 (n : Int)] w fun x w' => ∃ a c, x = .returned (.slice a n c) ∧ Bs (fun b => k = some b) w' a n c (l.take n) ∧ Reads g k w (l.drop n) e w' := by
  obtain ⟨a, c, hg, h0, h1, f0, f1, hB, hk⟩ := hR.facts
  have hc1 : l.length ≤ c := hB.2.2.1
  have hc2 : c ≤ 9223372036854775807 := hB.2.2.2.1
  have fin : ∀ (a' : Option Addr) (c' : Nat), Bs (fun b => k = some b) w a' (l.length - n) c' (l.drop n) → Bs (fun b => k = some b) (w.setCell ⟨g, 0, none⟩ (.slice a' (l.length - n) c')) a n c (l.take n) ∧ Reads g k w (l.drop n) e (w.setCell ⟨g, 0, none⟩ (.slice a' (l.length - n) c')) := by
    intro a' c' hs
    have K := (Kept.refl (fun j => j = g) w).setCell (p := ⟨g, 0, none⟩) (fun _ => rfl) (.slice a' (l.length - n) c')
    refine ⟨(hB.upto n hn).kept K (fun b _ hb e => hk (by rw [hb, e])), ⟨a', c', ?_, ?_, hk⟩, K⟩
    · rw [heap_setCell_same w g 0 _ _ _ hg, List.length_drop]
      rfl
    · rw [List.length_drop]
      exact hs.kept K (fun b _ hb e => hk (by rw [hb, e]))
  have Bf := hB.from n hn
  have HF := Lib.hid fin
  have HB := Lib.hid Bf
  clear hg hB hk hR fin Bf
  by_cases hcn : c = n
  · have hb := HB.out
    rw [if_pos hcn] at hb
    subst hcn
    rw [Nat.sub_self] at hb
    have HB2 := Lib.hid hb
    clear hb HB
    go_enter Try.func66, Try.ntmps66
    go_wp2
    go_ret
    have h := HF.out _ _ HB2.out
    rw [show l.length - c = 0 by omega] at h
    exact ⟨a, _, rfl, h⟩
  · have hb := HB.out
    rw [if_neg hcn] at hb
    have HB2 := Lib.hid hb
    clear hb HB
    go_enter Try.func66, Try.ntmps66
    go_wp2
    go_ret
    exact ⟨a, _, rfl, HF.out _ _ HB2.out⟩
end Go.Proofs.Ytfgmhidgkemfoaa
namespace Go.Proofs.Ytfgmhidgkemfoaa
/-- the bytes that are left, the error -/
structure RS where
  l : List UInt8
  e : Nat
def RS.fail (s : RS) (f : Nat) : RS := ⟨s.l, if s.e = 0 then f else s.e⟩
def rUint (s : RS) : Nat × RS := if s.e = 0 then ((fnum s.l 0 0).1, ⟨s.l.drop (fnum s.l 0 0).2.1, (fnum s.l 0 0).2.2⟩) else (0, s)
def rInt (s : RS) : Int × RS := (zag (rUint s).1, (rUint s).2)
def rBool (s : RS) : Bool × RS := if s.e = 0 then (match s.l with | [] => (false, ⟨[], 6⟩) | b :: r => (b.toNat == 1, ⟨r, if 1 < b.toNat then 7 else 0⟩)) else (false, s)
def rLen (s : RS) (most : Int) : Nat × RS := if most < 0 ∨ most < ((rUint s).1 : Int) then (0, (rUint s).2.fail 2) else rUint s
def rText (s : RS) (most : Int) : List UInt8 × RS := if (rLen s most).2.l.length < (rLen s most).1 then ([], (rLen s most).2.fail 6) else ((rLen s most).2.l.take (rLen s most).1, ⟨(rLen s most).2.l.drop (rLen s most).1, (rLen s most).2.e⟩)
def rIntsGo : Nat → List Int → RS → List Int × RS
  | 0, acc, s => (acc, s)
  | n + 1, acc, s => if (rInt s).2.e = 0 then rIntsGo n (acc ++ [(rInt s).1]) (rInt s).2 else ([], (rInt s).2)
def rInts (s : RS) (most : Int) : List Int × RS := rIntsGo (rLen s most).1 [] (rLen s most).2
theorem fnum_size : ∀ (l : List UInt8) (i acc : Nat), (fnum l i acc).2.1 ≤ i + l.length := by
  intro l
  induction l with
  | nil => intro i acc; simp [fnum]
  | cons b r ih =>
    intro i acc
    rw [fnum]
    split
    · simp
    · split
      · have := ih (i + 1) (acc + b.toNat % 128 * 128 ^ i); simp only [List.length_cons]; omega
      · split
        · simp
        · simp only [List.length_cons]; omega
theorem fnum_size_pos : ∀ (l : List UInt8) (i acc : Nat), (fnum l i acc).2.2 = 0 → i < (fnum l i acc).2.1 := by
  intro l
  induction l with
  | nil => intro i acc h; simp [fnum] at h
  | cons b r ih =>
    intro i acc h
    rw [fnum] at h ⊢
    split at h
    · simp at h
    · rename_i h1
      rw [if_neg h1]
      split at h
      · rename_i h2; rw [if_pos h2]; have := ih _ _ h; omega
      · rename_i h2
        rw [if_neg h2]
        split at h
        · simp at h
        · rename_i h3; rw [if_neg h3]; simp
theorem fnum_val (l : List UInt8) : (fnum l 0 0).1 < 18446744073709551616 := by
  rcases fnum_err l 0 0 with h | h | h
  · have hv : fnum l 0 0 = ((fnum l 0 0).1, (fnum l 0 0).2.1, 0) := by rw [Prod.ext_iff, Prod.ext_iff]; exact ⟨rfl, rfl, h⟩
    obtain ⟨n, r, _, hv, _, hn, _⟩ := fnum_ok l 0 0 _ _ hv (by omega)
    rw [hv]; simpa using hn
  · rw [h]; decide
  · rw [h]; decide
theorem rUint_val (s : RS) : (rUint s).1 < 18446744073709551616 := by
  unfold rUint
  split
  · exact fnum_val _
  · show 0 < 18446744073709551616
    omega
theorem rUint_err (s : RS) (h : s.e ≠ 0) : rUint s = (0, s) := by unfold rUint; rw [if_neg h]
theorem rUint_ok (s : RS) (h : s.e = 0) : rUint s = ((fnum s.l 0 0).1, ⟨s.l.drop (fnum s.l 0 0).2.1, (fnum s.l 0 0).2.2⟩) := by unfold rUint; rw [if_pos h]
theorem rUint_len (s : RS) : (rUint s).2.l.length ≤ s.l.length := by
  unfold rUint
  split
  · simp
  · exact Nat.le_refl _
theorem rUint_shorter (s : RS) (h : s.e = 0) (h2 : (rUint s).2.e = 0) : (rUint s).2.l.length < s.l.length := by
  rw [rUint_ok s h] at h2 ⊢
  simp only [List.length_drop] at h2 ⊢
  have h3 := fnum_size_pos _ _ _ h2
  have h4 := fnum_size s.l 0 0
  omega
theorem rInt_bd (s : RS) : -9223372036854775808 ≤ (rInt s).1 ∧ (rInt s).1 ≤ 9223372036854775807 := zag_bd _ (rUint_val s)
theorem rLen_len (s : RS) (most : Int) : (rLen s most).2.l.length ≤ s.l.length := by
  unfold rLen
  split
  · exact rUint_len s
  · exact rUint_len s
theorem rInt_ok (s : RS) (h : (rInt s).2.e = 0) : s.e = 0 := by
  unfold rInt at h
  by_cases he : s.e = 0
  · exact he
  · rw [rUint_err s he] at h; exact h
theorem rIntsGo_ok (n : Nat) : ∀ (acc : List Int) (s : RS), (∀ x ∈ acc, -9223372036854775808 ≤ x ∧ x ≤ 9223372036854775807) → ∀ x ∈ (rIntsGo n acc s).1, -9223372036854775808 ≤ x ∧ x ≤ 9223372036854775807 := by
  induction n with
  | zero => intro acc s h; exact h
  | succ n ih =>
    intro acc s h
    rw [rIntsGo]
    split
    · exact ih _ _ (fun x hx => by
        rcases List.mem_append.1 hx with hx | hx
        · exact h x hx
        · rw [List.mem_singleton.1 hx]; exact rInt_bd s)
    · intro x hx; cases hx
theorem rText_len (s : RS) (most : Int) : (rText s most).1.length ≤ s.l.length := by
  unfold rText
  split
  · simp
  · have := rLen_len s most
    simp only [List.length_take]
    omega
end Go.Proofs.Ytfgmhidgkemfoaa
namespace Go.Proofs.Ytfgmhidgkemfoaa
open Go.RowKit
set_option linter.unusedSimpArgs false
set_option linter.unusedVariables false
theorem Reads.trans {g : Nat} {k : Option Nat} {w w1 w2 : World} {l1 l2 : List UInt8} {e1 e2 : Nat} (h : Reads g k w l1 e1 w1) (h2 : Reads g k w1 l2 e2 w2) : Reads g k w l2 e2 w2 := ⟨h2.1, h.2.trans h2.2 (fun _ _ h => h)⟩
set_option maxRecDepth 100000 in
set_option maxHeartbeats 400000 in
theorem ruint_any (g : Nat) (k : Option Nat) (l : List UInt8) (e : Nat) (w : World) (hR : Rd w g k l e) (hl : l.length ≤ 100000000000000) :
    Calls Try.prog 41 #[.pointer (some ⟨g, 0, none⟩)] w fun x w' => x = .returned (.int .u64 ((rUint ⟨l, e⟩).1 : Int)) ∧ Reads g k w (rUint ⟨l, e⟩).2.l (rUint ⟨l, e⟩).2.e w' := by
  obtain ⟨a, c, hg, h0, h1, f0, f1, hB, hk⟩ := hR.facts
  have HB := Lib.hid hB
  have HR := Lib.hid hR
  clear hg hB hk hR
  by_cases he : e = 0
  · subst he
    rw [rUint_ok ⟨l, 0⟩ rfl]
    have hsz := fnum_size l 0 0
    obtain ⟨V, hV⟩ : ∃ V, V = (fnum l 0 0).1 := ⟨_, rfl⟩
    obtain ⟨K, hK⟩ : ∃ K, K = (fnum l 0 0).2.1 := ⟨_, rfl⟩
    obtain ⟨E, hE⟩ : ∃ E, E = (fnum l 0 0).2.2 := ⟨_, rfl⟩
    have hC := firstNumber_any _ a l.length c l w HB.out hl
    rw [← hV, ← hK, ← hE] at hC
    rw [← hK] at hsz
    simp only [← hV, ← hK, ← hE]
    have HC := Lib.hid hC
    have hsz2 : K ≤ l.length := by omega
    clear hC hV hK hE HB hsz
    go_enter Try.func41, Try.ntmps41
    go_wp2_with (first
      | (go_at_call 66; refine (take_any g k l _ K _ H2.out.1 hsz2).mono ?_; rintro e w3 ⟨a3, c3, rfl, -, h3⟩; have H3 := Lib.hid h3; clear h3)
      | (go_at_call 65; refine (fail_any g k l 0 E _ _ HR.out rfl).mono ?_; rintro e w2 ⟨rfl, h2⟩; have H2 := Lib.hid h2; clear h2)
      | (go_at_call 64; refine HC.out.mono ?_; rintro e w1 ⟨rfl, rfl⟩))
    go_ret
    exact ⟨rfl, H2.out.trans H3.out⟩
  · have he2 : ((e : Int) == 0) = false := by rw [beq_eq_false_iff_ne]; omega
    have he3 : ((e : Int) != 0) = true := by rw [bne_iff_ne]; omega
    rw [rUint_err ⟨l, e⟩ he]
    go_enter Try.func41, Try.ntmps41
    go_wp2
    go_ret
    exact ⟨rfl, HR.out, Kept.refl _ _⟩
theorem retB (b : Bool) {x y : Bool} (h : x = y) : Ending.returned (.bool x) = .returned (.bool y) := by rw [h]
set_option maxRecDepth 100000 in
set_option maxHeartbeats 400000 in
theorem rbool_any (g : Nat) (k : Option Nat) (l : List UInt8) (e : Nat) (w : World) (hR : Rd w g k l e) (hl : l.length ≤ 100000000000000) :
    Calls Try.prog 114 #[.pointer (some ⟨g, 0, none⟩)] w fun x w' => x = .returned (.bool (rBool ⟨l, e⟩).1) ∧ Reads g k w (rBool ⟨l, e⟩).2.l (rBool ⟨l, e⟩).2.e w' := by
  obtain ⟨a, c, hg, h0, h1, f0, f1, hB, hk⟩ := hR.facts
  have HR := Lib.hid hR
  clear hg hB hk hR
  by_cases he : e = 0
  · subst he
    cases l with
    | nil =>
      have e1 : rBool ⟨[], 0⟩ = (false, ⟨[], 6⟩) := rfl
      rw [e1]
      go_enter Try.func114, Try.ntmps114
      go_wp2_with (first
        | (go_at_call 68; refine (left_any g k [] _ _ HR.out).mono ?_; rintro e w2 ⟨rfl, rfl⟩)
        | (go_at_call 65; refine (fail_any g k [] 0 6 _ _ HR.out rfl).mono ?_; rintro e w2 ⟨rfl, h2⟩; have H2 := Lib.hid h2; clear h2))
      go_ret
      exact ⟨rfl, H2.out⟩
    | cons b r =>
      have e1 : rBool ⟨b :: r, 0⟩ = (b.toNat == 1, ⟨r, if 1 < b.toNat then 7 else 0⟩) := rfl
      have hbx := b.toNat_lt
      by_cases hb : 1 < b.toNat
      · have e2 : (b.toNat == 1) = false := by rw [beq_eq_false_iff_ne]; omega
        have e3 : ((b.toNat : Int) == 1) = false := by rw [beq_eq_false_iff_ne]; omega
        rw [e1, if_pos hb, e2]
        clear e1 e2
        go_enter Try.func114, Try.ntmps114
        go_wp2_with (first
          | (go_at_call 68; refine (left_any g k _ _ _ HR.out).mono ?_; rintro e w2 ⟨rfl, rfl⟩)
          | (go_at_call 66; refine (take_any g k _ _ 1 _ HR.out (by simp)).mono ?_; rintro e w3 ⟨a3, c3, rfl, hb3, h3⟩; obtain ⟨bb, off, -, -, rfl, hc3⟩ := hb3.cells (by omega); have hc4 : w3.cell? ⟨bb, off, none⟩ = some (.int .u8 (b.toNat : Int)) := hc3 0 (by simp); have H3 := Lib.hid h3; clear h3 hb3 hc3)
          | (go_at_call 65; refine (fail_any g k r 0 7 _ _ H3.out.1 rfl).mono ?_; rintro e w4 ⟨rfl, h4⟩; have H4 := Lib.hid h4; clear h4))
        go_ret
        exact ⟨rfl, H3.out.trans H4.out⟩
      · rw [e1, if_neg hb]
        clear e1
        have e4 : (b.toNat == 1) = ((b.toNat : Int) == 1) := by rw [Bool.eq_iff_iff]; simp; omega
        have E4 := Lib.hid e4
        clear e4
        go_enter Try.func114, Try.ntmps114
        go_wp2_with (first
          | (go_at_call 68; refine (left_any g k _ _ _ HR.out).mono ?_; rintro e w2 ⟨rfl, rfl⟩)
          | (go_at_call 66; refine (take_any g k _ _ 1 _ HR.out (by simp)).mono ?_; rintro e w3 ⟨a3, c3, rfl, hb3, h3⟩; obtain ⟨bb, off, -, -, rfl, hc3⟩ := hb3.cells (by omega); have hc4 : w3.cell? ⟨bb, off, none⟩ = some (.int .u8 (b.toNat : Int)) := hc3 0 (by simp); have H3 := Lib.hid h3; clear h3 hb3 hc3))
        go_ret
        exact ⟨retB true (by rw [E4.out]), H3.out⟩
  · have he2 : ((e : Int) == 0) = false := by rw [beq_eq_false_iff_ne]; omega
    have he3 : ((e : Int) != 0) = true := by rw [bne_iff_ne]; omega
    have e1 : rBool ⟨l, e⟩ = (false, ⟨l, e⟩) := by unfold rBool; rw [if_neg he]
    rw [e1]
    go_enter Try.func114, Try.ntmps114
    go_wp2
    go_ret
    exact ⟨rfl, HR.out, Kept.refl _ _⟩
end Go.Proofs.Ytfgmhidgkemfoaa
namespace Go.Proofs.Ytfgmhidgkemfoaa
open Go.RowKit
set_option linter.unusedSimpArgs false
set_option linter.unusedVariables false
/-- new numbers: nobody else's -/
def FreshI (w : World) (v : Value) (l : List Int) (w' : World) : Prop := ∃ kk, Own w' 3 1 kk v l.length (ivals l) ∧ ∀ j, kk = some j → w.heap.size ≤ j
/-- where the loop of Ints stands -/
def AtI (g : Nat) (k : Option Nat) (w : World) (L : Nat) (R : List Int × RS) (m : Nat) (v : Value) (wr : World) : Prop :=
  ∃ acc s, rIntsGo m acc s = R ∧ Reads g k w s.l s.e wr ∧ FreshI w v acc wr ∧ acc.length + s.l.length ≤ L
theorem FreshI.kept {S : Nat → Prop} {w w1 w2 : World} {v : Value} {l : List Int} (h : FreshI w v l w1) (hk : Kept S w1 w2) (hs : ∀ j, w.heap.size ≤ j → ¬ S j) : FreshI w v l w2 := by
  obtain ⟨kk, ho, hf⟩ := h
  exact ⟨kk, ho.kept hk (fun j hj => hs j (hf j hj)), hf⟩
end Go.Proofs.Ytfgmhidgkemfoaa
namespace Go.Proofs.Ytfgmhidgkemfoaa
open Go.RowKit
set_option linter.unusedSimpArgs false
set_option linter.unusedVariables false
/-- n modulo most, as the laws reckon it -/
def around (n most : Int) : Int := if n < 0 then -(n + 1) % most else n % most
theorem around_bd (n most : Int) (h : 0 < most) : 0 ≤ around n most ∧ around n most < most := by
  unfold around
  split
  · exact ⟨Int.emod_nonneg _ (by omega), Int.emod_lt_of_pos _ h⟩
  · exact ⟨Int.emod_nonneg _ (by omega), Int.emod_lt_of_pos _ h⟩
theorem around_any (n most : Int) (w : World) (h1 : -9223372036854775808 ≤ n) (h2 : n ≤ 9223372036854775807) (h3 : 0 < most) (h4 : most ≤ 9223372036854775807) :
    Calls Try.prog 16 #[.int .i64 n, .int .i64 most] w fun e w' => e = .returned (.int .i64 (around n most)) ∧ w = w' := by
  by_cases hn : n < 0
  · have hw1 : IntKind.i64.wrap (n + 1) = n + 1 := i64_id _ (by omega) (by omega)
    have hw2 : IntKind.i64.wrap (-(n + 1)) = -(n + 1) := i64_id _ (by omega) (by omega)
    have HA : Hid (around n most = -(n + 1) % most) := Lib.hid (by unfold around; rw [if_pos hn])
    go_enter Try.func16, Try.ntmps16
    go_wp2
    go_ret
    have e : -(n + 1).tmod most = -(n + 1) % most := by rw [← Int.neg_tmod, Int.tmod_eq_emod_of_nonneg (by omega)]
    refine ⟨ret_int ?_, rfl⟩
    rw [HA.out, ← e]
  · have HA : Hid (around n most = n % most) := Lib.hid (by unfold around; rw [if_neg hn])
    go_enter Try.func16, Try.ntmps16
    go_wp2
    go_ret
    exact ⟨ret_int (by rw [HA.out]), rfl⟩
def short (s : ByteArray) (most : Nat) : ByteArray := ⟨(s.data.toList.take most).toArray⟩
theorem ivals_take (l : List Int) (n : Nat) : ivals (l.take n) = (ivals l).take n := by simp [ivals, List.map_take]
theorem Is.upto {D : Nat → Prop} {w : World} {a : Option Addr} {n c : Nat} {l : List Int} (h : Is D w a n c l) (F : Nat) (hF : F ≤ n) : Is D w a F c (l.take F) := by
  obtain ⟨h1, h2, h3, h4, h5, h6⟩ := h
  refine ⟨by rw [List.length_take]; omega, ?_, by omega, h4, h5, fun hp => ?_⟩
  · rw [ivals_len, List.length_take]; omega
  · obtain ⟨b, off, hD, ha, hr⟩ := h6 (by omega)
    refine ⟨b, off, hD, ha, fun j v hv => hr j v ?_⟩
    rw [ivals_take, List.getElem?_take] at hv
    split at hv
    · exact hv
    · cases hv
theorem Is.src {P : Program} {D : Nat → Prop} {w : World} {a : Option Addr} {n c : Nat} {l : List Int} {tx e' : TypeId} (h : Is D w a n c l) (hk : P.underlying tx = some (.slice e')) : Src P 1 tx (.slice a n c) n (ivals l) w := h.2.src hk (ivals_one l)
/-- new numbers, nothing else changed -/
def MadeI (w : World) (v : Value) (l : List Int) (w' : World) : Prop := FreshI w v l w' ∧ Below w.heap.size w w'
end Go.Proofs.Ytfgmhidgkemfoaa
namespace Go.Proofs.Ytfgmhidgkemfoaa
/-- the value of groups of 7 bits, the least first -/
def gval : List UInt8 → Nat
  | [] => 0
  | b :: r => b.toNat % 128 + 128 * gval r
/-- the first n bytes are groups that are not the last one -/
def Leads (l : List UInt8) (n : Nat) : Prop := n ≤ l.length ∧ ∀ x ∈ l.take n, 128 ≤ x.toNat
theorem Leads.zero (l : List UInt8) : Leads l 0 := ⟨Nat.zero_le _, fun x h => by simp at h⟩
theorem Leads.succ {l : List UInt8} {n : Nat} (h : Leads l n) (hn : n < l.length) (hx : 128 ≤ l[n].toNat) : Leads l (n + 1) := by
  refine ⟨hn, fun x hm => ?_⟩
  rw [List.take_succ_eq_append_getElem hn] at hm
  rcases List.mem_append.1 hm with hm | hm
  · exact h.2 x hm
  · rw [List.mem_singleton.1 hm]; exact hx
theorem fnum_skip : ∀ (n : Nat) (l : List UInt8) (i acc : Nat), Leads l n → i + n ≤ 9 → fnum l i acc = fnum (l.drop n) (i + n) (acc + gval (l.take n) * 128 ^ i) := by
  intro n
  induction n with
  | zero => intro l i acc _ _; simp [gval]
  | succ n ih =>
    intro l i acc h hi
    cases l with
    | nil => have := h.1; simp at this
    | cons b r =>
      have hb : 128 ≤ b.toNat := h.2 b (by simp)
      have hr : Leads r n := ⟨by have := h.1; simp at this; omega, fun x hx => h.2 x (by simp [hx])⟩
      rw [fnum, if_neg (by omega), if_pos hb, ih r (i + 1) _ hr (by omega), List.drop_succ_cons, List.take_succ_cons, gval]
      congr 1
      · omega
      · rw [Nat.pow_succ, Nat.add_mul, Nat.add_assoc, Nat.mul_comm (128 ^ i), ← Nat.mul_assoc, Nat.mul_comm 128 (gval _)]
theorem rd_long (l : List UInt8) (h : Leads l 10) : fnum l 0 0 = (0, 0, 7) := by
  have h9 : Leads l 9 := ⟨by have := h.1; omega, fun x hx => h.2 x (List.take_subset_take_left l (by omega) hx)⟩
  have hl : 9 < l.length := by have := h.1; omega
  rw [fnum_skip 9 l 0 0 h9 (by omega), List.drop_eq_getElem_cons hl, fnum, if_pos]
  refine ⟨rfl, ?_⟩
  have := h.2 l[9] (List.mem_take_iff_getElem.2 ⟨9, by omega, rfl⟩)
  omega
theorem rd_short (l : List UInt8) (h : Leads l l.length) (h9 : l.length ≤ 9) : fnum l 0 0 = (0, 0, 6) := by
  rw [fnum_skip l.length l 0 0 h (by omega), List.drop_length, fnum]
theorem rd_bad (l : List UInt8) (n : Nat) (h : Leads l n) (hn : n < l.length) (h9 : n ≤ 9) (hx : l[n].toNat < 128) (hb : (n = 9 ∧ 1 < l[n].toNat) ∨ (l[n].toNat = 0 ∧ 0 < n)) : fnum l 0 0 = (0, 0, 7) := by
  rw [fnum_skip n l 0 0 h (by omega), List.drop_eq_getElem_cons hn, fnum]
  rcases hb with hb | hb
  · rw [if_pos ⟨by omega, hb.2⟩]
  · by_cases h1 : 0 + n = 9 ∧ 1 < l[n].toNat
    · rw [if_pos h1]
    · rw [if_neg h1, if_neg (by omega), if_pos ⟨hb.1, by omega⟩]
theorem gval_snoc (l : List UInt8) (x : UInt8) : gval (l ++ [x]) = gval l + x.toNat % 128 * 128 ^ l.length := by
  induction l with
  | nil => simp [gval]
  | cons b r ih => rw [List.cons_append, gval, ih, gval, List.length_cons, Nat.pow_succ, Nat.mul_add, Nat.add_assoc, Nat.mul_comm (128 ^ r.length), Nat.mul_left_comm]
theorem rd_ok (l : List UInt8) (n : Nat) (h : Leads l n) (hn : n < l.length) (h9 : n ≤ 9) (hx : l[n].toNat < 128) (hb : ¬ (n = 9 ∧ 1 < l[n].toNat)) (hb2 : ¬ (l[n].toNat = 0 ∧ 0 < n)) : fnum l 0 0 = (gval (l.take (n + 1)), n + 1, 0) := by
  rw [fnum_skip n l 0 0 h (by omega), List.drop_eq_getElem_cons hn, fnum, if_neg (by omega), if_neg (by omega), if_neg (by omega), List.take_succ_eq_append_getElem hn, gval_snoc]
  have : (l.take n).length = n := by rw [List.length_take]; omega
  rw [this]
  simp
theorem gval_drop (t : List UInt8) (i : Nat) (h : i < t.length) : gval (t.drop i) = 128 * gval (t.drop (i + 1)) + t[i].toNat % 128 := by
  rw [List.drop_eq_getElem_cons h, gval, Nat.add_comm]
theorem gval_drop_le (t : List UInt8) (i : Nat) : gval (t.drop i) ≤ gval t := by
  induction i generalizing t with
  | zero => simp
  | succ i ih =>
    cases t with
    | nil => simp
    | cons b r => rw [List.drop_succ_cons, gval]; have := ih r; omega
theorem rd_lt (l : List UInt8) (n : Nat) (h : fnum l 0 0 = (gval (l.take (n + 1)), n + 1, 0)) : gval (l.take (n + 1)) < 18446744073709551616 := by
  have := fnum_val l
  rw [h] at this
  exact this
theorem rUint_of (l : List UInt8) (v k e : Nat) (h : fnum l 0 0 = (v, k, e)) : rUint ⟨l, 0⟩ = (v, ⟨l.drop k, e⟩) := by
  rw [rUint_ok _ rfl, h]
end Go.Proofs.Ytfgmhidgkemfoaa
namespace Go.Proofs.Ytfgmhidgkemfoaa.Roll
open Go
set_option linter.unusedSimpArgs false
set_option linter.unusedVariables false
/-- the slot that an operation writes -/
def slot (ops : Array Oper) (j : Nat) : Option Tmp := (ops[j]?).bind (·.dst)
/-- a frame in which some operations have written -/
def putOf (ops : Array Oper) (vals : Nat → Value) : List Nat → Act → Act
  | [], a => a
  | j :: r, a => putOf ops vals r (a.put (slot ops j) (vals j))
theorem putOf_size (ops : Array Oper) (vals : Nat → Value) (l : List Nat) (a : Act) : (putOf ops vals l a).tmps.size = a.tmps.size := by
  induction l generalizing a with
  | nil => rfl
  | cons j r ih => rw [putOf, ih]; cases slot ops j <;> simp [Act.put]
theorem putOf_defers (ops : Array Oper) (vals : Nat → Value) (l : List Nat) (a : Act) : (putOf ops vals l a).defers = a.defers := by
  induction l generalizing a with
  | nil => rfl
  | cons j r ih => rw [putOf, ih]; cases slot ops j <;> simp [Act.put]
theorem put_get_ne {a : Act} {d : Option Tmp} {v : Value} {t : Nat} (h : d ≠ some t) : (a.put d v).tmps[t]? = a.tmps[t]? := by
  cases d with
  | none => rfl
  | some d => simp only [Act.put]; rw [Array.getElem?_setIfInBounds_ne (by intro e; exact h (by rw [e]))]
theorem put_get_eq {a : Act} {v : Value} {t : Nat} (h : t < a.tmps.size) : (a.put (some t) v).tmps[t]? = some v := by
  simp [Act.put, h]
theorem putOf_other (ops : Array Oper) (vals : Nat → Value) (l : List Nat) (a : Act) (t : Nat) (h : ∀ j ∈ l, slot ops j ≠ some t) : (putOf ops vals l a).tmps[t]? = a.tmps[t]? := by
  induction l generalizing a with
  | nil => rfl
  | cons j r ih => rw [putOf, ih _ (fun k hk => h k (List.mem_cons_of_mem _ hk)), put_get_ne (h j List.mem_cons_self)]
/-- no two operations write one slot -/
def apartB (ops : Array Oper) : Bool := ((List.range ops.size).filterMap (slot ops)).Nodup
theorem filterMap_inj {f : Nat → Option Nat} : ∀ {l : List Nat}, (l.filterMap f).Nodup → ∀ {i j : Nat} {t : Nat}, i ∈ l → j ∈ l → f i = some t → f j = some t → l.Nodup → i = j := by
  intro l
  induction l with
  | nil => intro _ i j t hi; cases hi
  | cons x r ih =>
    intro h i j t hi hj ei ej hn
    rw [List.nodup_cons] at hn
    have tail : (r.filterMap f).Nodup := by
      cases hx : f x with
      | none => rwa [List.filterMap_cons_none hx] at h
      | some y => rw [List.filterMap_cons_some hx] at h; exact (List.nodup_cons.1 h).2
    have clash : ∀ {k : Nat}, k ∈ r → f k = some t → f x = some t → False := by
      intro k hk ek ex
      rw [List.filterMap_cons_some ex] at h
      exact (List.nodup_cons.1 h).1 (List.mem_filterMap.2 ⟨k, hk, ek⟩)
    rcases List.mem_cons.1 hi with hi' | hi' <;> rcases List.mem_cons.1 hj with hj' | hj'
    · rw [hi', hj']
    · exact (clash hj' ej (hi' ▸ ei)).elim
    · exact (clash hi' ei (hj' ▸ ej)).elim
    · exact ih tail hi' hj' ei ej hn.2
theorem apart_inj {ops : Array Oper} (h : apartB ops = true) {i j : Nat} {t : Nat} (ei : slot ops i = some t) (ej : slot ops j = some t) : i = j := by
  have lt : ∀ {k : Nat}, slot ops k = some t → k ∈ List.range ops.size := by
    intro k e
    rw [List.mem_range]
    unfold slot at e
    cases hk : ops[k]? with
    | none => rw [hk] at e; cases e
    | some o => exact (Array.getElem?_eq_some_iff.1 hk).1
  exact filterMap_inj (of_decide_eq_true h) (lt ei) (lt ej) ei ej List.nodup_range
theorem putOf_mem {ops : Array Oper} (hap : apartB ops = true) (vals : Nat → Value) (l : List Nat) (a : Act) (j t : Nat) (hj : j ∈ l) (ht : slot ops j = some t) (hs : t < a.tmps.size) :
    (putOf ops vals l a).tmps[t]? = some (vals j) := by
  induction l generalizing a with
  | nil => cases hj
  | cons k r ih =>
    rw [putOf]
    by_cases hr : j ∈ r
    · exact ih _ hr (by cases slot ops k <;> simp [Act.put, hs])
    · obtain rfl : j = k := (List.mem_cons.1 hj).resolve_right hr
      rw [putOf_other ops vals r _ t (fun i hi e => hr (apart_inj hap e ht ▸ hi)), ht, put_get_eq hs]
/-- the operations that must stand ahead of one, as its edges name them -/
def ahead (o : Oper) : List Nat := (o.after.toList.filter fun e => Region.binds .any e).map (·.on)
/-- the slots that an operation looks at and that others write are written by operations ahead of it, or by such as stand behind it -/
def looksOk (ops : Array Oper) (L : List (List Nat)) : Bool :=
  (List.range ops.size).all fun k => match ops[k]? with
    | none => true
    | some o => (match o.op with | .select .. => false | .defer .. => false | _ => true) && ((L.getD k []).all fun i => (ahead o).contains i) &&
      (o.looksAt ops).all fun t => (List.range ops.size).all fun j => slot ops j != some t || (L.getD k []).contains j ||
        (match ops[j]? with | some oj => (ahead oj).contains k | none => true)
/-- what one operation does, from the frame that it sees -/
def Post (a1 : Act) (d : Option Tmp) (T : Value → World → Prop) : Exit → Act → World → Prop
  | .normal, a', w' => ∃ v, a' = a1.put d v ∧ T v w'
  | _, _, _ => False
variable {P : Program} {ops : Array Oper} {Q : Exit → Act → World → Prop}
theorem not_lets {a1 : Act} {d : Option Tmp} {T : Value → World → Prop} : ¬ LetsOut (Post a1 d T) := fun ⟨_, _, h⟩ => h
theorem put_inj {a : Act} {d : Option Tmp} {v u : Value} : (h : ∀ t, d = some t → t < a.tmps.size) → a.put d v = a.put d u → d = none ∨ v = u := by
  intro h e
  cases d with
  | none => exact .inl rfl
  | some t =>
    have := congrArg (fun x : Act => x.tmps[t]?) e
    simp only [put_get_eq (h t rfl)] at this
    exact .inr (Option.some.inj this)
/-- from the frame that an operation sees to the frame as it is -/
theorem wpOp_of_list {o : Oper} {k : Nat} {a a1 : Act} {w : World} {T : Value → World → Prop} (ho : ops[k]? = some o)
    (hn : o.dst = none → ∀ v u w', T v w' → T u w') (hsz : ∀ t, o.dst = some t → t < a1.tmps.size)
    (he : execOp a.eval o = execOp a1.eval o) (hw : Region.wanted o (yielded ops a.tmps) = Region.wanted o (yielded ops a1.tmps))
    (h : wpList P ops (Post a1 o.dst T) [o] a1 w) : wpOp P ops Q k (fun a' w' => ∃ v, a' = a.put o.dst v ∧ T v w') a w := by
  have fin : ∀ v w', (∃ u, a1.put o.dst v = a1.put o.dst u ∧ T u w') → ∃ u, a.put o.dst v = a.put o.dst u ∧ T u w' := by
    rintro v w' ⟨u, e, t⟩
    rcases put_inj hsz e with hnone | rfl
    · exact ⟨v, rfl, hn hnone _ _ _ t⟩
    · exact ⟨v, rfl, t⟩
  unfold wpList at h
  unfold wpOp
  simp only [ho, hw]
  split
  · rename_i hwt
    rw [if_pos hwt] at h
    rcases h with h | ⟨_, h⟩
    case inr => exact (not_lets h).elim
    refine .inl ?_
    unfold Oper.wp at *
    rw [he]
    generalize (execOp a1.eval o).run P w = r at *
    cases r with
    | ok n w' =>
      cases n <;> simp only [Oper.upon] at h ⊢
      case value u => exact fin u w' h
      case skip => exact fin undef w' h
      case defer d =>
        simp only [wpList, Post] at h
        obtain ⟨v, e, _⟩ := h
        have := congrArg Act.defers e
        cases hds : o.dst <;> simp [Act.put, hds] at this
      case enter f args =>
        refine Calls.mono h fun e w'' hh => ?_
        cases e with
        | returned u => exact fin u w'' hh
        | panicked c => exact (hh : False).elim
        | outgrown => exact (not_lets hh).elim
      case row row args => exact Rows.mono h fun u w'' hh => fin u w'' hh
    | halt x w' =>
      cases x <;> simp only [Oper.upon] at h ⊢
      case panic u => exact (h : False).elim
  · rename_i hwt
    rw [if_neg hwt] at h
    exact fin undef w h

/-- the result of an operation that writes no slot does not matter -/
def res (o : Oper) (R : Value → World → Prop) (v : Value) (w : World) : Prop := match o.dst with | some _ => R v w | none => R undef w
/-- what is owed for one operation -/
def Does (P : Program) (ops : Array Oper) (L : List (List Nat)) (I : World → Prop) (S : World → World → Prop) (R : Nat → Value → World → Prop) (a0 : Act) (k : Nat) (o : Oper) : Prop :=
  ∀ (vals : Nat → Value) (w : World), I w → (∀ j ∈ L.getD k [], R j (vals j) w) →
    wpList P ops (Post (putOf ops vals (L.getD k []) a0) o.dst fun v w' => I w' ∧ S w w' ∧ res o (R k) v w') [o] (putOf ops vals (L.getD k []) a0) w
/-- what holds when some operations have been performed -/
structure Held (ops : Array Oper) (I : World → Prop) (R : Nat → Value → World → Prop) (a0 : Act) (vals : Nat → Value) (listed : Array Bool) (a : Act) (w : World) : Prop where
  inv : I w
  len : listed.size = ops.size
  defers : a.defers = a0.defers
  size : a.tmps.size = a0.tmps.size
  closed : ∀ (j : Nat) (o : Oper), ops[j]? = some o → listed[j]? = some true → ∀ i ∈ ahead o, listed[i]? = some true
  old : ∀ t : Nat, (∀ j : Nat, listed[j]? = some true → slot ops j ≠ some t) → a.tmps[t]? = a0.tmps[t]?
  new : ∀ (j t : Nat), listed[j]? = some true → slot ops j = some t → a.tmps[t]? = some (vals j)
  got : ∀ j : Nat, listed[j]? = some true → R j (vals j) w
theorem tmp_congr {a b : Act} {t : Nat} (h : a.tmps[t]? = b.tmps[t]?) : a.eval (.tmp t) = b.eval (.tmp t) := by
  simp only [Act.eval, Array.getD_eq_getD_getElem?, h]
theorem exec_congr {o : Oper} {a b : Act} (hs : ∀ cs c, o.op ≠ .select cs c) (h : ∀ t ∈ o.looksAt ops, a.tmps[t]? = b.tmps[t]?) : execOp a.eval o = execOp b.eval o := by
  refine execOp_congr o hs fun x hx => ?_
  cases x with
  | tmp t => exact tmp_congr (h t (List.mem_append_left _ (List.mem_filterMap.2 ⟨.tmp t, by simpa using hx, rfl⟩)))
  | const v => rfl
  | global g => rfl
  | func f => rfl
theorem wanted_congr {o : Oper} {a b : Act} (h : ∀ t ∈ o.looksAt ops, a.tmps[t]? = b.tmps[t]?) : Region.wanted o (yielded ops a.tmps) = Region.wanted o (yielded ops b.tmps) := by
  unfold Region.wanted
  cases hg : o.guard with
  | none => rfl
  | some gw =>
    obtain ⟨g, want⟩ := gw
    have hy : yielded ops a.tmps g = yielded ops b.tmps g := by
      unfold yielded
      cases ht : (ops[g]?).bind (·.dst) with
      | none => rfl
      | some t =>
        have := h t (by simp [Oper.looksAt, hg, ht])
        simp only [Option.bind_some, this]
    simp only [hy]
theorem listed_of_getD {listed : Array Bool} {j : Nat} (h : listed.getD j false = true) : listed[j]? = some true := by
  rw [Array.getD_eq_getD_getElem?] at h
  cases hj : listed[j]? with
  | none => rw [hj] at h; cases h
  | some b => rw [hj] at h; exact congrArg some h
theorem unlisted_of_getD {listed : Array Bool} {j : Nat} (h : listed.getD j true = false) : listed[j]? = some false := by
  rw [Array.getD_eq_getD_getElem?] at h
  cases hj : listed[j]? with
  | none => rw [hj] at h; cases h
  | some b => rw [hj] at h; exact congrArg some h
/-- the edges lead backwards -/
def backOk (ops : Array Oper) : Bool := (List.range ops.size).all fun k => match ops[k]? with | none => true | some o => (ahead o).all fun i => decide (i < k)
theorem ready_least {md : Region.Mode} (hmd : md = .any) {ops : Array Oper} (hb : backOk ops = true) {listed : Array Bool} (hl : listed.size = ops.size) (hr : Region.ready md ops listed = []) : ∀ j : Nat, j < ops.size → listed[j]? = some true := by
  intro j
  induction j using Nat.strongRecOn with
  | _ j ih =>
    intro hj
    have ho : ops[j]? = some ops[j] := Array.getElem?_eq_getElem hj
    cases hv : listed[j]'(by omega) with
    | true => rw [Array.getElem?_eq_getElem (by omega), hv]
    | false =>
      exfalso
      have hm : j ∈ Region.ready md ops listed := by
        rw [mem_ready]
        refine ⟨by rw [Array.getD_eq_getD_getElem?, Array.getElem?_eq_getElem (by omega), hv]; rfl, ops[j], ho, fun e he hbd => ?_⟩
        have hin : e.on ∈ ahead ops[j] := List.mem_map.2 ⟨e, List.mem_filter.2 ⟨by simpa using he, by rw [← hmd]; exact hbd⟩, rfl⟩
        have hlt : e.on < j := by
          have h1 := List.all_eq_true.1 hb j (List.mem_range.2 hj)
          simp only [ho] at h1
          exact of_decide_eq_true (List.all_eq_true.1 h1 _ hin)
        have := ih e.on hlt (by omega)
        rw [Array.getD_eq_getD_getElem?, this]; rfl
      rw [hr] at hm; cases hm
theorem count_set {listed : Array Bool} {i : Nat} (h : listed[i]? = some false) : (listed.setIfInBounds i true).toList.count false + 1 = listed.toList.count false := by
  obtain ⟨l⟩ := listed
  simp only [List.getElem?_toArray] at h
  simp only [List.setIfInBounds_toArray]
  induction l generalizing i with
  | nil => simp at h
  | cons b r ih =>
    cases i with
    | zero =>
      simp only [List.getElem?_cons_zero, Option.some.injEq] at h
      subst h
      simp
    | succ i =>
      simp only [List.getElem?_cons_succ] at h
      have := ih h
      simp only [List.set_cons_succ, List.count_cons]
      omega
theorem set_get {listed : Array Bool} {i : Nat} (hi : listed[i]? = some false) (j : Nat) : (listed.setIfInBounds i true)[j]? = if j = i then some true else listed[j]? := by
  have hlt : i < listed.size := (Array.getElem?_eq_some_iff.1 hi).1
  by_cases e : j = i
  · subst e; rw [if_pos rfl]; simp [hlt]
  · rw [if_neg e, Array.getElem?_setIfInBounds_ne (fun h => e h.symm)]
/-- the operations from n on come last, one after the other -/
def tailOk (ops : Array Oper) (n : Nat) : Bool := (List.range ops.size).all fun k => decide (k < n) || match ops[k]? with | none => true | some o => (List.range k).all fun i => (ahead o).contains i
theorem tail_ahead {n k i : Nat} {o : Oper} (h : tailOk ops n = true) (ho : ops[k]? = some o) (hk : n ≤ k) (hi : i < k) : i ∈ ahead o := by
  have hlt : k < ops.size := (Array.getElem?_eq_some_iff.1 ho).1
  have h1 := List.all_eq_true.1 h k (List.mem_range.2 hlt)
  simp only [ho, Bool.or_eq_true, decide_eq_true_eq] at h1
  have h2 := h1.resolve_left (by omega)
  have h3 := List.all_eq_true.1 h2 i (List.mem_range.2 hi)
  simpa using h3
theorem ahead_of_edge {o : Oper} {i : Nat} (h : i ∈ ahead o) : ∃ e ∈ o.after, Region.binds .any e = true ∧ e.on = i := by
  obtain ⟨e, he, rfl⟩ := List.mem_map.1 h
  obtain ⟨h1, h2⟩ := List.mem_filter.1 he
  exact ⟨e, by simpa using h1, h2, rfl⟩
theorem wpAny_tail (hb : backOk ops = true) {n : Nat} (ht : tailOk ops n = true) : ∀ (fuel m : Nat) (listed : Array Bool) (a : Act) (w : World), n ≤ m → m ≤ ops.size → ops.size - m ≤ fuel → listed.size = ops.size →
    (∀ j : Nat, j < m → listed[j]? = some true) → (∀ j : Nat, m ≤ j → j < ops.size → listed[j]? = some false) → wpList P ops Q (ops.toList.drop m) a w → wpAny P .any ops Q fuel listed a w := by
  intro fuel
  induction fuel with
  | zero =>
    intro m listed a w hn hm hf hl h1 h2 h
    have : m = ops.size := by omega
    subst this
    rw [List.drop_of_length_le (by simp)] at h
    refine ⟨?_, h⟩
    cases hr : Region.ready .any ops listed with
    | nil => rfl
    | cons x r =>
      have hx : x ∈ Region.ready .any ops listed := by rw [hr]; exact List.mem_cons_self
      obtain ⟨hu, o, ho, _⟩ := mem_ready.1 hx
      have := h1 x (Array.getElem?_eq_some_iff.1 ho).1
      rw [unlisted_of_getD hu] at this
      cases this
  | succ fuel ih =>
    intro m listed a w hn hm hf hl h1 h2 h
    by_cases hms : m = ops.size
    · subst hms
      rw [List.drop_of_length_le (by simp)] at h
      refine ⟨fun _ => h, fun x hx => ?_⟩
      obtain ⟨hu, o, ho, _⟩ := mem_ready.1 hx
      have := h1 x (Array.getElem?_eq_some_iff.1 ho).1
      rw [unlisted_of_getD hu] at this
      cases this
    · have hlt : m < ops.size := by omega
      have hom : ops[m]? = some ops[m] := Array.getElem?_eq_getElem hlt
      refine ⟨fun hr => ?_, fun k hk => ?_⟩
      · have := ready_least rfl hb hl hr m hlt
        rw [h2 m (Nat.le_refl _) hlt] at this
        cases this
      · obtain ⟨hu, o, ho, hedge⟩ := mem_ready.1 hk
        have hku := unlisted_of_getD hu
        have hklt : k < ops.size := (Array.getElem?_eq_some_iff.1 ho).1
        have hkm : m ≤ k := by
          rcases Nat.lt_or_ge k m with hx | hx
          · rw [h1 k hx] at hku; cases hku
          · exact hx
        have hk : k = m := by
          rcases Nat.lt_or_ge m k with hx | hx
          · obtain ⟨e, he, hbd, hon⟩ := ahead_of_edge (tail_ahead ht ho (by omega) hx)
            have := listed_of_getD (hedge e he hbd)
            rw [hon, h2 m (Nat.le_refl _) hlt] at this
            cases this
          · omega
        subst hk
        rw [List.drop_eq_getElem_cons (by simpa using hlt)] at h
        unfold wpList at h
        unfold wpOp
        simp only [hom]
        simp only [Array.getElem_toList] at h
        have next : ∀ a' w', wpList P ops Q (ops.toList.drop (k + 1)) a' w' → wpAny P .any ops Q fuel (listed.setIfInBounds k true) a' w' := by
          intro a' w' h'
          refine ih (k + 1) _ a' w' (by omega) hlt (by omega) (by rw [Array.size_setIfInBounds]; exact hl) ?_ ?_ h'
          · intro j hj
            rw [set_get hku]
            split
            · rfl
            · exact h1 j (by omega)
          · intro j hj hjs
            rw [set_get hku, if_neg (by omega)]
            exact h2 j (by omega) hjs
        split
        · rename_i hw
          rw [if_pos hw] at h
          exact h.imp (Oper.wp_mono next) id
        · rename_i hw
          rw [if_neg hw] at h
          exact next _ _ h
theorem wpAny_held (hb : backOk ops = true) (hap : apartB ops = true) {L : List (List Nat)} (hlo : looksOk ops L = true) {n : Nat} (hnle : n ≤ ops.size) (htl : tailOk ops n = true) {I : World → Prop} {S : World → World → Prop} {R : Nat → Value → World → Prop} {a0 : Act}
    (hsz : ∀ j t, slot ops j = some t → t < a0.tmps.size)
    (hS : ∀ j v w w', S w w' → R j v w → R j v w') (hop : ∀ (k : Nat) (o : Oper), k < n → ops[k]? = some o → Does P ops L I S R a0 k o)
    (hend : ∀ (vals : Nat → Value) (w : World), I w → (∀ j : Nat, j < n → R j (vals j) w) → wpList P ops Q (ops.toList.drop n) (putOf ops vals (List.range n) a0) w) :
    ∀ (fuel : Nat) (listed : Array Bool) (vals : Nat → Value) (a : Act) (w : World), listed.toList.count false ≤ fuel → (∀ j : Nat, n ≤ j → j < ops.size → listed[j]? = some false) → Held ops I R a0 vals listed a w → wpAny P .any ops Q fuel listed a w := by
  have slot_lt : ∀ {j t : Nat}, slot ops j = some t → j < ops.size := by
    intro j t hj
    unfold slot at hj
    cases hk : ops[j]? with
    | none => rw [hk] at hj; cases hj
    | some o => exact (Array.getElem?_eq_some_iff.1 hk).1
  have fin : ∀ (fuel : Nat) (listed : Array Bool) (vals : Nat → Value) (a : Act) (w : World), listed.toList.count false ≤ fuel → (∀ j : Nat, n ≤ j → j < ops.size → listed[j]? = some false) → Held ops I R a0 vals listed a w → (∀ j : Nat, j < n → listed[j]? = some true) → wpAny P .any ops Q fuel listed a w := by
    intro fuel listed vals a w hc hun h hall
    have e : a = putOf ops vals (List.range n) a0 := by
      have et : a.tmps = (putOf ops vals (List.range n) a0).tmps := by
        refine Array.ext_getElem? fun t => ?_
        by_cases hx : ∃ j : Nat, j < n ∧ slot ops j = some t
        · obtain ⟨j, hjn, hj⟩ := hx
          rw [h.new j t (hall j hjn) hj, putOf_mem hap vals _ _ j t (List.mem_range.2 hjn) hj (hsz j t hj)]
        · rw [h.old t (fun j hj e => ?_), putOf_other ops vals _ _ t (fun j hj e => hx ⟨j, List.mem_range.1 hj, e⟩)]
          rcases Nat.lt_or_ge j n with hjn | hjn
          · exact hx ⟨j, hjn, e⟩
          · rw [hun j hjn (slot_lt e)] at hj; cases hj
      have ed : a.defers = (putOf ops vals (List.range n) a0).defers := by rw [putOf_defers]; exact h.defers
      cases a
      generalize putOf ops vals (List.range n) a0 = b at *
      cases b
      simp_all
    have hcnt : ops.size - n ≤ fuel := by
      refine Nat.le_trans ?_ hc
      have h1 : (listed.toList.drop n).count false = ops.size - n := by
        rw [List.count_eq_length.2]
        · simp [h.len]
        · intro b hb'
          obtain ⟨i, hi, rfl⟩ := List.mem_iff_getElem.1 hb'
          simp only [List.length_drop, Array.length_toList] at hi
          have := hun (n + i) (by omega) (by rw [← h.len]; omega)
          rw [Array.getElem?_eq_getElem (by omega)] at this
          simpa using (Option.some.inj this).symm
      rw [← h1]
      exact (List.drop_sublist n _).count_le false
    exact wpAny_tail hb htl fuel n listed a w (Nat.le_refl _) hnle hcnt h.len hall hun (e ▸ hend vals w h.inv (fun j hj => h.got j (hall j hj)))
  intro fuel
  induction fuel with
  | zero =>
    intro listed vals a w hc hun h
    refine fin 0 listed vals a w hc hun h fun j hj => ?_
    have hjl : j < listed.size := by rw [h.len]; omega
    rw [Array.getElem?_eq_getElem hjl]
    have h0 : listed.toList.count false = 0 := by omega
    have := List.count_eq_zero.1 h0
    cases hv : listed[j] with
    | true => rfl
    | false => exact (this (hv ▸ (by simp))).elim
  | succ fuel ih =>
    intro listed vals a w hc hun h
    by_cases hall : ∀ j : Nat, j < n → listed[j]? = some true
    · exact fin _ listed vals a w hc hun h hall
    refine ⟨fun hr => (hall fun j hj => ready_least rfl hb h.len hr j (by omega)).elim, fun k hk => ?_⟩
    obtain ⟨hu, o, ho, hedge⟩ := mem_ready.1 hk
    have hku := unlisted_of_getD hu
    have hklt : k < ops.size := (Array.getElem?_eq_some_iff.1 ho).1
    have hkn : k < n := by
      rcases Nat.lt_or_ge k n with hx | hx
      · exact hx
      · exact (hall fun j hj => by
          obtain ⟨e, he, hbd, hon⟩ := ahead_of_edge (tail_ahead htl ho hx (show j < k by omega))
          exact hon ▸ listed_of_getD (hedge e he hbd)).elim
    have hah : ∀ i ∈ ahead o, listed[i]? = some true := by
      intro i hi
      obtain ⟨e, he, rfl⟩ := List.mem_map.1 hi
      obtain ⟨h1, h2⟩ := List.mem_filter.1 he
      exact listed_of_getD (hedge e (by simpa using h1) h2)
    have hlk := List.all_eq_true.1 hlo k (List.mem_range.2 hklt)
    simp only [ho, Bool.and_eq_true] at hlk
    obtain ⟨⟨hsel, hpre⟩, hlk⟩ := hlk
    have hpre' : ∀ i ∈ L.getD k [], i ∈ ahead o := fun i hi => by simpa using List.all_eq_true.1 hpre i hi
    have hsame : ∀ t ∈ o.looksAt ops, a.tmps[t]? = (putOf ops vals (L.getD k []) a0).tmps[t]? := by
      intro t ht
      have h1 := List.all_eq_true.1 hlk t ht
      by_cases hx : ∃ j : Nat, listed[j]? = some true ∧ slot ops j = some t
      · obtain ⟨j, hj, hjt⟩ := hx
        have hjlt : j < ops.size := by rw [← h.len]; exact (Array.getElem?_eq_some_iff.1 hj).1
        have h2 := List.all_eq_true.1 h1 j (List.mem_range.2 hjlt)
        have hoj : ops[j]? = some ops[j] := Array.getElem?_eq_getElem hjlt
        simp only [hoj, Bool.or_eq_true, bne_iff_ne, ne_eq, List.contains_eq_mem, decide_eq_true_eq] at h2
        have hjin : j ∈ L.getD k [] := by
          rcases h2 with (h2 | h2) | h2
          · exact (h2 hjt).elim
          · exact h2
          · have := h.closed j _ hoj hj k h2
            rw [hku] at this; cases this
        rw [h.new j t hj hjt, putOf_mem hap vals _ _ j t hjin hjt (hsz j t hjt)]
      · rw [h.old t (fun j hj e => hx ⟨j, hj, e⟩), putOf_other ops vals _ _ t (fun j hj e => hx ⟨j, hah j (hpre' j hj), e⟩)]
    have hd := hop k o hkn ho vals w h.inv (fun j hj => h.got j (hah j (hpre' j hj)))
    have hdst : slot ops k = o.dst := by unfold slot; rw [ho]; rfl
    refine wpOp_mono ?_ (wpOp_of_list (Q := Q) (a := a) ho ?_ ?_ (exec_congr (fun cs c e => ?_) hsame) (wanted_congr hsame) hd)
    · rintro a' w' ⟨v, rfl, hI, hSw, hR⟩
      refine ih (listed.setIfInBounds k true) (fun j => if j = k then (if o.dst.isSome then v else undef) else vals j) _ w' (by have := count_set hku; omega) (fun j hj hjs => by rw [set_get hku, if_neg (by omega)]; exact hun j hj hjs) ?_
      refine ⟨hI, ?_, ?_, ?_, ?_, ?_, ?_, ?_⟩
      · rw [Array.size_setIfInBounds]; exact h.len
      · rw [← h.defers]; cases o.dst <;> rfl
      · rw [← h.size]; cases o.dst <;> simp [Act.put]
      · intro j oj hoj hj i hi
        rw [set_get hku] at hj ⊢
        by_cases ei : i = k
        · rw [if_pos ei]
        · rw [if_neg ei]
          by_cases ej : j = k
          · subst ej
            rw [ho] at hoj; cases hoj
            exact hah i hi
          · rw [if_neg ej] at hj
            exact h.closed j oj hoj hj i hi
      · intro t ht
        have hne : o.dst ≠ some t := by rw [← hdst]; exact ht k (by rw [set_get hku, if_pos rfl])
        rw [put_get_ne hne]
        refine h.old t fun j hj => ht j ?_
        rw [set_get hku]; split <;> first | rfl | exact hj
      · intro j t hj hjt
        rw [set_get hku] at hj
        by_cases ej : j = k
        · subst ej
          rw [hdst] at hjt
          rw [hjt, put_get_eq (by rw [h.size]; exact hsz j t (by rw [hdst]; exact hjt)), if_pos rfl]
          simp
        · rw [if_neg ej] at hj ⊢
          have hne : o.dst ≠ some t := by
            intro e
            exact ej (apart_inj hap hjt (by rw [hdst]; exact e))
          rw [put_get_ne hne]
          exact h.new j t hj hjt
      · intro j hj
        rw [set_get hku] at hj
        by_cases ej : j = k
        · subst ej
          rw [if_pos rfl]
          unfold res at hR
          cases hod : o.dst <;> rw [hod] at hR <;> exact hR
        · rw [if_neg ej] at hj ⊢
          exact hS j _ w w' hSw (h.got j hj)
    · intro hnone v u w'
      unfold res
      rw [hnone]
      exact id
    · intro t ht
      rw [putOf_size]
      exact hsz k t (by rw [hdst]; exact ht)
    · rw [e] at hsel; cases hsel
/-- all the checks on a region's text: n operations in any order, N slots; D: the slots that are written; L: what each operation builds on -/
def regOk (ops : Array Oper) (D : List (Option Tmp)) (L : List (List Nat)) (n N : Nat) : Bool := decide (n ≤ ops.size) && tailOk ops n && backOk ops && apartB ops && looksOk ops L &&
  ((List.range ops.size).all fun j => match slot ops j with | some t => decide (t < N) | none => true) && ((List.range ops.size).all fun j => slot ops j == D.getD j none) &&
  (List.range ops.size).all fun k => match (ops[k]?).bind (·.guard) with | none => true | some (g, _) => (L.getD k []).contains g && (D.getD g none).isSome
/-- a frame in which some operations have written: the slots by a list -/
def putD (D : List (Option Tmp)) (vals : Nat → Value) : List Nat → Act → Act
  | [], a => a
  | j :: r, a => putD D vals r (a.put (D.getD j none) (vals j))
theorem putD_eq {D : List (Option Tmp)} (h : ∀ j, j < ops.size → slot ops j = D.getD j none) (vals : Nat → Value) : ∀ (l : List Nat) (a : Act), (∀ j ∈ l, j < ops.size) → putOf ops vals l a = putD D vals l a := by
  intro l
  induction l with
  | nil => intro a _; rfl
  | cons j r ih =>
    intro a hl
    rw [putOf, putD, h j (hl j List.mem_cons_self), ih _ (fun k hk => hl k (List.mem_cons_of_mem _ hk))]
/-- what is owed for one operation whose guard says yes -/
def Goes (P : Program) (D : List (Option Tmp)) (ps : List Nat) (T : World → Value → World → Prop) (a0 : Act) (o : Oper) (vals : Nat → Value) (w : World) : Prop :=
  wpList P #[] (Post (putD D vals ps a0) o.dst (T w)) [{ o with guard := none }] (putD D vals ps a0) w
/-- what is owed for one operation -/
def Owes (P : Program) (D : List (Option Tmp)) (ps : List Nat) (I : World → Prop) (S : World → World → Prop) (R : Nat → Value → World → Prop) (a0 : Act) (k : Nat) (o : Oper) : Prop :=
  ∀ (vals : Nat → Value) (w : World), I w → (∀ j ∈ ps, R j (vals j) w) → match o.guard with
    | none => Goes P D ps (fun w v w' => I w' ∧ S w w' ∧ res o (R k) v w') a0 o vals w
    | some (g, want) => (vals g = .bool want → Goes P D ps (fun w v w' => I w' ∧ S w w' ∧ res o (R k) v w') a0 o vals w) ∧ (vals g ≠ .bool want → S w w ∧ R k undef w)
/-- what is owed for the operations, one after the other -/
def OwesAll (P : Program) (D : List (Option Tmp)) (L : List (List Nat)) (I : World → Prop) (S : World → World → Prop) (R : Nat → Value → World → Prop) (a0 : Act) : Nat → Nat → List Oper → Prop
  | _, 0, _ => True
  | _, _ + 1, [] => True
  | k, n + 1, o :: r => Owes P D (L.getD k []) I S R a0 k o ∧ OwesAll P D L I S R a0 (k + 1) n r
theorem owes_of_all {D : List (Option Tmp)} {L : List (List Nat)} {I : World → Prop} {S : World → World → Prop} {R : Nat → Value → World → Prop} {a0 : Act} : ∀ (l : List Oper) (m n : Nat), OwesAll P D L I S R a0 m n l → ∀ (k : Nat) (o : Oper), k < n → l[k]? = some o → Owes P D (L.getD (m + k) []) I S R a0 (m + k) o := by
  intro l
  induction l with
  | nil => intro m n _ k o _ h; simp at h
  | cons x r ih =>
    intro m n h k o hk hx
    cases n with
    | zero => omega
    | succ n =>
      obtain ⟨h1, h2⟩ := h
      cases k with
      | zero => simp only [List.getElem?_cons_zero, Option.some.injEq] at hx; subst hx; exact h1
      | succ k =>
        simp only [List.getElem?_cons_succ] at hx
        have := ih (m + 1) n h2 k o (by omega) hx
        rwa [show m + 1 + k = m + (k + 1) by omega] at this
theorem wpList_unguarded {o : Oper} {a1 : Act} {w : World} {T : Value → World → Prop} (h : wpList P #[] (Post a1 o.dst T) [{ o with guard := none }] a1 w) : o.wp P a1 w (wpList P ops (Post a1 o.dst T) []) (Post a1 o.dst T) := by
  unfold wpList at h
  rw [if_pos (by simp [Region.wanted])] at h
  rcases h with h | ⟨_, h⟩
  · exact h
  · exact (not_lets h).elim
theorem does_of_owes {D : List (Option Tmp)} {L : List (List Nat)} {I : World → Prop} {S : World → World → Prop} {R : Nat → Value → World → Prop} {a0 : Act} {k : Nat} {o : Oper}
    (hD : ∀ j, j < ops.size → slot ops j = D.getD j none) (hL : ∀ j ∈ L.getD k [], j < ops.size) (hap : apartB ops = true) (hsz : ∀ j t, slot ops j = some t → t < a0.tmps.size)
    (hg : ∀ g want, o.guard = some (g, want) → g ∈ L.getD k [] ∧ (slot ops g).isSome = true) (h : Owes P D (L.getD k []) I S R a0 k o) : Does P ops L I S R a0 k o := by
  intro vals w hI hR
  have h := h vals w hI hR
  unfold Goes at h
  rw [← putD_eq hD vals _ _ hL] at h
  generalize he : putOf ops vals (L.getD k []) a0 = a1 at *
  unfold wpList
  cases hgd : o.guard with
  | none =>
    rw [hgd] at h
    rw [if_pos (by simp [Region.wanted, hgd])]
    exact .inl (wpList_unguarded h)
  | some gw =>
    obtain ⟨g, want⟩ := gw
    rw [hgd] at h
    obtain ⟨h1, h2⟩ := h
    obtain ⟨hgl, hgs⟩ := hg g want hgd
    obtain ⟨t, ht⟩ := Option.isSome_iff_exists.1 hgs
    have hv : a1.tmps[t]? = some (vals g) := by rw [← he]; exact putOf_mem hap vals _ _ g t hgl ht (hsz g t ht)
    have hy : yielded ops a1.tmps g = match vals g with | .bool b => some b | _ => none := by
      unfold yielded
      have : (ops[g]?).bind (·.dst) = some t := ht
      rw [this, Option.bind_some, hv]
      cases vals g <;> rfl
    by_cases hb : vals g = .bool want
    · rw [if_pos (by simp [Region.wanted, hgd, hy, hb])]
      exact .inl (wpList_unguarded (h1 hb))
    · rw [if_neg]
      · obtain ⟨hS, hR⟩ := h2 hb
        refine ⟨undef, rfl, hI, hS, ?_⟩
        unfold res
        cases o.dst <;> exact hR
      · simp only [Region.wanted, hgd, hy]
        cases hx : vals g <;> simp
        rename_i b
        rw [hx] at hb
        intro e
        exact hb (by rw [e])
/-- A REGION THAT DRAWS ITS ORDER: its first n operations come up in any order that the edges allow, the others behind them. Each operation is walked once. I: what holds throughout; S: what a step may change; R k: what the result of operation k is. -/
theorem region_any {id : Nat} {l : List Oper} {a0 : Act} {w0 : World} (n : Nat) (D : List (Option Tmp)) (L : List (List Nat)) (I : World → Prop) (S : World → World → Prop) (R : Nat → Value → World → Prop) (hm : P.follows .mixedOrders = true)
    (hok : regOk l.toArray D L n a0.tmps.size = true) (h0 : I w0.drew)
    (hS : ∀ j v w w', S w w' → R j v w → R j v w')
    (hop : OwesAll P D L I S R a0 0 n l)
    (hend : ∀ (vals : Nat → Value) (w : World), I w → (∀ j : Nat, j < n → R j (vals j) w) → wpList P l.toArray Q (l.drop n) (putD D vals (List.range n) a0) w) :
    (Code.region id l.toArray true).wp P Q a0 w0 := by
  simp only [regOk, Bool.and_eq_true] at hok
  obtain ⟨⟨⟨⟨⟨⟨⟨hnle, htl⟩, hb⟩, hap⟩, hlo⟩, hsz⟩, hD⟩, hgd⟩ := hok
  have hnle' := of_decide_eq_true hnle
  have slot_lt : ∀ {j t : Nat}, slot l.toArray j = some t → j < l.toArray.size := by
    intro j t hj
    unfold slot at hj
    cases hk : l.toArray[j]? with
    | none => rw [hk] at hj; cases hj
    | some o => exact (Array.getElem?_eq_some_iff.1 hk).1
  have hsz' : ∀ j t, slot l.toArray j = some t → t < a0.tmps.size := by
    intro j t hj
    have h1 := List.all_eq_true.1 hsz j (List.mem_range.2 (slot_lt hj))
    simp only [hj] at h1
    exact of_decide_eq_true h1
  have hD' : ∀ j, j < l.toArray.size → slot l.toArray j = D.getD j none := fun j hj => by simpa using List.all_eq_true.1 hD j (List.mem_range.2 hj)
  refine wp_region_any hm ?_
  refine wpAny_held hb hap hlo hnle' htl (I := I) (S := S) (R := R) (a0 := a0) hsz' hS (fun k o hk ho => ?_) (fun vals w hI hR => ?_) _ _ (fun _ => undef) a0 _ ?_ ?_ ?_
  · have hklt : k < l.toArray.size := (Array.getElem?_eq_some_iff.1 ho).1
    have h1 := owes_of_all l 0 n hop k o hk (by simpa using ho)
    rw [Nat.zero_add] at h1
    have hlk := List.all_eq_true.1 hlo k (List.mem_range.2 hklt)
    simp only [ho, Bool.and_eq_true] at hlk
    refine does_of_owes hD' (fun j hj => ?_) hap hsz' (fun g want hg => ?_) h1
    · have h2 : j ∈ ahead o := by simpa using List.all_eq_true.1 hlk.1.2 j hj
      have h3 := List.all_eq_true.1 hb k (List.mem_range.2 hklt)
      simp only [ho] at h3
      have := of_decide_eq_true (List.all_eq_true.1 h3 j h2)
      omega
    · have h2 := List.all_eq_true.1 hgd k (List.mem_range.2 hklt)
      simp only [ho, Option.bind_some, hg, Bool.and_eq_true] at h2
      have hgl : g ∈ L.getD k [] := by simpa using h2.1
      refine ⟨hgl, ?_⟩
      have h4 : g ∈ ahead o := by simpa using List.all_eq_true.1 hlk.1.2 g hgl
      have h3 := List.all_eq_true.1 hb k (List.mem_range.2 hklt)
      simp only [ho] at h3
      have := of_decide_eq_true (List.all_eq_true.1 h3 g h4)
      rw [hD' g (by omega)]; exact h2.2
  · rw [putD_eq hD' vals _ _ (fun j hj => by have := List.mem_range.1 hj; omega)]
    exact hend vals w hI hR
  · simp
  · intro j _ hj
    rw [Array.getElem?_replicate, if_pos hj]
  · refine ⟨h0, by simp, rfl, rfl, ?_, fun _ _ => rfl, ?_, ?_⟩
    · intro j o _ hj
      rw [Array.getElem?_replicate] at hj
      split at hj <;> simp at hj
    · intro j t hj
      rw [Array.getElem?_replicate] at hj
      split at hj <;> simp at hj
    · intro j hj
      rw [Array.getElem?_replicate] at hj
      split at hj <;> simp at hj
/-- a list of predicates, each of which outlives a step -/
def Stab (S : World → World → Prop) : List (Value → World → Prop) → Prop
  | [] => True
  | r :: t => (∀ v w w', S w w' → r v w → r v w') ∧ Stab S t
def at_ (RL : List (Value → World → Prop)) (j : Nat) (v : Value) (w : World) : Prop := RL.getD j (fun _ _ => True) v w
theorem Stab.at {S : World → World → Prop} : ∀ {RL : List (Value → World → Prop)}, Stab S RL → ∀ j v w w', S w w' → at_ RL j v w → at_ RL j v w' := by
  intro RL
  induction RL with
  | nil => intro _ j v w w' _ _; exact trivial
  | cons r t ih =>
    rintro ⟨h1, h2⟩ j v w w' hS h
    cases j with
    | zero => exact h1 v w w' hS h
    | succ j => exact ih h2 j v w w' hS h
theorem region_l {id : Nat} {l : List Oper} {a0 : Act} {w0 : World} (n : Nat) (D : List (Option Tmp)) (L : List (List Nat)) (I : World → Prop) (S : World → World → Prop) (RL : List (Value → World → Prop)) (hm : P.follows .mixedOrders = true)
    (hok : regOk l.toArray D L n a0.tmps.size = true) (h0 : I w0.drew) (hS : Stab S RL)
    (hop : OwesAll P D L I S (at_ RL) a0 0 n l)
    (hend : ∀ (vals : Nat → Value) (w : World), I w → (∀ j : Nat, j < n → at_ RL j (vals j) w) → wpList P l.toArray Q (l.drop n) (putD D vals (List.range n) a0) w) :
    (Code.region id l.toArray true).wp P Q a0 w0 := region_any n D L I S (at_ RL) hm hok h0 hS.at hop hend
/-- what the slots hold that come in -/
def Lives (a : Act) : List (Nat × Value) → Prop
  | [] => True
  | x :: r => a.eval (.tmp x.1) = x.2 ∧ Lives a r
theorem Lives.at {a : Act} : ∀ {l : List (Nat × Value)}, Lives a l → ∀ (i : Nat) (x : Nat × Value), l[i]? = some x → a.eval (.tmp x.1) = x.2 := by
  intro l
  induction l with
  | nil => intro _ i x h; simp at h
  | cons y r ih =>
    rintro ⟨h1, h2⟩ i x h
    cases i with
    | zero => simp only [List.getElem?_cons_zero, Option.some.injEq] at h; subst h; exact h1
    | succ i => simp only [List.getElem?_cons_succ] at h; exact ih h2 i x h
theorem eval_of_get {a b : Act} {t : Nat} (h : a.tmps[t]? = b.tmps[t]?) : a.eval (.tmp t) = b.eval (.tmp t) := tmp_congr h
theorem eval_old {D : List (Option Tmp)} {vals : Nat → Value} {t : Nat} : ∀ {ps : List Nat} {a0 : Act}, (ps.all fun j => D.getD j none != some t) = true → (putD D vals ps a0).eval (.tmp t) = a0.eval (.tmp t) := by
  intro ps
  induction ps with
  | nil => intro a0 _; rfl
  | cons j r ih =>
    intro a0 h
    simp only [List.all_cons, Bool.and_eq_true, bne_iff_ne, ne_eq] at h
    rw [putD, ih h.2]
    exact eval_of_get (put_get_ne h.1)
theorem putD_size (D : List (Option Tmp)) (vals : Nat → Value) (l : List Nat) (a : Act) : (putD D vals l a).tmps.size = a.tmps.size := by
  induction l generalizing a with
  | nil => rfl
  | cons j r ih => rw [putD, ih]; cases D.getD j none <;> simp [Act.put]
theorem eval_new {D : List (Option Tmp)} {vals : Nat → Value} {t : Nat} (j : Nat) (hD : D.getD j none = some t) : ∀ {ps : List Nat} {a0 : Act}, j ∈ ps → (ps.all fun i => i == j || D.getD i none != some t) = true → t < a0.tmps.size →
    (putD D vals ps a0).eval (.tmp t) = vals j := by
  intro ps
  induction ps with
  | nil => intro a0 h; cases h
  | cons i r ih =>
    intro a0 hj h hs
    simp only [List.all_cons, Bool.and_eq_true] at h
    rw [putD]
    by_cases hr : j ∈ r
    · exact ih hr h.2 (by cases D.getD i none <;> simp [Act.put, hs])
    · obtain rfl : j = i := (List.mem_cons.1 hj).resolve_right hr
      have hno : (r.all fun i => D.getD i none != some t) = true := by
        rw [List.all_eq_true] at h ⊢
        intro k hk
        have := h.2 k hk
        simp only [Bool.or_eq_true, beq_iff_eq] at this
        rcases this with e | e
        · exact (hr (e ▸ hk)).elim
        · exact e
      rw [eval_old hno, hD]
      simp only [Act.eval, Array.getD_eq_getD_getElem?, put_get_eq hs, Option.getD_some]
theorem goes_val {o : Oper} {a1 : Act} {w w' : World} {T : Value → World → Prop} (v : Value) (hg : o.guard = none) (h : (execOp a1.eval o).run P w = .ok (.value v) w') (hT : T v w') : wpList P #[] (Post a1 o.dst T) [o] a1 w := by
  unfold wpList
  rw [if_pos (by simp [Region.wanted, hg])]
  refine .inl ?_
  unfold Oper.wp
  rw [h]
  exact ⟨v, rfl, hT⟩
theorem goes_skip {o : Oper} {a1 : Act} {w w' : World} {T : Value → World → Prop} (hg : o.guard = none) (h : (execOp a1.eval o).run P w = .ok .skip w') (hT : T undef w') : wpList P #[] (Post a1 o.dst T) [o] a1 w := by
  unfold wpList
  rw [if_pos (by simp [Region.wanted, hg])]
  refine .inl ?_
  unfold Oper.wp
  rw [h]
  exact ⟨undef, rfl, hT⟩
theorem goes_call {o : Oper} {a1 : Act} {w : World} {T : Value → World → Prop} (f : FuncId) (args : Array Value) (w' : World) (hg : o.guard = none) (h : (execOp a1.eval o).run P w = .ok (.enter f args) w')
    (hT : Calls P f args w' fun e w'' => ∃ v, e = .returned v ∧ T v w'') : wpList P #[] (Post a1 o.dst T) [o] a1 w := by
  unfold wpList
  rw [if_pos (by simp [Region.wanted, hg])]
  refine .inl ?_
  unfold Oper.wp
  rw [h]
  refine Calls.mono hT fun e w'' he => ?_
  obtain ⟨v, rfl, ht⟩ := he
  exact ⟨v, rfl, ht⟩
/-- the same rule, each operation over a frame of which only the slots that come in are known -/
theorem region_f {id : Nat} {l : List Oper} {a0 : Act} {w0 : World} (n N : Nat) (D : List (Option Tmp)) (L : List (List Nat)) (LV : List (Nat × Value)) (I : World → Prop) (S : World → World → Prop) (RL : List (Value → World → Prop)) (hm : P.follows .mixedOrders = true)
    (hok : regOk l.toArray D L n N = true) (hN : a0.tmps.size = N) (hLV : Lives a0 LV) (h0 : I w0.drew) (hS : Stab S RL)
    (hop : ∀ b0 : Act, b0.tmps.size = N → Lives b0 LV → OwesAll P D L I S (at_ RL) b0 0 n l)
    (hend : ∀ (vals : Nat → Value) (w : World), I w → (∀ j : Nat, j < n → at_ RL j (vals j) w) → wpList P l.toArray Q (l.drop n) (putD D vals (List.range n) a0) w) :
    (Code.region id l.toArray true).wp P Q a0 w0 := region_l n D L I S RL hm (hN ▸ hok) h0 hS (hop a0 hN hLV) hend
end Go.Proofs.Ytfgmhidgkemfoaa.Roll
namespace Go.Proofs.Ytfgmhidgkemfoaa
open Go.RowKit
set_option linter.unusedSimpArgs false
set_option linter.unusedVariables false
/-- the fields of a Value behind its kind -/
structure PV where
  u : Nat
  n : Int
  b : Bool
  s : List UInt8
  l : List Int
def VM.pv (m : VM) : PV := ⟨m.u, m.n, m.b, m.s.data.toList, m.l⟩
def encP (k : Nat) (p : PV) : List UInt8 := if k % 5 = 0 then encU p.u else if k % 5 = 1 then encI p.n else if k % 5 = 2 then encB p.b else if k % 5 = 3 then encT p.s else encL p.l
theorem encV_eq (m : VM) : encV m = encP m.k m.pv := rfl
def psame (k : Nat) (p q : PV) : Bool := if k % 5 = 0 then p.u == q.u else if k % 5 = 1 then p.n == q.n else if k % 5 = 2 then p.b == q.b else if k % 5 = 3 then p.s == q.s else p.l == q.l
/-- reading a Value of a kind -/
def rVal (k : Nat) (s : RS) (most : Int) : PV × RS :=
  if k % 5 = 0 then (⟨(rUint s).1, 0, false, [], []⟩, (rUint s).2) else if k % 5 = 1 then (⟨0, (rInt s).1, false, [], []⟩, (rInt s).2)
  else if k % 5 = 2 then (⟨0, 0, (rBool s).1, [], []⟩, (rBool s).2) else if k % 5 = 3 then (⟨0, 0, false, (rText s most).1, []⟩, (rText s most).2)
  else (⟨0, 0, false, [], (rInts s most).1⟩, (rInts s most).2)
def rcell (mk : Nat) : Array Value := #[.int .u8 (mk : Int), .int .u64 0, .int .i64 0, .bool false, .string ⟨#[]⟩, .slice none 0 0]
theorem VM.cells_arr (m : VM) : m.cells.toArray = #[.int .u8 (m.k : Int), .int .u64 (m.u : Int), .int .i64 m.n, .bool m.b, .string m.s, .slice m.a m.ln m.c] := rfl
def rzero : Array Value := #[.int .u8 0, .int .u64 0, .int .i64 0, .bool false, .string ⟨#[]⟩, .slice none 0 0]
theorem rOk_nil (D : Nat → Prop) (w : World) (mk : Nat) (hm : mk < 256) (u : Nat) (hu : u < 18446744073709551616) (n : Int) (h1 : -9223372036854775808 ≤ n) (h2 : n ≤ 9223372036854775807) (b : Bool) (s : ByteArray) (hs : s.size ≤ 9223372036854775807) : VOk D w ⟨mk, u, n, b, s, none, 0, 0, []⟩ :=
  ⟨hm, hu, h1, h2, hs, ⟨rfl, Sl.empty D w none 0 1 (Nat.zero_le _) (fun _ => rfl)⟩, fun x hx => by cases hx⟩
theorem rset_one (mk j : Nat) (V : Value) (hV : V.oneCell' = true) : ((rcell mk).setIfInBounds j V).all (·.oneCell') = true := by
  rw [Array.all_eq_true']
  intro x hx
  rcases Array.mem_or_eq_of_mem_setIfInBounds hx with h | h
  · simp [rcell] at h
    rcases h with rfl | rfl | rfl | rfl | rfl | rfl <;> rfl
  · rw [h]; exact hV
end Go.Proofs.Ytfgmhidgkemfoaa
namespace Go.Proofs.Ytfgmhidgkemfoaa
open Go.RowKit
set_option linter.unusedSimpArgs false
set_option linter.unusedVariables false
theorem Sl.dom2 {D D' : Nat → Prop} {w : World} {a : Option Addr} {n c : Nat} {xs : List Value} {size : Nat} (h : Sl D w a n c xs size) (hz : 0 < size) (hd : ∀ b, b < w.heap.size → D b → D' b) : Sl D' w a n c xs size := by
  obtain ⟨h1, h2, h3, h4, h5⟩ := h
  refine ⟨h1, h2, h3, h4, fun hn => ?_⟩
  obtain ⟨b, off, hD, ha, hr⟩ := h5 hn
  exact ⟨b, off, hd b (range_lt hr (by rw [h1]; exact Nat.mul_pos hn hz)) hD, ha, hr⟩
theorem VOk.dom2 {D D' : Nat → Prop} {w : World} {m : VM} (h : VOk D w m) (hd : ∀ b, b < w.heap.size → D b → D' b) : VOk D' w m := ⟨h.k, h.u, h.n1, h.n2, h.s, ⟨h.l.1, h.l.2.dom2 (by decide) hd⟩, h.l64⟩
def vcells (ms : List VM) : List Value := ms.flatMap VM.cells
theorem vcells_len (ms : List VM) : (vcells ms).length = ms.length * 6 := by
  unfold vcells
  induction ms with
  | nil => rfl
  | cons m r ih => rw [List.flatMap_cons, List.length_append, ih, List.length_cons]; simp [VM.cells]; omega
theorem vcells_app (ms ns : List VM) : vcells (ms ++ ns) = vcells ms ++ vcells ns := by simp [vcells]
theorem VM.cells_len (m : VM) : m.cells.length = 6 := rfl
theorem vcells_get (ms : List VM) : ∀ (i j : Nat) (hi : i < ms.length), j < 6 → (vcells ms)[i * 6 + j]? = ms[i].cells[j]? := by
  induction ms with
  | nil => intro i j hi; simp at hi
  | cons m r ih =>
    intro i j hi hj
    have e : vcells (m :: r) = m.cells ++ vcells r := rfl
    cases i with
    | zero => rw [e, List.getElem?_append_left (by rw [VM.cells_len]; omega)]; simp
    | succ i =>
      rw [e, List.getElem?_append_right (by rw [VM.cells_len]; omega), VM.cells_len, show (i + 1) * 6 + j - 6 = i * 6 + j by omega]
      simpa using ih i j (by simpa using hi) hj
/-- a slice of Values -/
def Vs (D : Nat → Prop) (w : World) (a : Option Addr) (n c : Nat) (ms : List VM) : Prop := ms.length = n ∧ Sl D w a n c (vcells ms) 6 ∧ ∀ m ∈ ms, VOk D w m
theorem Vs.kept {D S : Nat → Prop} {w w' : World} {a : Option Addr} {n c : Nat} {ms : List VM} (h : Vs D w a n c ms) (hk : Kept S w w') (hd : ∀ b, b < w.heap.size → D b → ¬ S b) : Vs D w' a n c ms := ⟨h.1, h.2.1.kept (by decide) hk hd, fun m hm => (h.2.2 m hm).kept hk hd⟩
theorem Vs.at {D : Nat → Prop} {w : World} {a : Option Addr} {n c : Nat} {ms : List VM} (h : Vs D w a n c ms) (hn : 0 < n) : ∃ b off, D b ∧ b < w.heap.size ∧ a = some ⟨b, off, none⟩ ∧ ∀ i (hi : i < ms.length), w.rangeAt b (off + i * 6) ms[i].cells := by
  obtain ⟨h1, ⟨h2, h3, h4, h5, h6⟩, h7⟩ := h
  obtain ⟨b, off, hD, ha, hr⟩ := h6 hn
  refine ⟨b, off, hD, range_lt hr (by rw [h2]; omega), ha, fun i hi j v hv => ?_⟩
  have hj : j < 6 := by have := (List.getElem?_eq_some_iff.1 hv).1; rwa [VM.cells_len] at this
  rw [Nat.add_assoc]
  exact hr (i * 6 + j) v (by rw [vcells_get ms i j hi hj]; exact hv)
/-- the kind and the fields -/
def VM.kp (m : VM) : Nat × PV := (m.k, m.pv)
def PV.cut (p : PV) : PV := { p with s := p.s.take 20, l := p.l.take 20 }
def cutkp (x : Nat × PV) : Nat × PV := (x.1, x.2.cut)
theorem vcells_one (ms : List VM) : ∀ u ∈ vcells ms, u.oneCell' = true := by
  intro u hu
  obtain ⟨m, _, hm⟩ := List.mem_flatMap.1 hu
  simp [VM.cells] at hm
  rcases hm with rfl | rfl | rfl | rfl | rfl | rfl <;> rfl
theorem Is.reach {D : Nat → Prop} {w : World} {a : Option Addr} {n c : Nat} {l : List Int} (h : Is D w a n c l) : n ≤ c ∧ c ≤ maxLen := ⟨h.2.2.1, h.2.2.2.1⟩
end Go.Proofs.Ytfgmhidgkemfoaa
namespace Go.Proofs.Ytfgmhidgkemfoaa
open Go.RowKit
set_option linter.unusedSimpArgs false
set_option linter.unusedVariables false
theorem encV_len (D : Nat → Prop) (w : World) (m : VM) (h : VOk D w m) (hs : VShort m) : (encV m).length ≤ 20000000 := by
  unfold encV
  have h1 := encU_len10 m.u h.u
  have h2 := encI_len m.n h.n1 h.n2
  have h3 := hs.1
  have h4 := hs.2
  have h5 : m.s.data.toList.length = m.s.size := by rw [Array.length_toList]; rfl
  have h6 := encIs_len m.l h.l64
  have h7 := h.l.1
  split
  · omega
  · split
    · omega
    · split
      · unfold encB; split <;> simp
      · split
        · unfold encT
          have := encU_len10 m.s.data.toList.length (by omega)
          rw [List.length_append]; omega
        · unfold encL
          have := encU_len10 m.l.length (by omega)
          rw [List.length_append]; omega
theorem Vs.dom2 {D D' : Nat → Prop} {w : World} {a : Option Addr} {n c : Nat} {ms : List VM} (h : Vs D w a n c ms) (hd : ∀ b, b < w.heap.size → D b → D' b) : Vs D' w a n c ms := ⟨h.1, h.2.1.dom2 (by decide) hd, fun m hm => (h.2.2 m hm).dom2 hd⟩
theorem take_encV (ms : List VM) (i : Nat) (h : i < ms.length) : (ms.take (i + 1)).flatMap encV = (ms.take i).flatMap encV ++ encV ms[i] := by
  rw [List.take_succ_eq_append_getElem h, List.flatMap_append]; simp
theorem encVs_len (D : Nat → Prop) (w : World) (ms : List VM) : (∀ m ∈ ms, VOk D w m ∧ VShort m) → (ms.flatMap encV).length ≤ 20000000 * ms.length := by
  induction ms with
  | nil => intro _; simp
  | cons m r ih =>
    intro h
    have h1 := encV_len D w m (h m (by simp)).1 (h m (by simp)).2
    have h2 := ih (fun x hx => h x (by simp [hx]))
    simp only [List.flatMap_cons, List.length_append, List.length_cons]
    omega
theorem Wr.new (w : World) : Wr (w.alloc (.cells #[.slice none 0 0] 75)) w.heap.size none [] := ⟨_, heap_new rfl, Own.nil _ _ _, by simp⟩
end Go.Proofs.Ytfgmhidgkemfoaa
namespace Go.Proofs.Ytfgmhidgkemfoaa
open Go.ChangeShapes Go.WideShapes Go.ChangeAt Go.RowKit
theorem own : ownKnob Try.prog.godebug = none := by kernel_rfl
theorem laidOut : laidOutB Try.prog = true := by kernel_rfl
theorem cells1b : Try.prog.cellsOf 5 = 1 := by kernel_rfl
theorem cells1i : Try.prog.cellsOf 3 = 1 := by kernel_rfl
/-- the blocks that were there -/
def Old (W : World) (b : Nat) : Prop := b < W.heap.size
theorem Sl.of_cells {W : World} {ad : Addr} {n c : Nat} {xs : List Value} {size : Nat} (hz : 0 < size) (hl : xs.length = n * size) (hn : n ≤ c) (hm : c ≤ maxLen) (hc : ∀ j u, xs[j]? = some u → W.cell? (ad.add j) = some u) : Sl (Old W) W (some ad) n c xs size := by
  refine ⟨hl, hn, hm, (fun h => by cases h), fun hp => ?_⟩
  obtain ⟨ab, ao, spot⟩ := ad
  have h0 : xs[0]? = some (xs[0]'(by rw [hl]; exact Nat.mul_pos hp hz)) := List.getElem?_eq_getElem _
  have hspot : spot = none := by simpa [Addr.add] using World.cell?_spot (hc 0 _ h0)
  subst hspot
  have hr : W.rangeAt ab ao xs := fun j u hu => by have := hc j u hu; rwa [Addr.add_mid] at this
  exact ⟨ab, ao, range_lt hr (by rw [hl]; exact Nat.mul_pos hp hz), rfl, hr⟩
section
variable {H : Type} {enc : TypeId × Value → H} {W : World} {base : Nat} {held : Bool}
theorem ints_of_trod {fuel : Nat} {cs : List Value} {x : DataW H × List MemPlace} (h : DataW.trod enc Try.prog W base (fun _ => true) held fuel 23 cs = some x) : ∃ a n c l, cs = [.slice a n c] ∧ Is (Old W) W a n c l ∧ Ok64 l := by
  rcases open_ints Try.underlying23 Try.underlying3 cells1i h with ⟨hcs, hx⟩ | ⟨a, n, c, zs, hcs, _, hl, hm, hz, hx, hcell, hwz⟩
  · exact ⟨none, 0, 0, [], hcs, ⟨rfl, Sl.empty _ _ _ _ _ (Nat.zero_le _) (fun _ => rfl)⟩, fun _ h => by cases h⟩
  · simp only [if_true] at hz
    refine ⟨some a, n, c, zs.take n, hcs, ⟨by rw [List.length_take]; omega, Sl.of_cells (by decide) (by rw [ivals_len, List.length_take]; omega) hl hm fun j u hu => ?_⟩, fun x hx => bounds_i64 (hwz x (List.mem_of_mem_take hx))⟩
    rw [ivals_take, List.getElem?_take] at hu
    split at hu
    · rename_i hj
      have hjz : j < zs.length := by omega
      rw [hcell j hjz]
      rw [← hu]
      simp [ivals, List.getD, hjz]
    · cases hu
/-- a slice of bytes that came in -/
theorem open_bs {base0 : Nat} {v : Value} {d : DataW H} {p : List MemPlace} (hval : Value.okWide Try.prog W .any base0 71 v) (h : DataW.Trod enc Try.prog W base (fun _ => true) held 71 v d p) :
    ∃ a n c l, v = .slice a n c ∧ Bs (Old W) W a n c l := by
  obtain ⟨a1, n, c, rfl⟩ := okWide_slice Try.underlying71 hval
  obtain ⟨fuel, hf⟩ := h
  rcases open_ints Try.underlying71 Try.underlying5 cells1b hf with ⟨hcs, hx⟩ | ⟨a, n', c', zs, hcs, _, hl, hm, hz, hx, hcell, hwz⟩
  · simp [Value.cells] at hcs
    obtain ⟨rfl, rfl, rfl⟩ := hcs
    exact ⟨none, 0, 0, [], rfl, rfl, Sl.empty _ _ _ _ _ (Nat.zero_le _) (fun _ => rfl)⟩
  · simp [Value.cells] at hcs
    obtain ⟨rfl, rfl, rfl⟩ := hcs
    simp only [if_true] at hz
    refine ⟨some a, n, c, (zs.take n).map fun n => UInt8.ofNat n.toNat, rfl, by simp; omega, Sl.of_cells (by decide) (by rw [vals_len]; simp; omega) hl hm fun j u hu => ?_⟩
    have hj : j < n := by
      have := (List.getElem?_eq_some_iff.1 hu).1
      rw [vals_len] at this
      simp at this
      omega
    have hjz : j < zs.length := by omega
    have hb := bounds_u8 (hwz _ (List.getElem_mem hjz))
    rw [hcell j hjz, ← hu]
    simp only [vals, List.map_map, List.getElem?_map, List.getElem?_take, if_pos hj, List.getElem?_eq_getElem hjz, Option.map_some, Function.comp, List.getD, Option.getD_some]
    congr 2
    simp only [UInt8.toNat_ofNat']
    omega
/-- a slice of numbers that came in -/
theorem open_is {base0 : Nat} {v : Value} {d : DataW H} {p : List MemPlace} (hval : Value.okWide Try.prog W .any base0 23 v) (h : DataW.Trod enc Try.prog W base (fun _ => true) held 23 v d p) :
    ∃ a n c l, v = .slice a n c ∧ Is (Old W) W a n c l ∧ Ok64 l := by
  obtain ⟨a1, n1, c1, rfl⟩ := okWide_slice Try.underlying23 hval
  obtain ⟨fuel, hf⟩ := h
  obtain ⟨a, n, c, l, hcs, h1, h2⟩ := ints_of_trod hf
  simp [Value.cells] at hcs
  obtain ⟨rfl, rfl, rfl⟩ := hcs
  exact ⟨_, _, _, l, rfl, h1, h2⟩
end
end Go.Proofs.Ytfgmhidgkemfoaa
namespace Go.Proofs.Ytfgmhidgkemfoaa
theorem rUint_enc (n : Nat) (r : List UInt8) (h : n < 18446744073709551616) : rUint ⟨encU n ++ r, 0⟩ = (n, ⟨r, 0⟩) := by
  rw [rUint_ok _ rfl]
  have := fnum_enc n r 0 0 (by simpa using h) (by omega) (by omega)
  simp only [this, Nat.zero_add, Nat.pow_zero, Nat.mul_one, List.drop_left]
theorem rInt_enc (n : Int) (r : List UInt8) (h1 : -9223372036854775808 ≤ n) (h2 : n ≤ 9223372036854775807) : rInt ⟨encI n ++ r, 0⟩ = (n, ⟨r, 0⟩) := by
  unfold rInt encI
  rw [rUint_enc _ _ (zig_lt n h1 h2)]
  simp only [zag_zig]
theorem rBool_enc (b : Bool) (r : List UInt8) : rBool ⟨encB b ++ r, 0⟩ = (b, ⟨r, 0⟩) := by cases b <;> rfl
theorem rLen_enc (n : Nat) (r : List UInt8) (most : Int) (h : n < 18446744073709551616) (hm : (n : Int) ≤ most) : rLen ⟨encU n ++ r, 0⟩ most = (n, ⟨r, 0⟩) := by
  unfold rLen
  rw [rUint_enc n r h, if_neg (by simp only; omega)]
theorem rText_enc (s r : List UInt8) (most : Int) (h : s.length < 18446744073709551616) (hm : (s.length : Int) ≤ most) : rText ⟨encT s ++ r, 0⟩ most = (s, ⟨r, 0⟩) := by
  unfold rText encT
  rw [List.append_assoc, rLen_enc _ _ most h hm, if_neg (by simp only [List.length_append]; omega)]
  simp only [List.take_left, List.drop_left]
theorem rIntsGo_enc (l : List Int) : ∀ (acc : List Int) (r : List UInt8), Ok64 l → rIntsGo l.length acc ⟨l.flatMap encI ++ r, 0⟩ = (acc ++ l, ⟨r, 0⟩) := by
  induction l with
  | nil => intro acc r _; simp [rIntsGo]
  | cons x t ih =>
    intro acc r h
    have hx := h x (by simp)
    have ht : Ok64 t := fun y hy => h y (by simp [hy])
    rw [List.flatMap_cons, List.length_cons, rIntsGo, List.append_assoc, rInt_enc x _ hx.1 hx.2, if_pos rfl, ih _ _ ht]
    simp
theorem rInts_enc (l : List Int) (r : List UInt8) (most : Int) (h : Ok64 l) (hl : l.length < 18446744073709551616) (hm : (l.length : Int) ≤ most) : rInts ⟨encL l ++ r, 0⟩ most = (l, ⟨r, 0⟩) := by
  unfold rInts encL
  rw [List.append_assoc, rLen_enc _ _ most hl hm]
  simpa using rIntsGo_enc l [] r h
/-- a Value's fields lie in their types' bounds; its string and its list are no longer than most -/
structure PFits (p : PV) (most : Nat) : Prop where
  u : p.u < 18446744073709551616
  n1 : -9223372036854775808 ≤ p.n
  n2 : p.n ≤ 9223372036854775807
  s : p.s.length ≤ most
  l : p.l.length ≤ most
  l64 : Ok64 p.l
/-- the field that a kind has, alone -/
def strip (k : Nat) (p : PV) : PV := if k % 5 = 0 then ⟨p.u, 0, false, [], []⟩ else if k % 5 = 1 then ⟨0, p.n, false, [], []⟩ else if k % 5 = 2 then ⟨0, 0, p.b, [], []⟩ else if k % 5 = 3 then ⟨0, 0, false, p.s, []⟩ else ⟨0, 0, false, [], p.l⟩
theorem psame_strip (k : Nat) (p : PV) : psame k p (strip k p) = true := by
  unfold psame strip
  by_cases h0 : k % 5 = 0
  · simp [h0]
  · by_cases h1 : k % 5 = 1
    · simp [h1]
    · by_cases h2 : k % 5 = 2
      · simp [h2]
      · by_cases h3 : k % 5 = 3
        · simp [h3]
        · simp [h0, h1, h2, h3]
theorem rVal_enc (k : Nat) (p : PV) (r : List UInt8) (most : Nat) (h : PFits p most) (hm : most ≤ 1000000) : rVal k ⟨encP k p ++ r, 0⟩ most = (strip k p, ⟨r, 0⟩) := by
  have hs := h.s
  have hl := h.l
  unfold rVal encP strip
  by_cases h0 : k % 5 = 0
  · simp only [if_pos h0, rUint_enc p.u r h.u]
  · by_cases h1 : k % 5 = 1
    · simp only [if_neg h0, if_pos h1, rInt_enc p.n r h.n1 h.n2]
    · by_cases h2 : k % 5 = 2
      · simp only [if_neg h0, if_neg h1, if_pos h2, rBool_enc p.b r]
      · by_cases h3 : k % 5 = 3
        · simp only [if_neg h0, if_neg h1, if_neg h2, if_pos h3, rText_enc p.s r most (by omega) (by omega)]
        · simp only [if_neg h0, if_neg h1, if_neg h2, if_neg h3, rInts_enc p.l r most h.l64 (by omega) (by omega)]
/-- what few leaves fits -/
theorem cut_fits {D : Nat → Prop} {w : Go.World} {m : VM} (h : VOk D w m) {x : Nat × PV} (hx : m.kp = cutkp x) : PFits m.pv 20 ∧ VShort m := by
  have hp : m.pv = x.2.cut := congrArg Prod.snd hx
  have hs : m.s.data.toList = x.2.s.take 20 := congrArg PV.s hp
  have hl : m.l = x.2.l.take 20 := congrArg PV.l hp
  have e1 : m.s.data.toList.length ≤ 20 := by rw [hs, List.length_take]; omega
  have e2 : m.l.length ≤ 20 := by rw [hl, List.length_take]; omega
  have e3 : m.s.size = m.s.data.toList.length := by rw [Array.length_toList]; rfl
  have e4 := h.l.1
  exact ⟨⟨h.u, h.n1, h.n2, e1, e2, h.l64⟩, by omega, by omega⟩
end Go.Proofs.Ytfgmhidgkemfoaa
namespace Go.Proofs.Ytfgmhidgkemfoaa
open Go.RowKit
set_option linter.unusedSimpArgs false
set_option linter.unusedVariables false
theorem Vs.below {D : Nat → Prop} {w w' : World} {a : Option Addr} {n c : Nat} {ms : List VM} (h : Vs D w a n c ms) (hb : Below w.heap.size w w') : Vs D w' a n c ms := h.kept (Kept.of_below (fun _ => False) hb) (fun _ _ _ h => h)
theorem Vs.dom {D D' : Nat → Prop} {w : World} {a : Option Addr} {n c : Nat} {ms : List VM} (h : Vs D w a n c ms) (hd : ∀ b, D b → D' b) : Vs D' w a n c ms := ⟨h.1, h.2.1.dom hd, fun m hm => (h.2.2 m hm).dom hd⟩
/-- what few leaves -/
structure Few12 (w : World) (a : Option Addr) (n c : Nat) (ns : List VM) (w1 : World) : Prop where
  vs : Vs (fun b => w.heap.size ≤ b ∧ b < w1.heap.size) w1 a n c ns
  fit : ∀ m ∈ ns, PFits m.pv 20 ∧ VShort m
  len : ns.length ≤ 12
  bel : Below w.heap.size w w1
theorem range_kept {S : Nat → Prop} {w w' : World} {b o : Nat} {cs : List Value} (h : w.rangeAt b o cs) (hb : b < w.heap.size) (hk : Kept S w w') (hs : ¬ S b) : w'.rangeAt b o cs := fun j v hv => (hk.cell (p := ⟨b, o + j, none⟩) hb hs).trans (h j v hv)
theorem exec_at_zero {ρ : Operand → Value} {o : Oper} {l : List Oper} {h : 0 < (o :: l).toArray.size} : execOp ρ ((o :: l).toArray[0]'h) = execOp ρ o := rfl
theorem exec_at_succ {ρ : Operand → Value} {o : Oper} {l : List Oper} {n : Nat} {h : n + 1 < (o :: l).toArray.size} : execOp ρ ((o :: l).toArray[n + 1]'h) = execOp ρ (l.toArray[n]'(by simpa using h)) := rfl
theorem Rd.drew {w : World} {g : Nat} {k : Option Nat} {l : List UInt8} {e : Nat} (h : Rd w g k l e) : Rd w.drew g k l e := h.kept ((Kept.refl (fun _ => False) w).drew) (fun h => h) (fun _ _ h => h)
theorem drop_encV (ns : List VM) (i : Nat) (h : i < ns.length) : (ns.drop i).flatMap encV = encV ns[i] ++ (ns.drop (i + 1)).flatMap encV := by
  rw [List.drop_eq_getElem_cons h, List.flatMap_cons]
theorem rVal_at (m : VM) (r : List UInt8) (h : PFits m.pv 20) : rVal m.k ⟨encV m ++ r, 0⟩ 20 = (strip m.k m.pv, ⟨r, 0⟩) := by
  rw [encV_eq]
  exact rVal_enc m.k m.pv r 20 h (by omega)
end Go.Proofs.Ytfgmhidgkemfoaa
namespace Go.Proofs.Ytfgmhidgkemfoaa
open Go.RowKit
set_option linter.unusedSimpArgs false
set_option linter.unusedVariables false
def pzero : PV := ⟨0, 0, false, [], []⟩
theorem rVal_err (k : Nat) (l : List UInt8) (e : Nat) (he : e ≠ 0) (most : Int) : rVal k ⟨l, e⟩ most = (pzero, ⟨l, e⟩) := by
  have h1 := rUint_err ⟨l, e⟩ he
  have z0 : zag 0 = 0 := by decide
  have h2 : rInt ⟨l, e⟩ = (0, ⟨l, e⟩) := by unfold rInt; rw [h1]; simp only [z0]
  have h3 : rBool ⟨l, e⟩ = (false, ⟨l, e⟩) := by unfold rBool; rw [if_neg he]
  have h4 : rLen ⟨l, e⟩ most = (0, ⟨l, e⟩) := by
    unfold rLen
    rw [h1]
    split
    · simp only [RS.fail, if_neg he]
    · rfl
  have h5 : rText ⟨l, e⟩ most = ([], ⟨l, e⟩) := by
    unfold rText
    rw [h4]
    simp
  have h6 : rInts ⟨l, e⟩ most = ([], ⟨l, e⟩) := by
    unfold rInts
    rw [h4]
    rfl
  unfold rVal pzero
  rw [h1, h2, h3, h5, h6]
  split
  · rfl
  · split
    · rfl
    · split
      · rfl
      · split <;> rfl
theorem psame_refl (k : Nat) (p : PV) : psame k p p = true := by
  unfold psame
  split
  · simp
  · split
    · simp
    · split
      · simp
      · split <;> simp
theorem rVal_sizes (k : Nat) (s : RS) (most : Int) : True := trivial
/-- a Value with its kind alone -/
def kindVM (k : Nat) : VM := ⟨k, 0, 0, false, ⟨#[]⟩, none, 0, 0, []⟩
theorem kind_ok (D : Nat → Prop) (w : World) (k : Nat) (h : k < 256) : VOk D w (kindVM k) := rOk_nil D w k h 0 (by omega) 0 (by omega) (by omega) false ⟨#[]⟩ (Nat.zero_le _)
end Go.Proofs.Ytfgmhidgkemfoaa
namespace Go.Proofs.Ytfgmhidgkemfoaa
/-- a proper prefix -/
def Cut (p x : List UInt8) : Prop := ∃ q, q ≠ [] ∧ x = p ++ q
theorem Cut.split {p x r : List UInt8} (h : Cut p (x ++ r)) : (Cut p x) ∨ ∃ p', p = x ++ p' ∧ Cut p' r := by
  obtain ⟨q, hq, e⟩ := h
  rcases List.append_eq_append_iff.1 e with ⟨t, h1, h2⟩ | ⟨t, h1, h2⟩
  · exact .inr ⟨t, h1, q, hq, h2⟩
  · cases t with
    | nil => exact .inr ⟨[], by simpa using h1.symm, q, hq, by simpa using h2.symm⟩
    | cons y t => exact .inl ⟨y :: t, by simp, h1⟩
theorem cut_len {p x : List UInt8} (h : Cut p x) : p.length < x.length := by
  obtain ⟨q, hq, rfl⟩ := h
  have : 0 < q.length := List.length_pos_iff.2 hq
  rw [List.length_append]; omega
theorem rUint_cut (n : Nat) (p : List UInt8) (h : n < 18446744073709551616) (hc : Cut p (encU n)) : rUint ⟨p, 0⟩ = (0, ⟨p, 6⟩) := by
  rw [rUint_ok _ rfl]
  have := fnum_cut n p 0 0 (by simpa using h) (by omega) hc
  simp only [this, List.drop_zero]
theorem rInt_cut (n : Int) (p : List UInt8) (h1 : -9223372036854775808 ≤ n) (h2 : n ≤ 9223372036854775807) (hc : Cut p (encI n)) : rInt ⟨p, 0⟩ = (0, ⟨p, 6⟩) := by
  have z0 : zag 0 = 0 := by decide
  unfold rInt
  rw [rUint_cut (zig n) p (zig_lt n h1 h2) hc]
  simp only [z0]
theorem rBool_cut (b : Bool) (p : List UInt8) (hc : Cut p (encB b)) : (rBool ⟨p, 0⟩).2.e = 6 := by
  have h := cut_len hc
  have h1 : (encB b).length = 1 := by cases b <;> rfl
  have : p = [] := List.eq_nil_of_length_eq_zero (by omega)
  subst this
  rfl
theorem rLen_cut (n : Nat) (p : List UInt8) (most : Int) (h : n < 18446744073709551616) (h0 : 0 ≤ most) (hc : Cut p (encU n)) : rLen ⟨p, 0⟩ most = (0, ⟨p, 6⟩) := by
  unfold rLen
  rw [rUint_cut n p h hc, if_neg (by simp only; omega)]
theorem rText_cut (s p : List UInt8) (most : Int) (h : s.length < 18446744073709551616) (hm : (s.length : Int) ≤ most) (hc : Cut p (encT s)) : (rText ⟨p, 0⟩ most).2.e = 6 := by
  unfold rText
  rcases Cut.split hc with h1 | ⟨p', rfl, h2⟩
  · rw [rLen_cut _ _ most h (by omega) h1, if_neg (by simp)]
  · rw [rLen_enc _ _ most h hm]
    have := cut_len h2
    rw [if_pos (by simpa using this)]
    rfl
theorem rIntsGo_cut (l : List Int) : ∀ (acc : List Int) (p : List UInt8), Ok64 l → Cut p (l.flatMap encI) → (rIntsGo l.length acc ⟨p, 0⟩).2.e = 6 := by
  induction l with
  | nil => intro acc p _ hc; have := cut_len hc; simp at this
  | cons x t ih =>
    intro acc p h hc
    have hx := h x (by simp)
    rw [List.flatMap_cons] at hc
    rw [List.length_cons, rIntsGo]
    rcases Cut.split hc with h1 | ⟨p', rfl, h2⟩
    · rw [rInt_cut x p hx.1 hx.2 h1, if_neg (by simp)]
    · rw [rInt_enc x p' hx.1 hx.2, if_pos rfl]
      exact ih _ p' (fun y hy => h y (by simp [hy])) h2
theorem rInts_cut (l : List Int) (p : List UInt8) (most : Int) (h : Ok64 l) (hl : l.length < 18446744073709551616) (hm : (l.length : Int) ≤ most) (hc : Cut p (encL l)) : (rInts ⟨p, 0⟩ most).2.e = 6 := by
  unfold rInts
  rcases Cut.split hc with h1 | ⟨p', rfl, h2⟩
  · rw [rLen_cut _ _ most hl (by omega) h1]
    rfl
  · rw [rLen_enc _ _ most hl hm]
    exact rIntsGo_cut l [] p' h h2
theorem rVal_cut (k : Nat) (p : PV) (x : List UInt8) (h : PFits p 20) (hc : Cut x (encP k p)) : (rVal k ⟨x, 0⟩ 20).2.e = 6 := by
  have hs := h.s
  have hl := h.l
  unfold rVal
  unfold encP at hc
  by_cases h0 : k % 5 = 0
  · rw [if_pos h0] at hc ⊢; rw [rUint_cut p.u x h.u hc]
  · rw [if_neg h0] at hc ⊢
    by_cases h1 : k % 5 = 1
    · rw [if_pos h1] at hc ⊢; rw [rInt_cut p.n x h.n1 h.n2 hc]
    · rw [if_neg h1] at hc ⊢
      by_cases h2 : k % 5 = 2
      · rw [if_pos h2] at hc ⊢; exact rBool_cut p.b x hc
      · rw [if_neg h2] at hc ⊢
        by_cases h3 : k % 5 = 3
        · rw [if_pos h3] at hc ⊢; exact rText_cut p.s x 20 (by omega) (by omega) hc
        · rw [if_neg h3] at hc ⊢; exact rInts_cut p.l x 20 h.l64 (by omega) (by omega) hc
theorem rIntsGo_len (n : Nat) : ∀ (acc : List Int) (s : RS), (rIntsGo n acc s).2.l.length ≤ s.l.length := by
  induction n with
  | zero => intro acc s; exact Nat.le_refl _
  | succ n ih =>
    intro acc s
    have h1 : (rInt s).2.l.length ≤ s.l.length := rUint_len s
    rw [rIntsGo]
    split
    · exact Nat.le_trans (ih _ _) h1
    · exact h1
theorem rVal_len (k : Nat) (s : RS) (most : Int) : (rVal k s most).2.l.length ≤ s.l.length := by
  unfold rVal
  split
  · exact rUint_len s
  · split
    · exact rUint_len s
    · split
      · unfold rBool
        split
        · obtain ⟨l, e⟩ := s
          cases l <;> simp
        · exact Nat.le_refl _
      · split
        · unfold rText
          have h := rLen_len s most
          split
          · exact h
          · simp only [List.length_drop]; omega
        · exact Nat.le_trans (rIntsGo_len _ _ _) (rLen_len s most)
/-- where WireCut's loop stands: the rest of the bytes is a proper prefix of the rest of the encodings, or the error is recorded -/
def CutAt (rest : List UInt8) (l : List UInt8) (e : Nat) : Prop := (e = 0 ∧ Cut l rest) ∨ e = 6
theorem CutAt.step {m : VM} {r l : List UInt8} {e : Nat} (h : CutAt (encV m ++ r) l e) (hf : PFits m.pv 20) : CutAt r (rVal m.k ⟨l, e⟩ 20).2.l (rVal m.k ⟨l, e⟩ 20).2.e := by
  rcases h with ⟨rfl, hc⟩ | rfl
  · rcases Cut.split hc with h1 | ⟨p', rfl, h2⟩
    · exact .inr (rVal_cut m.k m.pv l hf h1)
    · rw [rVal_at m p' hf]
      exact .inl ⟨rfl, h2⟩
  · rw [rVal_err m.k l 6 (by omega) 20]
    exact .inr rfl
theorem CutAt.last {l : List UInt8} {e : Nat} (h : CutAt [] l e) : e = 6 := by
  rcases h with ⟨_, hc⟩ | h
  · have := cut_len hc; simp at this
  · exact h
theorem encU_pos (n : Nat) : encU n ≠ [] := fun h => by have := encU_len_pos n; rw [h] at this; simp at this
theorem encV_pos (m : VM) : encV m ≠ [] := by
  unfold encV
  split
  · exact encU_pos _
  · split
    · exact encU_pos _
    · split
      · unfold encB; split <;> simp
      · split
        · unfold encT; intro h; exact encU_pos _ (List.append_eq_nil_iff.1 h).1
        · unfold encL; intro h; exact encU_pos _ (List.append_eq_nil_iff.1 h).1
end Go.Proofs.Ytfgmhidgkemfoaa

/-
  A disk: the mathematics, and how it lies in memory.
-/
import Derived.Test.YtbnodhcgdgcebaaRows
import Derived.Test.YtbnodhcgdgcebaaS1
import Derived.Test.YtbnodhcgdgcebaaA0
namespace Go.Proofs.Ytbnodhcgdgcebaa
open Go.RowKit
/-- for each sector its durable bytes and the unflushed writes; the power; the fuse, 0 if there is none -/
structure DM where
  S : List (List (List UInt8))
  on : Bool
  fuse : Nat
def dur (s : List (List UInt8)) : List UInt8 := s.headD []
def lastB (s : List (List UInt8)) : List UInt8 := s.getLastD []
def DM.burn (d : DM) : DM := if d.fuse = 0 then d else ⟨d.S, decide (1 < d.fuse), d.fuse - 1⟩
def DM.write (d : DM) (k : Nat) (b : List UInt8) : DM := DM.burn ⟨d.S.modify k (· ++ [b]), d.on, d.fuse⟩
def DM.flush (d : DM) : DM := DM.burn ⟨d.S.map fun s => [lastB s], d.on, d.fuse⟩
def DM.setFuse (d : DM) (n : Int) : DM := if d.on then ⟨d.S, n != 0, n.toNat⟩ else d
/-- what survives of a sector -/
def surv (s : List (List UInt8)) (wr by_ : Int) : List UInt8 :=
  let i := min wr.toNat (s.length - 1)
  match s[i + 1]? with
  | some b => b.take (min by_.toNat 64) ++ (s.getD i []).drop (min by_.toNat 64)
  | none => s.getD i []
/-- an element that says what survives -/
structure TM where
  sector : Int
  writes : Int
  bytes : Int
def firstOf (ts : List TM) (k : Nat) : Option TM := ts.find? fun t => t.sector == (k : Int)
/-- the sectors when some elements have been looked at -/
def DM.torn (S : List (List (List UInt8))) (ts : List TM) : List (List (List UInt8)) := S.mapIdx fun k s => match firstOf ts k with | some t => [surv s t.writes t.bytes] | none => s
def DM.restart (d : DM) (ts : List TM) : DM := ⟨(DM.torn d.S ts).map fun s => [dur s], true, 0⟩
def zeroB : List UInt8 := List.replicate 64 0
def DM.new (n : Nat) : DM := ⟨List.replicate n [zeroB], true, 0⟩
/-- all sectors have their durable bytes, at most N unflushed writes, and 64 bytes each -/
def DM.Ok (d : DM) (N : Nat) : Prop := 1 ≤ d.S.length ∧ d.S.length ≤ 4096 ∧ d.fuse ≤ 9223372036854775807 ∧ ∀ s ∈ d.S, s ≠ [] ∧ s.length ≤ N + 1 ∧ ∀ b ∈ s, b.length = 64
theorem DM.Ok.mono {d : DM} {N M : Nat} (h : d.Ok N) (hM : N ≤ M) : d.Ok M := ⟨h.1, h.2.1, h.2.2.1, fun s hs => ⟨(h.2.2.2 s hs).1, by have := (h.2.2.2 s hs).2.1; omega, (h.2.2.2 s hs).2.2⟩⟩
theorem DM.burn_S (d : DM) : d.burn.S = d.S := by unfold DM.burn; split <;> rfl
theorem DM.burn_ok {d : DM} {N : Nat} (h : d.Ok N) : d.burn.Ok N := by
  unfold DM.burn
  split
  · exact h
  · exact ⟨h.1, h.2.1, by show d.fuse - 1 ≤ _; have := h.2.2.1; omega, h.2.2.2⟩
theorem lastB_mem {s : List (List UInt8)} (h : s ≠ []) : lastB s ∈ s := by
  unfold lastB
  cases s with
  | nil => exact absurd rfl h
  | cons x r =>
    rw [List.getLastD_eq_getLast?, List.getLast?_eq_some_getLast (by simp)]
    exact List.getLast_mem _
theorem dur_mem {s : List (List UInt8)} (h : s ≠ []) : dur s ∈ s := by
  cases s with
  | nil => exact absurd rfl h
  | cons x r => simp [dur]
theorem DM.write_ok {d : DM} {N k : Nat} {b : List UInt8} (h : d.Ok N) (hb : b.length = 64) : (d.write k b).Ok (N + 1) := by
  refine DM.burn_ok ⟨?_, ?_, h.2.2.1, ?_⟩
  · simpa using h.1
  · simpa using h.2.1
  · intro s hs
    simp only at hs
    obtain ⟨i, hi, rfl⟩ := List.mem_iff_getElem.1 hs
    rw [List.getElem_modify]
    have hi' : i < d.S.length := by simpa using hi
    obtain ⟨h1, h2, h3⟩ := h.2.2.2 _ (List.getElem_mem hi')
    split
    · refine ⟨by simp, by simp; omega, fun x hx => ?_⟩
      rcases List.mem_append.1 hx with hx | hx
      · exact h3 x hx
      · rw [List.mem_singleton.1 hx]; exact hb
    · exact ⟨h1, by omega, h3⟩
theorem DM.flush_ok {d : DM} {N : Nat} (h : d.Ok N) : (d.flush).Ok 0 := by
  refine DM.burn_ok ⟨by simpa using h.1, by simpa using h.2.1, h.2.2.1, ?_⟩
  intro s hs
  obtain ⟨s', hs', rfl⟩ := List.mem_map.1 hs
  obtain ⟨h1, h2, h3⟩ := h.2.2.2 s' hs'
  exact ⟨by simp, by simp, fun b hb => by rw [List.mem_singleton.1 hb]; exact h3 _ (lastB_mem h1)⟩
theorem surv_len {s : List (List UInt8)} (h : s ≠ []) (h64 : ∀ b ∈ s, b.length = 64) (wr by_ : Int) : (surv s wr by_).length = 64 := by
  unfold surv
  have hp : 0 < s.length := List.length_pos_iff.2 h
  have hi : min wr.toNat (s.length - 1) < s.length := by omega
  have hg : s.getD (min wr.toNat (s.length - 1)) [] ∈ s := by
    rw [List.getD_eq_getElem?_getD, List.getElem?_eq_getElem hi, Option.getD_some]; exact List.getElem_mem hi
  simp only
  split
  · rename_i b hb
    have h1 := h64 b (List.mem_of_getElem? hb)
    have h2 := h64 _ hg
    rw [List.length_append, List.length_take, List.length_drop]
    omega
  · exact h64 _ hg
theorem DM.torn_ok {S : List (List (List UInt8))} {N : Nat} (h : ∀ s ∈ S, s ≠ [] ∧ s.length ≤ N + 1 ∧ ∀ b ∈ s, b.length = 64) (ts : List TM) : ∀ s ∈ DM.torn S ts, s ≠ [] ∧ s.length ≤ N + 1 ∧ ∀ b ∈ s, b.length = 64 := by
  intro s hs
  unfold DM.torn at hs
  obtain ⟨i, hi, rfl⟩ := List.mem_iff_getElem.1 hs
  rw [List.getElem_mapIdx]
  have hi' : i < S.length := by simpa using hi
  have := h _ (List.getElem_mem hi')
  cases firstOf ts i with
  | none => exact this
  | some t => exact ⟨by simp, by simp, fun b hb => by rw [List.mem_singleton.1 hb]; exact surv_len this.1 this.2.2 _ _⟩
theorem DM.torn_len (S : List (List (List UInt8))) (ts : List TM) : (DM.torn S ts).length = S.length := by simp [DM.torn]
theorem DM.restart_ok {d : DM} {N : Nat} (h : d.Ok N) (ts : List TM) : (d.restart ts).Ok 0 := by
  refine ⟨by simpa [DM.restart, DM.torn_len] using h.1, by simpa [DM.restart, DM.torn_len] using h.2.1, by simp [DM.restart], ?_⟩
  intro s hs
  obtain ⟨s', hs', rfl⟩ := List.mem_map.1 hs
  obtain ⟨h1, h2, h3⟩ := DM.torn_ok h.2.2.2 ts s' hs'
  exact ⟨by simp, by simp, fun b hb => by rw [List.mem_singleton.1 hb]; exact h3 _ (dur_mem h1)⟩
theorem DM.new_ok {n : Nat} (h1 : 1 ≤ n) (h2 : n ≤ 4096) : (DM.new n).Ok 0 := by
  refine ⟨by simpa [DM.new] using h1, by simpa [DM.new] using h2, by simp [DM.new], ?_⟩
  intro s hs
  rw [List.eq_of_mem_replicate hs]
  exact ⟨by simp, by simp, fun b hb => by rw [List.mem_singleton.1 hb]; simp [zeroB]⟩
/-- the cells of sectors, one after the other -/
def scells (l : List (List UInt8)) : List Value := l.flatMap vals
theorem scells_app (l m : List (List UInt8)) : scells (l ++ m) = scells l ++ scells m := by simp [scells]
theorem scells_one (l : List (List UInt8)) : ∀ u ∈ scells l, u.oneCell' = true := by
  intro u hu
  obtain ⟨b, _, hb⟩ := List.mem_flatMap.1 hu
  exact vals_one b u hb
theorem scells_len {l : List (List UInt8)} (h : ∀ b ∈ l, b.length = 64) : (scells l).length = l.length * 64 := by
  unfold scells
  induction l with
  | nil => rfl
  | cons b r ih =>
    rw [List.flatMap_cons, List.length_append, vals_len, h b (by simp), ih (fun x hx => h x (by simp [hx])), List.length_cons]
    omega
theorem scells_take {l : List (List UInt8)} (h : ∀ b ∈ l, b.length = 64) (i : Nat) : (scells l).take (i * 64) = scells (l.take i) := by
  induction l generalizing i with
  | nil => simp [scells]
  | cons b r ih =>
    cases i with
    | zero => simp [scells]
    | succ i =>
      have hb := h b (by simp)
      have e : scells (b :: r) = vals b ++ scells r := rfl
      rw [e, List.take_append, vals_len, hb, List.take_of_length_le (by rw [vals_len]; omega), show (i + 1) * 64 - 64 = i * 64 by omega, ih (fun x hx => h x (by simp [hx])), List.take_succ_cons]
      rfl
theorem scells_drop {l : List (List UInt8)} (h : ∀ b ∈ l, b.length = 64) (i : Nat) : (scells l).drop (i * 64) = scells (l.drop i) := by
  induction l generalizing i with
  | nil => simp [scells]
  | cons b r ih =>
    cases i with
    | zero => simp [scells]
    | succ i =>
      have hb := h b (by simp)
      have e : scells (b :: r) = vals b ++ scells r := rfl
      rw [e, List.drop_append, vals_len, hb, List.drop_of_length_le (by rw [vals_len]; omega), show (i + 1) * 64 - 64 = i * 64 by omega, ih (fun x hx => h x (by simp [hx])), List.drop_succ_cons, List.nil_append]
theorem scells_get {l : List (List UInt8)} (h : ∀ b ∈ l, b.length = 64) (i j : Nat) (hi : i < l.length) (hj : j < 64) : (scells l)[i * 64 + j]? = (vals l[i])[j]? := by
  have e : (scells l)[i * 64 + j]? = ((scells l).drop (i * 64))[j]? := by rw [List.getElem?_drop]
  rw [e, scells_drop h, List.drop_eq_getElem_cons hi]
  have e2 : scells (l[i] :: l.drop (i + 1)) = vals l[i] ++ scells (l.drop (i + 1)) := rfl
  rw [e2, List.getElem?_append_left (by rw [vals_len, h _ (List.getElem_mem hi)]; exact hj)]
theorem scells_set {l : List (List UInt8)} (h : ∀ b ∈ l, b.length = 64) (i : Nat) (hi : i < l.length) (b : List UInt8) : scells (l.set i b) = (scells l).take (i * 64) ++ vals b ++ (scells l).drop (i * 64 + 64) := by
  rw [scells_take h, show i * 64 + 64 = (i + 1) * 64 by omega, scells_drop h, List.set_eq_take_append_cons_drop, if_pos hi, scells_app]
  simp [scells]
theorem size64 : (Try.prog.info? 94).map (·.size) = some 64 := by kernel_rfl
def Z64 : Array Value := (List.replicate 64 (.int .u8 0)).toArray
theorem info94 : (Try.prog.info? 94).map (fun i => (i.zero, i.size, i.bytes)) = some (some (.agg Z64), 64, 64) := by kernel_rfl
/-- a disk in memory: its block g, the durable bytes in block gd, the map of unflushed writes in block gm, those of sector k in block row k -/
structure Dk (w : World) (g gd gm : Nat) (row : Nat → Option Nat) (N : Nat) (d : DM) : Prop where
  ok : d.Ok N
  self : ∃ cap cur, w.heap[g]? = some (.cells #[.slice (some ⟨gd, 0, none⟩) d.S.length cap, .map (some gm), .bool d.on, .int .i64 (d.fuse : Int)] 92 (0, 0)) ∧
    w.heap[gd]? = some (.cells cur 94 (0, 0)) ∧ d.S.length ≤ cap ∧ cap ≤ maxLen ∧ cur.size = cap * 64 ∧ cur.toList.take (d.S.length * 64) = scells (d.S.map dur)
  map : ∃ M f, Mp w gm M f ∧ (∀ k : Int, f k ≠ none → 0 ≤ k ∧ k < d.S.length) ∧
    ∀ (k : Nat) (hk : k < d.S.length), (d.S[k].tail = [] ∧ f k = none ∧ row k = none) ∨ (d.S[k].tail ≠ [] ∧ ∃ gk v, row k = some gk ∧ f k = some v ∧ Own w 94 64 (some gk) v d.S[k].tail.length (scells d.S[k].tail))
  dom : ∀ k j, row k = some j → k < d.S.length
  inj : ∀ i j g', row i = some g' → row j = some g' → i = j
  apart : ∀ i g', row i = some g' → g' ≠ gd
/-- the blocks of a disk -/
def Blk (g gd gm : Nat) (row : Nat → Option Nat) (j : Nat) : Prop := j = g ∨ j = gd ∨ j = gm ∨ ∃ k, row k = some j
theorem Dk.lt {w : World} {g gd gm : Nat} {row : Nat → Option Nat} {N : Nat} {d : DM} (h : Dk w g gd gm row N d) : ∀ j, Blk g gd gm row j → j < w.heap.size := by
  obtain ⟨cap, cur, h1, h2, _⟩ := h.self
  obtain ⟨M, f, hm, _, hr⟩ := h.map
  rintro j (rfl | rfl | rfl | ⟨k, hk⟩)
  · exact heap_lt h1
  · exact heap_lt h2
  · exact hm.lt
  · rcases hr k (h.dom k j hk) with ⟨_, _, h0⟩ | ⟨_, gk, v, hg, _, ho⟩
    · rw [h0] at hk; cases hk
    · rw [hg] at hk; cases hk; exact ho.lt _ rfl
theorem Dk.kept {S : Nat → Prop} {w w' : World} {g gd gm : Nat} {row : Nat → Option Nat} {N : Nat} {d : DM} (h : Dk w g gd gm row N d) (hk : Kept S w w') (hs : ∀ j, Blk g gd gm row j → ¬ S j) : Dk w' g gd gm row N d := by
  obtain ⟨hok, ⟨cap, cur, h1, h2, h3⟩, ⟨M, f, hm, hf, hr⟩, hdom, hinj, hap⟩ := h
  refine ⟨hok, ⟨cap, cur, hk.heap h1 (hs _ (.inl rfl)), hk.heap h2 (hs _ (.inr (.inl rfl))), h3⟩, ⟨M, f, hm.kept hk (hs _ (.inr (.inr (.inl rfl)))), hf, fun k hkl => ?_⟩, hdom, hinj, hap⟩
  rcases hr k hkl with h0 | ⟨h0, gk, v, hg, hv, ho⟩
  · exact .inl h0
  · exact .inr ⟨h0, gk, v, hg, hv, ho.kept hk (fun j hj => by cases hj; exact hs _ (.inr (.inr (.inr ⟨k, hg⟩))))⟩
/-- a disk, whose blocks lie in B -/
def DkO (w : World) (B : Nat → Prop) (g N : Nat) (d : DM) : Prop := ∃ gd gm row, Dk w g gd gm row N d ∧ (∀ j, Blk g gd gm row j → B j) ∧ ∀ j, B j → j < w.heap.size
theorem DkO.kept {S : Nat → Prop} {w w' : World} {B : Nat → Prop} {g N : Nat} {d : DM} (h : DkO w B g N d) (hk : Kept S w w') (hs : ∀ j, B j → ¬ S j) : DkO w' B g N d := by
  obtain ⟨gd, gm, row, h1, h2, h3⟩ := h
  exact ⟨gd, gm, row, h1.kept hk (fun j hj => hs j (h2 j hj)), h2, fun j hj => Nat.lt_of_lt_of_le (h3 j hj) hk.size⟩
theorem DkO.below {w w' : World} {B : Nat → Prop} {g N : Nat} {d : DM} (h : DkO w B g N d) (hb : Below w.heap.size w w') : DkO w' B g N d := h.kept (Kept.of_below (fun _ => False) hb) (fun _ _ h => h)
theorem DkO.ok {w : World} {B : Nat → Prop} {g N : Nat} {d : DM} (h : DkO w B g N d) : d.Ok N := by
  obtain ⟨_, _, _, h1, _⟩ := h
  exact h1.ok
/-- what a method of a disk does -/
def DOp (B : Nat → Prop) (g N : Nat) (w : World) (d : DM) (w' : World) : Prop := ∃ B', DkO w' B' g N d ∧ Kept B w w' ∧ ∀ j, B' j → B j ∨ w.heap.size ≤ j
theorem Dk.own {w : World} {g gd gm : Nat} {row : Nat → Option Nat} {N : Nat} {d : DM} (h : Dk w g gd gm row N d) : DkO w (Blk g gd gm row) g N d := ⟨gd, gm, row, h, fun _ h => h, h.lt⟩
/-- the fields -/
theorem Dk.facts {w : World} {g gd gm : Nat} {row : Nat → Option Nat} {N : Nat} {d : DM} (h : Dk w g gd gm row N d) : ∃ cap, d.S.length ≤ cap ∧ cap ≤ 9223372036854775807 ∧ w.cell? ⟨g, 0, none⟩ = some (.slice (some ⟨gd, 0, none⟩) d.S.length cap) ∧ w.cell? ⟨g, 1, none⟩ = some (.map (some gm)) ∧ w.cell? ⟨g, 2, none⟩ = some (.bool d.on) ∧ w.cell? ⟨g, 3, none⟩ = some (.int .i64 (d.fuse : Int)) ∧
    ∀ j, w.frozen? ⟨g, j, none⟩ = false := by
  obtain ⟨cap, cur, h1, _, h3, h4, _⟩ := h.self
  refine ⟨cap, h3, h4, ?_, ?_, ?_, ?_, fun j => frozen_of_row w g j _ _ h1⟩ <;> (rw [cell_of_row w g _ _ _ _ h1]; rfl)
end Go.Proofs.Ytbnodhcgdgcebaa

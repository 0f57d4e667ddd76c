/-
  Restart: the mathematics, and what the map of unflushed writes says of a key.
-/
import Derived.Test.YtbnodhcgdgcebaaS8
namespace Go.Proofs.Ytbnodhcgdgcebaa
open Go.RowKit
set_option linter.unusedSimpArgs false
set_option linter.unusedVariables false
theorem surv_one {s : List (List UInt8)} (h : s ≠ []) (ht : s.tail = []) (wr by_ : Int) : [surv s wr by_] = s := by
  match s, h, ht with
  | [x], _, _ => simp [surv]
theorem firstOf_snoc (ts : List TM) (t : TM) (k : Nat) : firstOf (ts ++ [t]) k = (firstOf ts k).or (if t.sector = (k : Int) then some t else none) := by
  unfold firstOf
  rw [List.find?_append]
  congr 1
  by_cases h : t.sector = (k : Int)
  · simp [h]
  · simp [h]
theorem torn_get (S : List (List (List UInt8))) (ts : List TM) (k : Nat) (hk : k < S.length) (hk2 : k < (DM.torn S ts).length) : (DM.torn S ts)[k] = match firstOf ts k with | some t => [surv S[k] t.writes t.bytes] | none => S[k] := by
  simp only [DM.torn, List.getElem_mapIdx]
  cases firstOf ts k <;> rfl
theorem torn_skip {S : List (List (List UInt8))} (h0 : ∀ s ∈ S, s ≠ []) (ts : List TM) (t : TM) (h : ∀ (k : Nat) (hk : k < (DM.torn S ts).length), t.sector = (k : Int) → (DM.torn S ts)[k].tail = []) : DM.torn S (ts ++ [t]) = DM.torn S ts := by
  apply List.ext_getElem (by simp [DM.torn_len])
  intro k hk hk2
  have hkS : k < S.length := by simpa [DM.torn_len] using hk2
  rw [torn_get S _ k hkS, torn_get S ts k hkS]
  rw [firstOf_snoc]
  cases hf : firstOf ts k with
  | some t0 => simp
  | none =>
    by_cases hs : t.sector = (k : Int)
    · simp only [hs, if_true, Option.none_or]
      have := h k hk2 hs
      rw [torn_get S ts k hkS, hf] at this
      exact surv_one (h0 _ (List.getElem_mem hkS)) this _ _
    · simp [hs]
theorem torn_set {S : List (List (List UInt8))} (ts : List TM) (t : TM) (k : Nat) (hk : k < (DM.torn S ts).length) (hs : t.sector = (k : Int)) (ht : (DM.torn S ts)[k].tail ≠ []) : DM.torn S (ts ++ [t]) = (DM.torn S ts).set k [surv (DM.torn S ts)[k] t.writes t.bytes] := by
  have hkS : k < S.length := by simpa [DM.torn_len] using hk
  have hf : firstOf ts k = none := by
    cases hf : firstOf ts k with
    | none => rfl
    | some t0 => rw [torn_get S ts k hkS, hf] at ht; exact absurd rfl ht
  apply List.ext_getElem (by simp [DM.torn_len])
  intro j hj hj2
  have hjS : j < S.length := by simpa [DM.torn_len] using hj
  rw [torn_get S _ j hjS, firstOf_snoc, List.getElem_set]
  by_cases e : j = k
  · subst e
    rw [hf]
    simp only [hs, if_true, Option.none_or]
    rw [torn_get S ts j hkS, hf]
  · have e1 : ¬ t.sector = (j : Int) := by rw [hs]; omega
    have e2 : ¬ k = j := fun e2 => e e2.symm
    rw [if_neg e1, if_neg e2, Option.or_none, torn_get S ts j hjS]
theorem torn_nil (S : List (List (List UInt8))) : DM.torn S [] = S := by
  apply List.ext_getElem (by simp [DM.torn_len])
  intro k hk hk2
  rw [torn_get S [] k hk2]
  rfl
/-- elements that say what survives, in memory -/
def tcells (ts : List TM) : List Value := ts.flatMap fun t => [.int .i64 t.sector, .int .i64 t.writes, .int .i64 t.bytes]
def TOk (t : TM) : Prop := -9223372036854775808 ≤ t.sector ∧ t.sector ≤ 9223372036854775807
def Ts (D : Nat → Prop) (w : World) (a : Option Addr) (n c : Nat) (ts : List TM) : Prop := ts.length = n ∧ Sl D w a n c (tcells ts) 3 ∧ ∀ t ∈ ts, TOk t
theorem tcells_get (ts : List TM) (i j : Nat) (hi : i < ts.length) (hj : j < 3) : (tcells ts)[i * 3 + j]? = [Value.int .i64 ts[i].sector, .int .i64 ts[i].writes, .int .i64 ts[i].bytes][j]? := by
  unfold tcells
  induction ts generalizing i with
  | nil => simp at hi
  | cons t r ih =>
    rw [List.flatMap_cons]
    cases i with
    | zero =>
      rw [List.getElem?_append_left (by simpa using hj), Nat.zero_mul, Nat.zero_add]
      rfl
    | succ i =>
      rw [List.getElem?_append_right (by simp; omega), show (i + 1) * 3 + j - [Value.int .i64 t.sector, .int .i64 t.writes, .int .i64 t.bytes].length = i * 3 + j by simp; omega, ih i (by simpa using hi)]
      rfl
theorem Ts.kept {D S : Nat → Prop} {w w' : World} {a : Option Addr} {n c : Nat} {ts : List TM} (h : Ts D w a n c ts) (hk : Kept S w w') (hd : ∀ b, b < w.heap.size → D b → ¬ S b) : Ts D w' a n c ts := ⟨h.1, h.2.1.kept (by decide) hk hd, h.2.2⟩
theorem Ts.at {D : Nat → Prop} {w : World} {a : Option Addr} {n c : Nat} {ts : List TM} (h : Ts D w a n c ts) (hp : 0 < n) : ∃ b off, D b ∧ b < w.heap.size ∧ a = some ⟨b, off, none⟩ ∧ ∀ (i : Nat) (hi : i < ts.length), w.rangeAt b (off + i * 3) [.int .i64 ts[i].sector, .int .i64 ts[i].writes, .int .i64 ts[i].bytes] := by
  obtain ⟨h1, ⟨h2, h3, h4, h5, h6⟩, h7⟩ := h
  obtain ⟨b, off, hD, ha, hr⟩ := h6 hp
  refine ⟨b, off, hD, range_lt hr (by omega), ha, fun i hi j v hv => ?_⟩
  have hj : j < 3 := (List.getElem?_eq_some_iff.1 hv).1
  rw [Nat.add_assoc]
  exact hr (i * 3 + j) v (by rw [tcells_get ts i j hi hj]; exact hv)
section
variable {w : World} {g gd gm : Nat} {row : Nat → Option Nat} {N : Nat} {d : DM}
theorem Dk.lookNo (h : Dk w g gd gm row N d) (x : Int) (hx1 : -9223372036854775808 ≤ x) (hx2 : x ≤ 9223372036854775807) (hx : ∀ (k : Nat) (hk : k < d.S.length), x = (k : Int) → d.S[k].tail = []) (S : Nat → Prop) (p : World) (hS : ¬ S gm) (hK : Kept S w p) :
    (Instr.lookup 90 (.map (some gm)) (.int .i64 x) true).run Try.prog p = .ok (.tuple #[.slice none 0 0, .bool false]) p := by
  obtain ⟨M, f, hm, hf, hr⟩ := h.map
  have := (hm.kept hK hS).look (P := Try.prog) (t := 90) (kt := 3) (et := 89) (z := .slice none 0 0) Try.underlying90 Try.underlying3 (by kernel_rfl) x (WalkArith.wf_i64 (by omega)) true
  have hn : f x = none := by
    cases e : f x with
    | none => rfl
    | some v =>
      obtain ⟨h0, h1⟩ := hf x (by rw [e]; simp)
      obtain ⟨k, rfl⟩ : ∃ k : Nat, x = (k : Int) := ⟨x.toNat, by omega⟩
      rcases hr k (by omega) with ⟨_, h2, _⟩ | ⟨h2, _⟩
      · rw [h2] at e; cases e
      · exact absurd (hx k (by omega) rfl) h2
  rw [hn] at this
  exact this
theorem Dk.lookYes (h : Dk w g gd gm row N d) (k : Nat) (hk : k < d.S.length) (ht : d.S[k].tail ≠ []) : ∃ gk c, row k = some gk ∧ Own w 94 64 (some gk) (.slice (some ⟨gk, 0, none⟩) d.S[k].tail.length c) d.S[k].tail.length (scells d.S[k].tail) ∧ d.S[k].tail.length ≤ c ∧ c ≤ 9223372036854775807 ∧ ∀ (S : Nat → Prop) (p : World), ¬ S gm → Kept S w p →
    (Instr.lookup 90 (.map (some gm)) (.int .i64 (k : Int)) true).run Try.prog p = .ok (.tuple #[.slice (some ⟨gk, 0, none⟩) d.S[k].tail.length c, .bool true]) p := by
  obtain ⟨M, f, hm, hf, hr⟩ := h.map
  have hn4 := h.ok.2.1
  rcases hr k hk with ⟨h0, _, _⟩ | ⟨h0, gk, v, hrow, hfk, ho⟩
  · exact absurd h0 ht
  · have ho2 := ho
    obtain ⟨c, rfl, hc1, hc2, _⟩ := ho2.secs (fun b hb => (h.ok.2.2.2 _ (List.getElem_mem hk)).2.2 b (List.mem_of_mem_tail hb)) rfl
    refine ⟨gk, c, hrow, ho, hc1, hc2, fun S p hS hK => ?_⟩
    have := (hm.kept hK hS).look (P := Try.prog) (t := 90) (kt := 3) (et := 89) (z := .slice none 0 0) Try.underlying90 Try.underlying3 (by kernel_rfl) (k : Int) (WalkArith.wf_i64 (by omega)) true
    rw [hfk] at this
    exact this
end
end Go.Proofs.Ytbnodhcgdgcebaa

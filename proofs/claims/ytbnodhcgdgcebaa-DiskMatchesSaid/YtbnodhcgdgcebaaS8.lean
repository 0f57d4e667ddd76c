/-
  What survives of a sector, by definition; a sector's durable bytes are stored and its unflushed writes forgotten.
-/
import Derived.Test.YtbnodhcgdgcebaaS7
namespace Go.Proofs.Ytbnodhcgdgcebaa
open Go.RowKit
set_option linter.unusedSimpArgs false
set_option linter.unusedVariables false
theorem survivor_any (w : World) (old : List UInt8) (hold : old.length = 64) (tl : List (List UInt8)) (htl : tl ≠ []) (h64 : ∀ b ∈ tl, b.length = 64) (gk c : Nat) (t : TM) (hmc : tl.length ≤ c) (hc2 : c ≤ 9223372036854775807) (hgk : gk < w.heap.size)
    (hrd : ∀ (i : Nat) (hi : i < tl.length), w.rangeAt gk (i * 64) (vals tl[i])) :
    Calls Try.prog 53 #[.agg (vals old).toArray, .slice (some ⟨gk, 0, none⟩) tl.length c, .agg #[.int .i64 t.sector, .int .i64 t.writes, .int .i64 t.bytes]] w fun e w' => e = .returned (.agg (vals (surv (old :: tl) t.writes t.bytes)).toArray) ∧ Below w.heap.size w w' := by
  have hp := List.length_pos_iff.2 htl
  obtain ⟨m, hm⟩ : ∃ m, tl.length = m := ⟨_, rfl⟩
  obtain ⟨W, hW⟩ : ∃ W, W = t.writes.toNat := ⟨_, rfl⟩
  obtain ⟨wh, hwh⟩ : ∃ wh, wh = min W m := ⟨_, rfl⟩
  have hmx : max t.writes 0 = (W : Int) := by omega
  have hmn : min (W : Int) (m : Int) = (wh : Int) := by omega
  have hle : wh ≤ m := by omega
  have hS : surv (old :: tl) t.writes t.bytes = (match tl[wh]? with
      | some b => b.take (min t.bytes.toNat 64) ++ ((old :: tl).getD wh []).drop (min t.bytes.toNat 64)
      | none => (old :: tl).getD wh []) := by
    unfold surv
    rw [show min t.writes.toNat ((old :: tl).length - 1) = wh by simp only [List.length_cons, Nat.add_sub_cancel]; omega]
    simp only [List.getElem?_cons_succ]
    cases tl[wh]? <;> rfl
  rw [hm]
  by_cases h0 : wh = 0
  · have hq : tl[wh]? = some (tl.getD wh []) := by rw [List.getD_eq_getElem?_getD, List.getElem?_eq_getElem (by omega)]; rfl
    rw [hq] at hS
    have hg : (old :: tl).getD wh [] = old := by rw [h0]; rfl
    simp only [hg] at hS
    rw [hS]
    exact survivor_a w old hold gk m c wh t.sector t.writes t.bytes (by omega) hc2 tl hm h64 hgk hrd W hmx hmn h0 (by omega)
  · have hg : (old :: tl).getD wh [] = tl.getD (wh - 1) [] := by
      obtain ⟨j, rfl⟩ : ∃ j, wh = j + 1 := ⟨wh - 1, by omega⟩
      rfl
    by_cases h1 : wh < m
    · have hq : tl[wh]? = some (tl.getD wh []) := by rw [List.getD_eq_getElem?_getD, List.getElem?_eq_getElem (by omega)]; rfl
      rw [hq] at hS
      simp only [hg] at hS
      rw [hS]
      exact survivor_b w old hold gk m c wh t.sector t.writes t.bytes (by omega) hc2 tl hm h64 hgk hrd W hmx hmn (by omega) h1
    · have hq : tl[wh]? = none := List.getElem?_eq_none (by omega)
      rw [hq] at hS
      simp only [hg] at hS
      rw [hS]
      exact survivor_c w old hold gk m c wh t.sector t.writes t.bytes (by omega) hc2 tl hm h64 hgk hrd W hmx hmn (by omega) (by omega)
theorem heap_setCells_own {t : TypeId} {g : Nat} : ∀ (vs : List Value) (off : Nat) (w : World) (cur : Array Value), w.heap[g]? = some (.cells cur t (0, 0)) → off + vs.length ≤ cur.size →
    ∃ cur', (w.setCells g off vs).heap[g]? = some (.cells cur' t (0, 0)) ∧ cur'.size = cur.size ∧ cur'.toList = cur.toList.take off ++ vs ++ cur.toList.drop (off + vs.length)
  | [], off, w, cur, hg, hl => ⟨cur, hg, rfl, by simp⟩
  | v :: r, off, w, cur, hg, hl => by
    simp only [List.length_cons] at hl
    have h1 := heap_setCell_same w g off cur t v hg
    obtain ⟨cur', h2, h3, h4⟩ := heap_setCells_own r (off + 1) _ _ h1 (by simp; omega)
    refine ⟨cur', h2, by simpa using h3, ?_⟩
    rw [h4, Array.toList_setIfInBounds]
    have hlt : off < cur.toList.length := by simp; omega
    have e1 : (cur.toList.set off v).take (off + 1) = cur.toList.take off ++ [v] := by
      rw [List.take_succ_eq_append_getElem (by simpa using hlt), List.getElem_set_self, List.take_set_of_le (Nat.le_refl _)]
    have e2 : (cur.toList.set off v).drop (off + 1 + r.length) = cur.toList.drop (off + (r.length + 1)) := by
      rw [List.drop_set_of_lt (by omega), show off + 1 + r.length = off + (r.length + 1) by omega]
    rw [e1, e2]
    simp
theorem Kept.setCells {S : Nat → Prop} {g : Nat} : ∀ (vs : List Value) (off : Nat) {a w : World}, Kept S a w → (g < a.heap.size → S g) → Kept S a (w.setCells g off vs)
  | [], _, _, _, h, _ => h
  | v :: r, off, a, w, h, hp => Kept.setCells r (off + 1) (h.setCell (p := ⟨g, off, none⟩) hp v) hp
theorem take_splice {α : Type} (L vs : List α) (a m N : Nat) (hv : vs.length = m) (h1 : a + m ≤ N) (h2 : N ≤ L.length) : (L.take a ++ vs ++ L.drop (a + m)).take N = (L.take N).take a ++ vs ++ (L.take N).drop (a + m) := by
  rw [List.take_append, List.take_of_length_le (by simp; omega), List.take_take, Nat.min_eq_left (by omega), List.drop_take]
  congr 2
  simp
  omega
theorem DM.set_ok {d : DM} {N k : Nat} {b : List UInt8} (h : d.Ok N) (hk : k < d.S.length) (hb : b.length = 64) (on : Bool) (f : Nat) (hf : f ≤ 9223372036854775807) : DM.Ok ⟨d.S.set k [b], on, f⟩ N := by
  refine ⟨by simpa using h.1, by simpa using h.2.1, hf, fun s hs => ?_⟩
  simp only at hs
  rcases List.mem_or_eq_of_mem_set hs with hs | rfl
  · exact h.2.2.2 s hs
  · exact ⟨by simp, by simp, fun x hx => by rw [List.mem_singleton.1 hx]; exact hb⟩
/-- durable[k] = b; delete(unflushed, k) -/
theorem Dk.cut {w : World} {g gd gm : Nat} {row : Nat → Option Nat} {N : Nat} {d : DM} (h : Dk w g gd gm row N d) {k : Nat} (hk : k < d.S.length) {b : List UInt8} (hb : b.length = 64) {p : World} (hp : Kept (fun _ => False) (w.setCells gd (k * 64) (vals b)) p) :
    ∃ p2, (Builtin.delete_ #[90, 3] 0 #[.map (some gm), .int .i64 (k : Int)]).run Try.prog p = .ok (.tuple #[]) p2 ∧ Dk p2 g gd gm (rowSet row k none) N ⟨d.S.set k [b], d.on, d.fuse⟩ ∧ Kept (fun j => j = gd ∨ j = gm) w p2 ∧ Kept (fun j => j = gm) p p2 := by
  obtain ⟨n1, n2, n3, n4⟩ := h.g_ne
  obtain ⟨hok, ⟨cap, cur, h1, h2, h3, h4, h5, h6⟩, ⟨M, f, hm, hfd, hr⟩, hdom, hinj, hap⟩ := h
  have hn4 := hok.2.1
  have K1 : Kept (fun j => j = gd) w p := (Kept.setCells (vals b) (k * 64) (Kept.refl (fun j => j = gd) w) (fun _ => rfl)).trans hp (fun _ _ h => h.elim)
  obtain ⟨cur', c1, c2, c3⟩ := heap_setCells_own (vals b) (k * 64) w cur h2 (by rw [vals_len, hb, h5]; have := Nat.mul_le_mul_right 64 (show k + 1 ≤ cap by omega); omega)
  have c1 := hp.heap c1 (fun h => h)
  obtain ⟨p2, hrun, hm2, hk2, hs2⟩ := (hm.kept K1 (fun e => n3 e.symm)).del (P := Try.prog) Try.underlying90 Try.underlying3 (k : Int) (WalkArith.wf_i64 (by omega)) 0
  have K2 : Kept (fun j => j = gd ∨ j = gm) w p2 := (K1.mono fun j _ e => .inl e).trans hk2 (fun j _ e => .inr e)
  have h64 : ∀ x ∈ d.S.map dur, x.length = 64 := by
    intro x hx
    obtain ⟨s, hs, rfl⟩ := List.mem_map.1 hx
    obtain ⟨e1, _, e3⟩ := hok.2.2.2 s hs
    exact e3 _ (dur_mem e1)
  have hset : (d.S.set k [b]).map dur = (d.S.map dur).set k b := by rw [List.map_set]; rfl
  refine ⟨p2, hrun, ⟨DM.set_ok hok hk hb _ _ hok.2.2.1, ⟨cap, cur', ?_, ?_, ?_, h4, by rw [c2, h5], ?_⟩, ⟨_, _, hm2, ?_, ?_⟩, ?_, ?_, ?_⟩, K2, hk2⟩
  · rw [List.length_set]
    exact K2.heap h1 (fun e => by rcases e with e | e; exact n1 e; exact n2 e)
  · exact hk2.heap c1 n3
  · rw [List.length_set]; exact h3
  · rw [List.length_set, hset, c3, vals_len, hb, take_splice _ _ _ _ _ (by rw [vals_len, hb]) (by have := Nat.mul_le_mul_right 64 (show k + 1 ≤ d.S.length by omega); omega) (by rw [Array.length_toList, h5]; exact Nat.mul_le_mul_right 64 h3), h6, ← scells_set h64 k (by simpa using hk)]
  · intro j hj
    rw [List.length_set]
    by_cases e : j = (k : Int)
    · subst e; omega
    · rw [fdel_other _ e] at hj; exact hfd j hj
  · intro j hj
    have hj' : j < d.S.length := by rw [List.length_set] at hj; exact hj
    by_cases e : j = k
    · subst e
      refine .inl ⟨?_, fdel_same _ _, rowSet_same _ _ _⟩
      simp
    · have et : (d.S.set k [b])[j] = d.S[j] := List.getElem_set_ne (fun e2 => e e2.symm) _
      simp only [et, rowSet_other _ _ e, fdel_other f (show (j : Int) ≠ (k : Int) by omega)]
      rcases hr j hj' with h0 | ⟨h0, gk, v, hg, hv, hoo⟩
      · exact .inl h0
      · refine .inr ⟨h0, gk, v, hg, hv, hoo.kept K2 (fun j2 hj2 e2 => ?_)⟩
        cases hj2
        rcases e2 with e2 | e2
        · exact hap j gk hg e2
        · exact (n4 j gk hg).2 e2
  · intro i j hi
    rw [List.length_set]
    by_cases e : i = k
    · omega
    · rw [rowSet_other _ _ e] at hi; exact hdom i j hi
  · intro i j g' hi hj
    by_cases e : i = k
    · rw [e, rowSet_same] at hi; cases hi
    · by_cases e2 : j = k
      · rw [e2, rowSet_same] at hj; cases hj
      · rw [rowSet_other _ _ e] at hi
        rw [rowSet_other _ _ e2] at hj
        exact hinj i j g' hi hj
  · intro i g' hi
    by_cases e : i = k
    · rw [e, rowSet_same] at hi; cases hi
    · rw [rowSet_other _ _ e] at hi
      exact hap i g' hi
/-- clear(unflushed), all sectors having their durable bytes alone -/
theorem Dk.clear {w : World} {g gd gm : Nat} {row : Nat → Option Nat} {N : Nat} {d : DM} (h : Dk w g gd gm row N d) :
    ∃ p2, (Builtin.clear_ #[90] 0 #[.map (some gm)]).run Try.prog w = .ok (.tuple #[]) p2 ∧ Dk p2 g gd gm (fun _ => none) 0 ⟨d.S.map fun s => [dur s], d.on, d.fuse⟩ ∧ Kept (fun j => j = gm) w p2 ∧ p2.heap.size = w.heap.size := by
  obtain ⟨n1, n2, n3, n4⟩ := h.g_ne
  obtain ⟨hok, ⟨cap, cur, h1, h2, h3, h4, h5, h6⟩, ⟨M, f, hm, hfd, hr⟩, hdom, hinj, hap⟩ := h
  obtain ⟨p2, hrun, hm2, hk2, hs2⟩ := hm.clear (P := Try.prog) Try.underlying90 0
  have hset : (d.S.map fun s => [dur s]).map dur = d.S.map dur := by rw [List.map_map]; rfl
  refine ⟨p2, hrun, ⟨⟨by simpa using hok.1, by simpa using hok.2.1, hok.2.2.1, ?_⟩, ⟨cap, cur, ?_, ?_, ?_, h4, h5, ?_⟩, ⟨_, _, hm2, fun k h => absurd rfl h, fun j hj => .inl ⟨by simp, rfl, rfl⟩⟩, fun _ _ h => (by cases h), fun _ _ _ h => (by cases h), fun _ _ h => (by cases h)⟩, hk2, hs2⟩
  · intro s hs
    obtain ⟨s', hs', rfl⟩ := List.mem_map.1 hs
    obtain ⟨e1, _, e3⟩ := hok.2.2.2 s' hs'
    exact ⟨by simp, by simp, fun x hx => by rw [List.mem_singleton.1 hx]; exact e3 _ (dur_mem e1)⟩
  · rw [List.length_map]; exact hk2.heap h1 n2
  · exact hk2.heap h2 n3
  · rw [List.length_map]; exact h3
  · rw [List.length_map, hset]; exact h6
end Go.Proofs.Ytbnodhcgdgcebaa

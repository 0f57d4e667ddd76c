/-
  The keys of a tree that printed days were put into.
-/
import Derived.Test.YtcoijmggfkjcjaaDoorIX
import Derived.Test.YtcoijmggfkjcjaaDoorIY
import Derived.Test.YtcoijmggfkjcjaaDoorJ0
namespace Go.Proofs.YtcoijmggfkjcjaaDoor
open Go.RowKit
set_option linter.unusedSimpArgs false
set_option linter.unusedVariables false
/-- the keys of L are the printed days of ds, each once -/
structure DK (L : List KV) (ds : List Int) : Prop where
  so : Sorted L
  ok : ∀ d ∈ ds, okN d
  key : ∀ p ∈ L, ∃ d ∈ ds, p.k = printB d
  all : ∀ d ∈ ds, ∃ p ∈ L, p.k = printB d
  len : L.length = ds.length
theorem DK.nil : DK [] [] := ⟨List.Pairwise.nil, (by intro d h; cases h), (by intro p h; cases h), (by intro d h; cases h), rfl⟩
theorem DK.old {L : List KV} {ds : List Int} (h : DK L ds) {d : Int} (hd : d ∈ ds) (v : ByteArray) : DK (insL L ⟨printB d, v⟩) ds := by
  obtain ⟨q, hq, hk⟩ := h.all d hd
  refine ⟨insL_sorted h.so, h.ok, fun p hp => ?_, fun e he => ?_, (insL_len_old h.so hq hk).trans h.len⟩
  · rcases mem_insL.1 hp with rfl | ⟨h1, _⟩
    · exact ⟨d, hd, rfl⟩
    · exact h.key p h1
  · by_cases hed : e = d
    · subst hed
      exact ⟨_, mem_insL.2 (.inl rfl), rfl⟩
    · obtain ⟨p, hp, hpk⟩ := h.all e he
      exact ⟨p, mem_insL.2 (.inr ⟨hp, fun hc => hed (print_inj (h.ok e he) (h.ok d hd) (hpk.symm.trans hc))⟩), hpk⟩
theorem DK.new {L : List KV} {ds : List Int} (h : DK L ds) {d : Int} (hok : okN d) (hd : d ∉ ds) (v : ByteArray) : DK (insL L ⟨printB d, v⟩) (ds ++ [d]) := by
  have hno : ∀ q ∈ L, q.k ≠ printB d := fun q hq hc => by
    obtain ⟨e, he, hk⟩ := h.key q hq
    exact hd (print_inj (h.ok e he) hok (hk.symm.trans hc) ▸ he)
  refine ⟨insL_sorted h.so, fun e he => ?_, fun p hp => ?_, fun e he => ?_, ?_⟩
  · rcases List.mem_append.1 he with h1 | h1
    · exact h.ok e h1
    · rw [List.mem_singleton.1 h1]; exact hok
  · rcases mem_insL.1 hp with rfl | ⟨h1, _⟩
    · exact ⟨d, by simp, rfl⟩
    · obtain ⟨e, he, hk⟩ := h.key p h1
      exact ⟨e, List.mem_append_left _ he, hk⟩
  · rcases List.mem_append.1 he with h1 | h1
    · obtain ⟨p, hp, hpk⟩ := h.all e h1
      exact ⟨p, mem_insL.2 (.inr ⟨hp, hno p hp⟩), hpk⟩
    · rw [List.mem_singleton.1 h1]
      exact ⟨_, mem_insL.2 (.inl rfl), rfl⟩
  · rw [insL_len_new hno, h.len, List.length_append]; rfl
/-- the days of the keys, in order -/
theorem days_of : ∀ {L : List KV} {ds : List Int}, Sorted L → (∀ d ∈ ds, okN d) → (∀ p ∈ L, ∃ d ∈ ds, p.k = printB d) → ∃ es : List Int, L.map KV.k = es.map printB ∧ (∀ e ∈ es, e ∈ ds) ∧ es.Pairwise (· < ·)
  | [], _, _, _, _ => ⟨[], rfl, (by intro e h; cases h), List.Pairwise.nil⟩
  | p :: L, ds, hs, ho, hk => by
    obtain ⟨h1, h2⟩ := List.pairwise_cons.1 hs
    obtain ⟨es, e1, e2, e3⟩ := days_of h2 ho (fun q hq => hk q (List.mem_cons_of_mem _ hq))
    obtain ⟨d, hd, hpd⟩ := hk p List.mem_cons_self
    refine ⟨d :: es, by rw [List.map_cons, List.map_cons, hpd, e1], fun e he => ?_, List.pairwise_cons.2 ⟨fun e he => ?_, e3⟩⟩
    · rcases List.mem_cons.1 he with rfl | h
      · exact hd
      · exact e2 e h
    · have hm : printB e ∈ L.map KV.k := by rw [e1]; exact List.mem_map_of_mem he
      obtain ⟨q, hq, hqk⟩ := List.mem_map.1 hm
      have := h1 q hq
      rw [hpd, hqk] at this
      exact (print_cmp (ho d hd) (ho e (e2 e he))).1 this
/-- the last of the days up to a, or -1 -/
def bestN (es : List Int) (a : Int) : Int := ((es.filter fun e => decide (e ≤ a)).getLast?).getD (-1)
theorem bestN_nil (a : Int) : bestN [] a = -1 := rfl
theorem bestN_succ {es : List Int} {j : Nat} (hj : j < es.length) (a : Int) : bestN (es.take (j + 1)) a = if es[j] ≤ a then es[j] else bestN (es.take j) a := by
  unfold bestN
  rw [List.take_succ_eq_append_getElem hj, List.filter_append]
  by_cases h : es[j] ≤ a
  · rw [if_pos h, List.filter_cons_of_pos (by simpa using h)]
    simp
  · rw [if_neg h, List.filter_cons_of_neg (by simpa using h)]
    simp
theorem filter_keys {a : Int} (ha : okN a) : ∀ {L : List KV} {es : List Int}, (∀ e ∈ es, okN e) → L.map KV.k = es.map printB → (L.filter fun p => decide (cmpK p.k (printB a) ≤ 0)).map KV.k = (es.filter fun e => decide (e ≤ a)).map printB
  | [], [], _, _ => rfl
  | [], _ :: _, _, h => by cases h
  | _ :: _, [], _, h => by cases h
  | p :: L, e :: es, ho, h => by
    obtain ⟨h1, h2⟩ := List.cons.inj h
    have ih := filter_keys ha (fun x hx => ho x (List.mem_cons_of_mem _ hx)) h2
    have hle := print_le (ho e List.mem_cons_self) ha
    by_cases hc : e ≤ a
    · rw [List.filter_cons_of_pos (by rw [h1]; simpa using hle.2 hc), List.filter_cons_of_pos (by simpa using hc), List.map_cons, List.map_cons, ih, h1]
    · rw [List.filter_cons_of_neg (by rw [h1]; simpa using fun x => hc (hle.1 x)), List.filter_cons_of_neg (by simpa using hc), ih]
theorem floor_keys {a : Int} (ha : okN a) {L : List KV} {es : List Int} (ho : ∀ e ∈ es, okN e) (h : L.map KV.k = es.map printB) : (floorL L (printB a)).isSome = decide (0 ≤ bestN es a) ∧ (∀ p, floorL L (printB a) = some p → p.k = printB (bestN es a)) ∧ (bestN es a = -1 ∨ okN (bestN es a)) := by
  have h1 := congrArg List.getLast? (filter_keys ha ho h)
  rw [List.getLast?_map, List.getLast?_map] at h1
  have hm : ∀ e, (es.filter fun e => decide (e ≤ a)).getLast? = some e → okN e := fun e he => ho e (List.mem_filter.1 (List.mem_of_getLast? he)).1
  unfold bestN floorL
  generalize (L.filter fun p => decide (cmpK p.k (printB a) ≤ 0)).getLast? = F at h1 ⊢
  generalize (es.filter fun e => decide (e ≤ a)).getLast? = G at h1 hm ⊢
  cases F with
  | none =>
    cases G with
    | none => exact ⟨rfl, fun p hp => by (cases hp), .inl rfl⟩
    | some e => cases h1
  | some p =>
    cases G with
    | none => cases h1
    | some e =>
      have hk := hm e rfl
      refine ⟨(decide_eq_true (show 0 ≤ (some e).getD (-1) from hk.1)).symm, fun q hq => ?_, .inr hk⟩
      cases hq
      exact Option.some.inj h1
end Go.Proofs.YtcoijmggfkjcjaaDoor

/-
  Small theorems of layer 5 that build at this seat (written by gen_J1.py).
-/
import Derived.Test.YtcoijmggfkjcjaaDoorZV1203
import Derived.Test.YtcoijmggfkjcjaaDoorZV1202
namespace Go.Proofs.YtcoijmggfkjcjaaDoor
open Go.RowKit
set_option linter.unusedSimpArgs false
set_option linter.unusedVariables false
theorem mem_insL {l : List KV} {p q : KV} : p ∈ insL l q ↔ p = q ∨ (p ∈ l ∧ p.k ≠ q.k) := by
  unfold insL
  rw [List.mem_append, List.mem_cons, List.mem_filter, List.mem_filter]
  have h : p.k ≠ q.k ↔ (cmpK p.k q.k < 0 ∨ 0 < cmpK p.k q.k) := by
    rw [Ne, ← cmpK_eq]
    omega
  rw [h]
  simp only [decide_eq_true_eq]
  constructor
  · rintro (⟨h1, h2⟩ | h1 | ⟨h1, h2⟩)
    · exact .inr ⟨h1, .inl h2⟩
    · exact .inl h1
    · exact .inr ⟨h1, .inr h2⟩
  · rintro (h1 | ⟨h1, h2 | h2⟩)
    · exact .inr (.inl h1)
    · exact .inl ⟨h1, h2⟩
    · exact .inr (.inr ⟨h1, h2⟩)
theorem cmpK_emp (a : ByteArray) : 0 ≤ cmpK a emptyS := by
  unfold cmpK emptyS
  obtain ⟨⟨l⟩⟩ := a
  cases l with
  | nil => decide
  | cons a t => show (0 : Int) ≤ 1; decide
theorem geL_emp (l : List KV) : geL emptyS l = l := List.filter_eq_self.2 (fun p _ => by simpa using cmpK_emp p.k)
theorem rngL_emp (l : List KV) : rngL emptyS emptyS l = l := by
  unfold rngL
  rw [geL_emp]
  exact tw_all _ _ (fun y _ => by unfold befK; simp)
theorem Ps.row {w : World} {base : Nat} {v : Value} {ps : List KV} (h : w.ownsRow base 54 2 v ps.length (pcells ps)) : ∃ a n c, v = .slice a n c ∧ Ps (fun b => base ≤ b) w a n c ps := by
  obtain ⟨h1, h2⟩ := h
  rcases h2 with ⟨rfl, h0⟩ | ⟨g, cap, cur, rfl, hb, hg, h3, h4, h5, h6⟩
  · exact ⟨none, 0, 0, rfl, h0, by rw [h0] at h1; exact h1, Nat.le_refl _, by decide, fun _ => rfl, fun h => absurd h (by omega)⟩
  · refine ⟨_, _, _, rfl, rfl, h1, h3, h4, (fun h => by cases h), fun _ => ⟨g, 0, hb, rfl, fun j v hj => ?_⟩⟩
    have : cur[0 + j]? = some v := by
      rw [← h6] at hj
      rw [Nat.zero_add, ← Array.getElem?_toList]
      rw [List.getElem?_take] at hj
      split at hj
      · exact hj
      · cases hj
    exact (cell_of_row w g (0 + j) cur _ _ hg).trans this
end Go.Proofs.YtcoijmggfkjcjaaDoor

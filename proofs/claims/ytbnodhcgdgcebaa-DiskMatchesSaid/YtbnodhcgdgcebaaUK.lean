/-
  DiskSurvives: the mathematics; Read, with its world in view.
-/
import Derived.Test.YtbnodhcgdgcebaaUJ
namespace Go.Proofs.Ytbnodhcgdgcebaa
open Go.RowKit
set_option linter.unusedSimpArgs false
set_option linter.unusedVariables false
theorem read_nb {w0 w : World} {L : List Obj} {i g : Nat} {d : DM} (h : Lv w0 w L) (hi : L[i]? = some (diskO g d)) (k : Nat) (hk : k < d.S.length) (ho : d.on = true) :
    Calls Try.prog 21 #[.pointer (some ⟨g, 0, none⟩), .int .i64 (k : Int)] w fun e w' => ∃ gb, e = .returned (.tuple #[.slice (some ⟨gb, 0, none⟩) 64 64, .int .i64 0]) ∧ w.heap.size ≤ gb ∧ Bs (fun b => b = gb) w' (some ⟨gb, 0, none⟩) 64 64 (lastB d.S[k]) ∧ Below w.heap.size w w' := by
  have h64 := (h.ok hi).2.2.2 _ (List.getElem_mem hk)
  have hl := h64.2 _ (lastB_mem h64.1)
  obtain ⟨B, ⟨gd, gm, row, N, hd, _⟩, _⟩ := h.get hi
  refine (read_ok hd k hk ho).mono ?_
  rintro e w' ⟨v, rfl, gb, rfl, hge, hbs, hb⟩
  rw [hl] at hbs ⊢
  exact ⟨gb, rfl, hge, hbs, hb⟩
/-- what the law looks for -/
def Hit (b : List UInt8) (s : List (List UInt8)) (j : Nat) : Prop := b = s.getD 0 [] ∨ ∃ i, 1 ≤ i ∧ i < j ∧ Mix b (s.getD i []) (s.getD (i - 1) [])
theorem hit_surv (s : List (List UInt8)) (wr by_ : Int) (h0 : s ≠ []) (h64 : ∀ b ∈ s, b.length = 64) : Hit (surv s wr by_) s s.length := by
  have hp : 0 < s.length := List.length_pos_iff.2 h0
  obtain ⟨i, hi⟩ : ∃ i, i = min wr.toNat (s.length - 1) := ⟨_, rfl⟩
  have hil : i < s.length := by omega
  unfold surv
  rw [← hi]
  cases he : s[i + 1]? with
  | some b =>
    simp only [he]
    have hl : i + 1 < s.length := (List.getElem?_eq_some_iff.1 he).1
    refine .inr ⟨i + 1, by omega, hl, min by_.toNat 64, by omega, ?_⟩
    simp only [Nat.add_sub_cancel]
    rw [show s.getD (i + 1) [] = b by rw [List.getD_eq_getElem?_getD, he]; rfl]
  | none =>
    simp only [he]
    by_cases h1 : i = 0
    · rw [h1]; exact .inl rfl
    · refine .inr ⟨i, by omega, hil, 64, by omega, ?_⟩
      have e1 : (s.getD i []).length = 64 := by
        rw [List.getD_eq_getElem?_getD, List.getElem?_eq_getElem hil]
        exact h64 _ (List.getElem_mem hil)
      have e2 : (s.getD (i - 1) []).length = 64 := by
        have hl : i - 1 < s.length := by omega
        rw [List.getD_eq_getElem?_getD, List.getElem?_eq_getElem hl]
        exact h64 _ (List.getElem_mem hl)
      rw [List.take_of_length_le (by omega), List.drop_of_length_le (by omega), List.append_nil]
theorem hit_restart (d : DM) (ts : List TM) (k : Nat) (hk : k < d.S.length) (hk2 : k < (d.restart ts).S.length) (h0 : d.S[k] ≠ []) (h64 : ∀ b ∈ d.S[k], b.length = 64) : Hit (lastB ((d.restart ts).S[k]'hk2)) d.S[k] d.S[k].length := by
  rw [restart_get d ts k hk hk2]
  cases firstOf ts k with
  | none => exact .inl (by simp [dur, List.headD_eq_head?_getD, List.head?_eq_getElem?])
  | some t => exact hit_surv _ _ _ h0 h64
theorem hit_step {b : List UInt8} {s : List (List UInt8)} {j : Nat} (h : Hit b s (j + 1)) : Hit b s j ∨ Mix b (s.getD j []) (s.getD (j - 1) []) := by
  rcases h with h | ⟨i, h1, h2, h3⟩
  · exact .inl (.inl h)
  · by_cases e : i = j
    · subst e; exact .inr h3
    · exact .inl (.inr ⟨i, h1, by omega, h3⟩)
theorem hit_one {b : List UInt8} {s : List (List UInt8)} (h : Hit b s 1) : b = s.getD 0 [] := by
  rcases h with h | ⟨i, h1, h2, _⟩
  · exact h
  · omega
theorem restart_sec (d : DM) (ts : List TM) (k : Nat) (hk : k < (d.restart ts).S.length) : (d.restart ts).S[k] = [lastB (d.restart ts).S[k]] := by
  simp [DM.restart, lastB]
/-- the first k sectors are those of the second -/
def mixR (S1 S : List (List (List UInt8))) (k : Nat) : List (List (List UInt8)) := S1.take k ++ S.drop k
theorem mixR_len (S1 S : List (List (List UInt8))) (k : Nat) (hl : S1.length = S.length) (h : k ≤ S.length) : (mixR S1 S k).length = S.length := by
  simp [mixR]; omega
theorem mixR_get (S1 S : List (List (List UInt8))) (k : Nat) (hl : S1.length = S.length) (h : k < S.length) : (mixR S1 S k)[k]? = some S[k] := by
  unfold mixR
  rw [List.getElem?_append_right (by simp; omega), List.getElem?_drop, List.length_take]
  rw [show k + (k - min k S1.length) = k by omega]
  exact List.getElem?_eq_getElem h
theorem mixR_set (S1 S : List (List (List UInt8))) (k : Nat) (hl : S1.length = S.length) (h : k < S.length) (h1 : k < S1.length) : (mixR S1 S k).set k S1[k] = mixR S1 S (k + 1) := by
  unfold mixR
  have hl2 : (S1.take k).length = k := by rw [List.length_take]; omega
  rw [List.set_append_right _ _ (by omega), hl2, Nat.sub_self, List.drop_eq_getElem_cons h, List.set_cons_zero, List.take_succ_eq_append_getElem h1, List.append_assoc]
  rfl
theorem set_modify (S : List (List (List UInt8))) (k : Nat) (h : k < S.length) (b : List UInt8) : S.set k (S[k] ++ [b]) = S.modify k (· ++ [b]) := by
  apply List.ext_getElem?
  intro j
  rw [List.getElem?_set, List.getElem?_modify]
  by_cases e : k = j
  · subst e; simp [h]
  · simp [e]
theorem flush_S (d : DM) : d.flush.S = d.S.map fun s => [lastB s] := by unfold DM.flush; rw [DM.burn_S]
theorem write_S (d : DM) (k : Nat) (b : List UInt8) : (d.write k b).S = d.S.modify k (· ++ [b]) := by unfold DM.write; rw [DM.burn_S]
end Go.Proofs.Ytbnodhcgdgcebaa

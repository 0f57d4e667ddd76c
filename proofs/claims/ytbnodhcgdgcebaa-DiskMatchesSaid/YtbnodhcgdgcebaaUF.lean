/-
  For each sector a slice of slices of bytes: how it lies in memory.
-/
import Derived.Test.YtbnodhcgdgcebaaUE
namespace Go.Proofs.Ytbnodhcgdgcebaa
open Go.RowKit
set_option linter.unusedSimpArgs false
set_option linter.unusedVariables false
theorem info56 : (Try.prog.info? 56).map (fun i => (i.zero, i.size, i.bytes)) = some (some (.slice none 0 0), 1, 24) := by kernel_rfl
theorem info32 : (Try.prog.info? 32).map (fun i => (i.zero, i.size, i.bytes)) = some (some (.slice none 0 0), 1, 24) := by kernel_rfl
/-- the slice v, in block r, has these bytes; they lie in Bf -/
def InR (w : World) (Bf : Nat → Prop) (r : Nat) (v : Value) (s : List (List UInt8)) : Prop :=
  ∃ ys, Rw w 32 (some r) v s.length ys ∧ ∀ j (hj : j < s.length), ∃ a c, ys[j]? = some (.slice a 64 c) ∧ Bs Bf w a 64 c s[j]
theorem InR.kept {S Bf : Nat → Prop} {w w' : World} {r : Nat} {v : Value} {s : List (List UInt8)} (h : InR w Bf r v s) (hk : Kept S w w') (hr : ¬ S r) (hb : ∀ x, x < w.heap.size → Bf x → ¬ S x) : InR w' Bf r v s := by
  obtain ⟨ys, h1, h2⟩ := h
  refine ⟨ys, h1.kept hk (fun j hj => by cases hj; exact hr), fun j hj => ?_⟩
  obtain ⟨a, c, h3, h4⟩ := h2 j hj
  exact ⟨a, c, h3, h4.kept hk hb⟩
theorem InR.dom {Bf Bf' : Nat → Prop} {w : World} {r : Nat} {v : Value} {s : List (List UInt8)} (h : InR w Bf r v s) (hb : ∀ x, Bf x → Bf' x) : InR w Bf' r v s := by
  obtain ⟨ys, h1, h2⟩ := h
  exact ⟨ys, h1, fun j hj => by obtain ⟨a, c, h3, h4⟩ := h2 j hj; exact ⟨a, c, h3, h4.dom hb⟩⟩
/-- a struct of type ty in block g whose first field is a slice, for each sector a slice of slices of bytes -/
structure Trk (w : World) (ty : TypeId) (ext : List Value) (g : Nat) (gso : Option Nat) (vo : Value) (row : Nat → Nat) (Bf : Nat → Prop) (S : List (List (List UInt8))) : Prop where
  self : w.heap[g]? = some (.cells (vo :: ext).toArray ty (0, 0))
  outer : ∃ xs, Rw w 56 gso vo S.length xs ∧ ∀ k (hk : k < S.length), ∃ v, xs[k]? = some v ∧ InR w Bf (row k) v S[k]
  inj : ∀ i j, i < S.length → j < S.length → row i = row j → i = j
  ap1 : gso ≠ some g
  ap2 : ∀ i, i < S.length → row i ≠ g ∧ gso ≠ some (row i)
  bf : ¬ Bf g ∧ (∀ x, gso = some x → ¬ Bf x) ∧ ∀ i, i < S.length → ¬ Bf (row i)
  lt : ∀ x, Bf x → x < w.heap.size
def TBlk (g : Nat) (gso : Option Nat) (row : Nat → Nat) (Bf : Nat → Prop) (n : Nat) (x : Nat) : Prop := x = g ∨ gso = some x ∨ (∃ i, i < n ∧ row i = x) ∨ Bf x
theorem Trk.blk_lt {w : World} {ty : TypeId} {ext : List Value} {g : Nat} {gso : Option Nat} {vo : Value} {row : Nat → Nat} {Bf : Nat → Prop} {S : List (List (List UInt8))} (h : Trk w ty ext g gso vo row Bf S) : ∀ x, TBlk g gso row Bf S.length x → x < w.heap.size := by
  rintro x (rfl | hx | ⟨i, hi, rfl⟩ | hx)
  · exact (Array.getElem?_eq_some_iff.1 h.self).1
  · obtain ⟨xs, h1, _⟩ := h.outer
    exact h1.lt x hx
  · obtain ⟨xs, _, h2⟩ := h.outer
    obtain ⟨v, _, ys, h3, _⟩ := h2 i hi
    exact h3.lt _ rfl
  · exact h.lt x hx
theorem Trk.kept {B : Nat → Prop} {w w' : World} {ty : TypeId} {ext : List Value} {g : Nat} {gso : Option Nat} {vo : Value} {row : Nat → Nat} {Bf : Nat → Prop} {S : List (List (List UInt8))} (h : Trk w ty ext g gso vo row Bf S) (hk : Kept B w w') (hs : ∀ x, TBlk g gso row Bf S.length x → ¬ B x) : Trk w' ty ext g gso vo row Bf S := by
  obtain ⟨xs, h1, h2⟩ := h.outer
  refine ⟨hk.heap h.self (hs g (.inl rfl)), ⟨xs, h1.kept hk (fun j hj => hs j (.inr (.inl hj))), fun k hkl => ?_⟩, h.inj, h.ap1, h.ap2, h.bf, fun x hx => Nat.lt_of_lt_of_le (h.lt x hx) hk.size⟩
  obtain ⟨v, h3, h4⟩ := h2 k hkl
  exact ⟨v, h3, h4.kept hk (hs _ (.inr (.inr (.inl ⟨k, hkl, rfl⟩)))) (fun x _ hx => hs x (.inr (.inr (.inr hx))))⟩
/-- sector k gets another slice -/
theorem Trk.put {w : World} {ty : TypeId} {ext : List Value} {g : Nat} {gso : Option Nat} {vo : Value} {row : Nat → Nat} {Bf : Nat → Prop} {S : List (List (List UInt8))} (h : Trk w ty ext g gso vo row Bf S) {k : Nat} (hk : k < S.length) {w' : World} {r' : Nat} {v' : Value} {s' : List (List UInt8)} {Bf' : Nat → Prop}
    (hK : Kept (fun j => j = row k ∨ gso = some j) w w')
    (hO : ∀ xs, Rw w 56 gso vo S.length xs → Rw w' 56 gso vo S.length (xs.set k v'))
    (hI : InR w' Bf' r' v' s') (hr : r' = row k ∨ w.heap.size ≤ r')
    (hB : ∀ x, Bf x → Bf' x) (hB2 : ∀ x, Bf' x → Bf x ∨ (w.heap.size ≤ x ∧ x ≠ r')) (hBl : ∀ x, Bf' x → x < w'.heap.size) :
    Trk w' ty ext g gso vo (fun i => if i = k then r' else row i) Bf' (S.set k s') := by
  have hlt := h.blk_lt
  have hg : g < w.heap.size := hlt g (.inl rfl)
  have hrow : ∀ i, i < S.length → row i < w.heap.size := fun i hi => hlt _ (.inr (.inr (.inl ⟨i, hi, rfl⟩)))
  obtain ⟨xs, h1, h2⟩ := h.outer
  have hne : ∀ i, i < S.length → i ≠ k → row i ≠ r' := by
    intro i hi hik e
    rcases hr with hr | hr
    · exact hik (h.inj i k hi hk (e.trans hr))
    · have := hrow i hi; omega
  have nb : ∀ x, x < w.heap.size → (Bf' x → Bf x) := fun x hx hb => (hB2 x hb).resolve_right (fun e => by omega)
  refine ⟨hK.heap h.self ?_, ⟨xs.set k v', by rw [List.length_set]; exact hO xs h1, fun i hi => ?_⟩, fun i j hi hj e => ?_, h.ap1, fun i hi => ?_, ⟨fun hb => h.bf.1 (nb g hg hb), fun x hx hb => h.bf.2.1 x hx (nb x (h1.lt x hx) hb), fun i hi hb => ?_⟩, hBl⟩
  · rintro (e | e)
    · exact (h.ap2 k hk).1 e.symm
    · exact h.ap1 e
  · have hi2 : i < S.length := by rw [List.length_set] at hi; exact hi
    by_cases e : i = k
    · subst e
      refine ⟨v', ?_, ?_⟩
      · rw [List.getElem?_set, if_pos rfl, if_pos (by rw [h1.1]; exact hi2)]
      · simp only [if_true, List.getElem_set_self]
        exact hI
    · obtain ⟨v, h3, h4⟩ := h2 i hi2
      refine ⟨v, by rw [List.getElem?_set, if_neg (fun x => e x.symm)]; exact h3, ?_⟩
      rw [if_neg e, List.getElem_set_ne (fun x => e x.symm)]
      refine (h4.kept hK ?_ ?_).dom hB
      · rintro (e2 | e2)
        · exact e (h.inj i k hi2 hk e2)
        · exact (h.ap2 i hi2).2 e2
      · rintro x _ hx (e2 | e2)
        · subst e2; exact h.bf.2.2 k hk hx
        · exact h.bf.2.1 x e2 hx
  · rw [List.length_set] at hi hj
    by_cases e1 : i = k
    · by_cases e2 : j = k
      · rw [e1, e2]
      · simp only [if_pos e1, if_neg e2] at e
        exact absurd e.symm (hne j hj e2)
    · by_cases e2 : j = k
      · simp only [if_neg e1, if_pos e2] at e
        exact absurd e (hne i hi e1)
      · simp only [if_neg e1, if_neg e2] at e
        exact h.inj i j hi hj e
  · rw [List.length_set] at hi
    by_cases e : i = k
    · rw [if_pos e]
      rcases hr with hr | hr
      · rw [hr]; exact h.ap2 k hk
      · refine ⟨by omega, fun e2 => ?_⟩
        have := h1.lt _ e2
        omega
    · rw [if_neg e]; exact h.ap2 i hi
  · rw [List.length_set] at hi
    by_cases e : i = k
    · simp only [if_pos e] at hb
      rcases hr with hr | hr
      · rw [hr] at hb
        exact h.bf.2.2 k hk (nb _ (hrow k hk) hb)
      · rcases hB2 _ hb with hb | hb
        · have := h.lt _ hb; omega
        · exact hb.2 rfl
    · simp only [if_neg e] at hb
      exact h.bf.2.2 i hi (nb _ (hrow i hi) hb)
/-- the blocks stay, or are new -/
theorem TBlk.put {g : Nat} {gso : Option Nat} {row : Nat → Nat} {Bf Bf' : Nat → Prop} {n k r' z : Nat} (hk : k < n) (hr : r' = row k ∨ z ≤ r') (hB2 : ∀ x, Bf' x → Bf x ∨ (z ≤ x ∧ x ≠ r')) : ∀ x, TBlk g gso (fun i => if i = k then r' else row i) Bf' n x → TBlk g gso row Bf n x ∨ z ≤ x := by
  rintro x (rfl | hx | ⟨i, hi, rfl⟩ | hx)
  · exact .inl (.inl rfl)
  · exact .inl (.inr (.inl hx))
  · by_cases e : i = k
    · simp only [if_pos e]
      rcases hr with hr | hr
      · exact .inl (.inr (.inr (.inl ⟨k, hk, hr.symm⟩)))
      · exact .inr hr
    · simp only [if_neg e]
      exact .inl (.inr (.inr (.inl ⟨i, hi, rfl⟩)))
  · rcases hB2 x hx with hx | hx
    · exact .inl (.inr (.inr (.inr hx)))
    · exact .inr hx.1
/-- such a struct -/
def trackO (ty : TypeId) (ext : List Value) (g : Nat) (S : List (List (List UInt8))) : Obj := ⟨fun B w => ∃ gso vo row Bf, Trk w ty ext g gso vo row Bf S ∧ ∀ x, TBlk g gso row Bf S.length x → B x, fun {B S w w'} h hk hs => by
  obtain ⟨gso, vo, row, Bf, h1, h2⟩ := h
  exact ⟨gso, vo, row, Bf, h1.kept hk (fun x hx => hs x (h1.blk_lt x hx) (h2 x hx)), h2⟩⟩
/-- how it reads at sector k -/
theorem Trk.look {w : World} {ty : TypeId} {ext : List Value} {g : Nat} {gso : Option Nat} {vo : Value} {row : Nat → Nat} {Bf : Nat → Prop} {S : List (List (List UInt8))} (h : Trk w ty ext g gso vo row Bf S) {k : Nat} (hk : k < S.length) (hp : 0 < S[k].length) :
    ∃ gs so co ro rc, gso = some gs ∧ vo = .slice (some ⟨gs, so, none⟩) S.length co ∧ (S.length ≤ co ∧ co ≤ 9223372036854775807) ∧ (S[k].length ≤ rc ∧ rc ≤ 9223372036854775807) ∧ g < w.heap.size ∧ gs < w.heap.size ∧ row k < w.heap.size ∧
      w.cell? ⟨g, 0, none⟩ = some vo ∧ w.cell? ⟨gs, so + k, none⟩ = some (.slice (some ⟨row k, ro, none⟩) S[k].length rc) ∧
      InR w Bf (row k) (.slice (some ⟨row k, ro, none⟩) S[k].length rc) S[k] ∧
      ∀ j (hj : j < S[k].length), ∃ a c, w.cell? ⟨row k, ro + j, none⟩ = some (.slice a 64 c) ∧ Bs Bf w a 64 c S[k][j] := by
  obtain ⟨xs, h1, h2⟩ := h.outer
  obtain ⟨gs, so, co, rfl, rfl, e1, e2, e3, e4⟩ := h1.at (by omega)
  obtain ⟨v, hv, hin⟩ := h2 k hk
  have hin2 := hin
  obtain ⟨ys, h3, h5⟩ := hin
  obtain ⟨r, ro, rc, hr, rfl, f1, f2, f3, f4⟩ := h3.at hp
  obtain rfl : row k = r := Option.some.inj hr
  have hxk : k < xs.length := by rw [h1.1]; exact hk
  have hc := e4 k hxk
  rw [List.getElem?_eq_getElem hxk] at hv
  rw [Option.some.inj hv] at hc
  refine ⟨gs, so, co, ro, rc, rfl, rfl, ⟨e1, e2⟩, ⟨f1, f2⟩, (Array.getElem?_eq_some_iff.1 h.self).1, e3, f3, ?_, hc, hin2, fun j hj => ?_⟩
  · rw [cell_of_row w g 0 _ _ _ h.self]; rfl
  · obtain ⟨a, c, g1, g2⟩ := h5 j hj
    have hjl : j < ys.length := by rw [h3.1]; exact hj
    have := f4 j hjl
    rw [List.getElem?_eq_getElem hjl] at g1
    rw [Option.some.inj g1] at this
    exact ⟨a, c, this, g2⟩
end Go.Proofs.Ytbnodhcgdgcebaa

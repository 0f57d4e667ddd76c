/-
  Mathematics of zones: segments, offsets, instants, the one instant of a local time.
-/
import Derived.Test.YtcdjilnlmihnhaaDoorA0
namespace Go.Proofs.YtcdjilnlmihnhaaDoor
set_option linter.unusedSimpArgs false
set_option linter.unusedVariables false
/-- a shift; a segment -/
structure SM where
  t : Int
  o : Int
structure SgM where
  f : Int
  u : Int
  o : Int
def minI : Int := -9223372036854775808
def maxI : Int := 9223372036854775807
/-- the segments from a start and an offset on -/
def segL (f o : Int) : List SM → List SgM
  | [] => [⟨f, maxI, o⟩]
  | s :: l => ⟨f, s.t, o⟩ :: segL s.t s.o l
theorem segL_len (f o : Int) (l : List SM) : (segL f o l).length = l.length + 1 := by
  induction l generalizing f o with
  | nil => rfl
  | cons s l ih => rw [segL, List.length_cons, ih, List.length_cons]
/-- shifts in order, two days apart, from f on -/
def Far (f : Int) : List SM → Prop
  | [] => True
  | s :: l => (f ≤ s.t ∧ s.t ≤ 8589934592 + 1440000) ∧ (-900 ≤ s.o ∧ s.o ≤ 900) ∧ Far (s.t + 2880) l
theorem Far.mono {f g : Int} (h : g ≤ f) : ∀ {l : List SM}, Far f l → Far g l
  | [], _ => trivial
  | s :: l, h' => ⟨⟨by have := h'.1.1; omega, h'.1.2⟩, h'.2.1, h'.2.2⟩
/-- the offset at an instant: as the program finds it; over the shifts; as the reference does -/
def offP (t : Int) (acc : Int) : List SgM → Int
  | [] => acc
  | s :: l => if t < s.f then acc else offP t s.o l
def offZ (t : Int) (o : Int) : List SM → Int
  | [] => o
  | s :: l => if t < s.t then o else offZ t s.o l
def offR (t : Int) (o : Int) : List SM → Int
  | [] => o
  | s :: l => offR t (if s.t ≤ t then s.o else o) l
theorem offP_eq {t : Int} : ∀ (l : List SM) (f o acc : Int), f ≤ t → offP t acc (segL f o l) = offZ t o l
  | [], f, o, acc, h => by rw [segL, offP, if_neg (by show ¬ t < f; omega)]; rfl
  | s :: l, f, o, acc, h => by
    rw [segL, offP, if_neg (by show ¬ t < f; omega), offZ]
    by_cases hs : t < s.t
    · rw [if_pos hs]
      cases l with
      | nil => rw [segL, offP, if_pos hs]
      | cons s' l => rw [segL, offP, if_pos hs]
    · rw [if_neg hs]
      exact offP_eq l s.t s.o o (by omega)
theorem offR_before {t : Int} : ∀ (l : List SM) (f o : Int), Far f l → t < f → offR t o l = o
  | [], _, _, _, _ => rfl
  | s :: l, f, o, hF, h => by
    have := hF.1.1
    rw [offR, if_neg (by omega)]
    exact offR_before l (s.t + 2880) o hF.2.2 (by omega)
theorem offR_eq {t : Int} : ∀ (l : List SM) (f o : Int), Far f l → offR t o l = offZ t o l
  | [], _, _, _ => rfl
  | s :: l, f, o, hF => by
    rw [offR, offZ]
    by_cases hs : t < s.t
    · rw [if_neg (by omega), if_pos hs]
      exact offR_before l (s.t + 2880) o hF.2.2 (by omega)
    · rw [if_pos (by omega), if_neg hs]
      exact offR_eq l _ s.o hF.2.2
theorem offZ_bd {t : Int} : ∀ (l : List SM) (f o : Int), Far f l → -900 ≤ o → o ≤ 900 → -900 ≤ offZ t o l ∧ offZ t o l ≤ 900
  | [], _, o, _, h1, h2 => ⟨h1, h2⟩
  | s :: l, f, o, hF, h1, h2 => by
    rw [offZ]
    by_cases hs : t < s.t
    · rw [if_pos hs]; exact ⟨h1, h2⟩
    · rw [if_neg hs]; exact offZ_bd l _ s.o hF.2.2 hF.2.1.1 hF.2.1.2
/-- a minute later the offset is the same, or a shift lies there -/
theorem offZ_step {t : Int} : ∀ (l : List SM) (f o : Int), Far f l → offZ (t + 1) o l = offZ t o l ∨ ∃ s ∈ l, s.t = t + 1
  | [], _, o, _ => .inl rfl
  | s :: l, f, o, hF => by
    rw [offZ, offZ]
    by_cases h1 : t + 1 < s.t
    · rw [if_pos h1, if_pos (by omega)]; exact .inl rfl
    · by_cases h2 : t < s.t
      · exact .inr ⟨s, List.mem_cons_self, by omega⟩
      · rw [if_neg h1, if_neg h2]
        rcases offZ_step l _ s.o hF.2.2 with h | ⟨x, hx, e⟩
        · exact .inl h
        · exact .inr ⟨x, List.mem_cons_of_mem _ hx, e⟩
/-- all shifts later -/
def moveL (d : Int) (l : List SM) : List SM := l.map fun s => ⟨s.t + d, s.o⟩
theorem offZ_move (t d : Int) : ∀ (l : List SM) (o : Int), offZ (t + d) o (moveL d l) = offZ t o l
  | [], _ => rfl
  | s :: l, o => by
    show offZ (t + d) o (⟨s.t + d, s.o⟩ :: moveL d l) = _
    rw [offZ, offZ]
    by_cases hs : t < s.t
    · rw [if_pos hs, if_pos (by show t + d < s.t + d; omega)]
    · rw [if_neg hs, if_neg (by show ¬ t + d < s.t + d; omega)]
      exact offZ_move t d l s.o
/-- the instants of a local time -/
def insP (n : Int) (l : List SgM) : List Int := l.filterMap fun s => if s.f ≤ n - s.o ∧ n - s.o < s.u then some (n - s.o) else none
theorem insP_cons (n : Int) (s : SgM) (l : List SgM) : insP n (s :: l) = if s.f ≤ n - s.o ∧ n - s.o < s.u then (n - s.o) :: insP n l else insP n l := by
  unfold insP
  rw [List.filterMap_cons]
  by_cases h : s.f ≤ n - s.o ∧ n - s.o < s.u
  · simp only [if_pos h]
  · simp only [if_neg h]
theorem insP_snoc (n : Int) (l : List SgM) (s : SgM) : insP n (l ++ [s]) = if s.f ≤ n - s.o ∧ n - s.o < s.u then insP n l ++ [n - s.o] else insP n l := by
  unfold insP
  rw [List.filterMap_append]
  by_cases h : s.f ≤ n - s.o ∧ n - s.o < s.u
  · simp [List.filterMap_cons, h]
  · rw [if_neg h]; simp only [List.filterMap_cons, if_neg h, List.filterMap_nil, List.append_nil]
theorem insP_len (n : Int) (l : List SgM) : (insP n l).length ≤ l.length := List.length_filterMap_le _ _
theorem insP_nil {n : Int} : ∀ (l : List SM) (f o : Int), Far (f + 2880) l → -900 ≤ o → n + 900 < f → insP n (segL f o l) = []
  | [], f, o, _, h1, h => by rw [segL, insP_cons, if_neg (by show ¬ (f ≤ n - o ∧ _); omega)]; rfl
  | s :: l, f, o, hF, h1, h => by
    have := hF.1.1
    rw [segL, insP_cons, if_neg (by show ¬ (f ≤ n - o ∧ _); omega)]
    exact insP_nil l s.t s.o hF.2.2 hF.2.1.1 (by omega)
theorem insP_ge {n : Int} : ∀ (l : List SM) (f o : Int), Far f l → ∀ c ∈ insP n (segL f o l), f ≤ c
  | [], f, o, _, c, hc => by
    rw [segL, insP_cons] at hc
    split at hc
    · rename_i h
      rcases List.mem_cons.1 hc with rfl | hc
      · exact h.1
      · cases hc
    · cases hc
  | s :: l, f, o, hF, c, hc => by
    have := hF.1.1
    have ih := fun h => insP_ge (n := n) l s.t s.o (hF.2.2.mono (by omega)) c h
    rw [segL, insP_cons] at hc
    split at hc
    · rename_i h
      rcases List.mem_cons.1 hc with rfl | hc
      · exact h.1
      · have := ih hc; omega
    · have := ih hc; omega
theorem insP_sorted {n : Int} : ∀ (l : List SM) (f o : Int), Far f l → (insP n (segL f o l)).Pairwise (· < ·)
  | [], f, o, _ => by
    rw [segL, insP_cons]
    split
    · exact List.pairwise_cons.2 ⟨(fun _ h => by cases h), List.Pairwise.nil⟩
    · exact List.Pairwise.nil
  | s :: l, f, o, hF => by
    have ih := insP_sorted (n := n) l s.t s.o (hF.2.2.mono (by omega))
    rw [segL, insP_cons]
    split
    · rename_i h
      refine List.pairwise_cons.2 ⟨fun c hc => ?_, ih⟩
      have h1 := insP_ge l s.t s.o (hF.2.2.mono (by omega)) c hc
      have h2 := h.2
      show n - o < c
      have : n - o < s.t := h2
      omega
    · exact ih
theorem insP_two {n : Int} : ∀ (l : List SM) (f o : Int), Far f l → -900 ≤ o → o ≤ 900 → (insP n (segL f o l)).length ≤ 2
  | [], f, o, _, _, _ => by have := insP_len n (segL f o []); rw [segL_len] at this; simp at this; omega
  | s :: l, f, o, hF, h1, h2 => by
    have hs := hF.2.1
    rw [segL, insP_cons]
    split
    · rename_i h
      have h3 : n - o < s.t := h.2
      rw [List.length_cons]
      suffices (insP n (segL s.t s.o l)).length ≤ 1 by omega
      cases l with
      | nil => have := insP_len n (segL s.t s.o []); rw [segL_len] at this; simpa using this
      | cons s' l =>
        have hF' := hF.2.2
        have := hF'.1.1
        rw [segL, insP_cons, insP_nil l s'.t s'.o hF'.2.2 hF'.2.1.1 (by omega)]
        split <;> simp
    · exact insP_two l s.t s.o (hF.2.2.mono (by omega)) hs.1 hs.2
/-- the one instant of a local time, as the program finds it -/
def resP (late : Bool) (n : Int) (acc : Int) : List SgM → Int
  | [] => acc
  | s :: l => if n - s.o < s.f then acc else if n - s.o < s.u ∧ late = false then min (n - s.o) s.u else resP late n (min (n - s.o) s.u) l
/-- the first shift whose gap has a local time -/
def gapF (n : Int) (o : Int) : List SM → Option Int
  | [] => none
  | s :: l => if s.t + o ≤ n ∧ n < s.t + s.o then some s.t else gapF n s.o l
theorem gapF_none {n : Int} : ∀ (l : List SM) (f o : Int), Far f l → -900 ≤ o → n < f - 900 → gapF n o l = none
  | [], _, _, _, _, _ => rfl
  | s :: l, f, o, hF, h1, h => by
    have := hF.1.1
    have h2 := hF.2.1
    rw [gapF, if_neg (by omega)]
    exact gapF_none l _ s.o hF.2.2 h2.1 (by omega)
theorem resP_seg {late : Bool} {n acc f o : Int} (l : List SM) (h : n - o < f) : resP late n acc (segL f o l) = acc := by
  cases l with
  | nil => rw [segL, resP, if_pos h]
  | cons s l => rw [segL, resP, if_pos h]
theorem zmain {n : Int} (hn : n ≤ 1099511627776) : ∀ (l : List SM) (f o : Int), Far f l → -900 ≤ o → o ≤ 900 → f + o ≤ n →
    (insP n (segL f o l) = [] ∧ ∃ x, gapF n o l = some x ∧ ∀ acc late, resP late n acc (segL f o l) = x) ∨
    (gapF n o l = none ∧ ∃ a b, (insP n (segL f o l)).head? = some a ∧ (insP n (segL f o l)).getLast? = some b ∧ ∀ acc, resP false n acc (segL f o l) = a ∧ resP true n acc (segL f o l) = b)
  | [], f, o, _, h1, h2, h => by
    refine .inr ⟨rfl, n - o, n - o, ?_, ?_, fun acc => ⟨?_, ?_⟩⟩
    · rw [segL, insP_cons, if_pos (by show f ≤ n - o ∧ n - o < maxI; unfold maxI; omega)]; rfl
    · rw [segL, insP_cons, if_pos (by show f ≤ n - o ∧ n - o < maxI; unfold maxI; omega)]; rfl
    · rw [segL, resP, if_neg (by show ¬ n - o < f; omega), if_pos ⟨by show n - o < maxI; unfold maxI; omega, rfl⟩]
      show min (n - o) maxI = _
      unfold maxI; omega
    · rw [segL, resP, if_neg (by show ¬ n - o < f; omega), if_neg (fun h => by cases h.2), resP]
      show min (n - o) maxI = _
      unfold maxI; omega
  | s :: l, f, o, hF, h1, h2, h => by
    have hs := hF.2.1
    have hft := hF.1.1
    have hF1 : Far s.t l := hF.2.2.mono (by omega)
    by_cases ha : n - o < s.t
    · -- an instant lies here
      have eP : insP n (segL f o (s :: l)) = (n - o) :: insP n (segL s.t s.o l) := by
        rw [segL, insP_cons, if_pos ⟨by show f ≤ n - o; omega, ha⟩]
      have eg : gapF n o (s :: l) = none := by
        rw [gapF, if_neg (by omega)]
        exact gapF_none l _ s.o hF.2.2 hs.1 (by omega)
      have eE : ∀ acc, resP false n acc (segL f o (s :: l)) = n - o := fun acc => by
        rw [segL, resP, if_neg (by show ¬ n - o < f; omega), if_pos ⟨ha, rfl⟩]
        show min (n - o) s.t = _
        omega
      have eL : ∀ acc, resP true n acc (segL f o (s :: l)) = resP true n (n - o) (segL s.t s.o l) := fun acc => by
        rw [segL, resP, if_neg (by show ¬ n - o < f; omega), if_neg (fun h => by cases h.2)]
        show resP true n (min (n - o) s.t) _ = _
        rw [show min (n - o) s.t = n - o by omega]
      by_cases hb : n - s.o < s.t
      · have e0 : insP n (segL s.t s.o l) = [] := by
          cases l with
          | nil => rw [segL, insP_cons, if_neg (by show ¬ (s.t ≤ n - s.o ∧ _); omega)]; rfl
          | cons s' l =>
            have hF' := hF.2.2
            have := hF'.1.1
            rw [segL, insP_cons, if_neg (by show ¬ (s.t ≤ n - s.o ∧ _); omega)]
            exact insP_nil l s'.t s'.o hF'.2.2 hF'.2.1.1 (by omega)
        exact .inr ⟨eg, n - o, n - o, by rw [eP]; rfl, by rw [eP, e0]; rfl, fun acc => ⟨eE acc, by rw [eL, resP_seg l hb]⟩⟩
      · rcases zmain hn l s.t s.o hF1 hs.1 hs.2 (by omega) with ⟨-, x, hx, -⟩ | ⟨-, a, b, hha, hlb, hr⟩
        · rw [gapF_none l _ s.o hF.2.2 hs.1 (by omega)] at hx
          cases hx
        · refine .inr ⟨eg, n - o, b, by rw [eP]; rfl, ?_, fun acc => ⟨eE acc, by rw [eL]; exact (hr _).2⟩⟩
          rw [eP, List.getLast?_cons, hlb]
          rfl
    · -- behind this segment
      have eP : insP n (segL f o (s :: l)) = insP n (segL s.t s.o l) := by
        rw [segL, insP_cons, if_neg (by show ¬ (_ ∧ n - o < s.t); omega)]
      have eR : ∀ acc late, resP late n acc (segL f o (s :: l)) = resP late n s.t (segL s.t s.o l) := fun acc late => by
        rw [segL, resP, if_neg (by show ¬ n - o < f; omega), if_neg (fun h => ha h.1)]
        show resP late n (min (n - o) s.t) _ = _
        rw [show min (n - o) s.t = s.t by omega]
      by_cases hb : n - s.o < s.t
      · refine .inl ⟨?_, s.t, ?_, fun acc late => by rw [eR, resP_seg l hb]⟩
        · rw [eP]
          cases l with
          | nil => rw [segL, insP_cons, if_neg (by show ¬ (s.t ≤ n - s.o ∧ _); omega)]; rfl
          | cons s' l =>
            have hF' := hF.2.2
            have := hF'.1.1
            rw [segL, insP_cons, if_neg (by show ¬ (s.t ≤ n - s.o ∧ _); omega)]
            exact insP_nil l s'.t s'.o hF'.2.2 hF'.2.1.1 (by omega)
        · rw [gapF, if_pos (by omega)]
      · have eg : gapF n o (s :: l) = gapF n s.o l := by rw [gapF, if_neg (by omega)]
        rw [eP, eg]
        rcases zmain hn l s.t s.o hF1 hs.1 hs.2 (by omega) with ⟨e, x, hx, hr⟩ | ⟨e, a, b, hha, hlb, hr⟩
        · exact .inl ⟨e, x, hx, fun acc late => by rw [eR]; exact hr _ _⟩
        · exact .inr ⟨e, a, b, hha, hlb, fun acc => ⟨by rw [eR]; exact (hr _).1, by rw [eR]; exact (hr _).2⟩⟩
theorem resP_go {late : Bool} {n acc f u o : Int} (l : List SgM) (h : f + o ≤ n) : resP late n acc (⟨f, u, o⟩ :: l) = if n - o < u ∧ late = false then min (n - o) u else resP late n (min (n - o) u) l := by
  rw [resP, if_neg (by show ¬ n - o < f; omega)]
theorem resP_end {late : Bool} {n acc f u o : Int} (h : f + o ≤ n) : resP late n acc [⟨f, u, o⟩] = min (n - o) u := by
  rw [resP_go [] h, resP]
  split <;> rfl
/-- Resolve keeps the order -/
theorem resP_ge {late : Bool} {n : Int} : ∀ (l : List SM) (f o acc : Int), Far f l → f + o ≤ n → f ≤ maxI → f ≤ resP late n acc (segL f o l)
  | [], f, o, acc, _, h, hm => by
    rw [segL, resP_end h]; omega
  | s :: l, f, o, acc, hF, h, hm => by
    have hft := hF.1
    rw [segL, resP_go _ h]
    split
    · omega
    · by_cases hb : n - s.o < s.t
      · rw [resP_seg l hb]; omega
      · have := resP_ge (late := late) (n := n) l s.t s.o (min (n - o) s.t) (hF.2.2.mono (by omega)) (by omega) (by unfold maxI; omega)
        omega
theorem resP_acc {late : Bool} {n : Int} (l : List SM) (f o a b : Int) (h : f + o ≤ n) : resP late n a (segL f o l) = resP late n b (segL f o l) := by
  cases l with
  | nil => rw [segL, resP_end h, resP_end h]
  | cons s l => rw [segL, resP_go _ h, resP_go _ h]
theorem resP_rest {late : Bool} {n : Int} (l : List SM) (s : SM) (acc : Int) (hF : Far s.t l) (ht : s.t ≤ maxI) (h : s.t ≤ acc) : s.t ≤ resP late n acc (segL s.t s.o l) := by
  by_cases hb : n - s.o < s.t
  · rw [resP_seg l hb]; exact h
  · exact resP_ge l s.t s.o acc hF (by omega) ht
theorem resP_mono {late : Bool} {n m : Int} (hnm : n ≤ m) : ∀ (l : List SM) (f o a b : Int), Far f l → f + o ≤ n → resP late n a (segL f o l) ≤ resP late m b (segL f o l)
  | [], f, o, a, b, _, h => by
    rw [segL, resP_end h, resP_end (by omega)]
    omega
  | s :: l, f, o, a, b, hF, h => by
    have hft := hF.1
    have hF1 : Far s.t l := hF.2.2.mono (by omega)
    have htm : s.t ≤ maxI := by unfold maxI; omega
    rw [segL, resP_go _ h, resP_go _ (by omega)]
    by_cases h1 : n - o < s.t ∧ late = false
    · rw [if_pos h1]
      by_cases h2 : m - o < s.t ∧ late = false
      · rw [if_pos h2]; omega
      · rw [if_neg h2]
        have : s.t ≤ m - o := by
          by_cases h3 : m - o < s.t
          · exact absurd ⟨h3, h1.2⟩ h2
          · omega
        have := resP_rest (late := late) (n := m) l s (min (m - o) s.t) hF1 htm (by omega)
        omega
    · rw [if_neg h1]
      by_cases h2 : m - o < s.t ∧ late = false
      · exact absurd ⟨by omega, h2.2⟩ h1
      · rw [if_neg h2]
        by_cases hb : n - s.o < s.t
        · rw [resP_seg l hb]
          by_cases hc : m - s.o < s.t
          · rw [resP_seg l hc]; omega
          · have := resP_ge (late := late) (n := m) l s.t s.o (min (m - o) s.t) hF1 (by omega) htm
            omega
        · exact resP_mono hnm l s.t s.o _ _ hF1 (by omega)
theorem resP_late {n : Int} : ∀ (l : List SM) (f o a b : Int), Far f l → f + o ≤ n → resP false n a (segL f o l) ≤ resP true n b (segL f o l)
  | [], f, o, a, b, _, h => by
    rw [segL, resP_end h, resP_end h]
    omega
  | s :: l, f, o, a, b, hF, h => by
    have hft := hF.1
    have hF1 : Far s.t l := hF.2.2.mono (by omega)
    have htm : s.t ≤ maxI := by unfold maxI; omega
    rw [segL, resP_go _ h, resP_go _ h, if_neg (fun h : _ ∧ true = false => by cases h.2)]
    by_cases h1 : n - o < s.t
    · rw [if_pos ⟨h1, rfl⟩]
      by_cases hb : n - s.o < s.t
      · rw [resP_seg l hb]; omega
      · have := resP_ge (late := true) (n := n) l s.t s.o (min (n - o) s.t) hF1 (by omega) htm
        omega
    · rw [if_neg (fun h => h1 h.1)]
      by_cases hb : n - s.o < s.t
      · rw [resP_seg l hb, resP_seg l hb]; omega
      · exact resP_late l s.t s.o _ _ hF1 (by omega)
end Go.Proofs.YtcdjilnlmihnhaaDoor

/-
  Texts R3, S6, S7, S8, S9, one behind the other.
-/
import Derived.Orders
import Derived.Tactics
import Derived.Deep.MidRow
import Derived.WalkKit
import Derived.WalkSpells
import Derived.WalkLawsBesides
import Derived.Laws.AppendOwn
import Derived.Laws.OwnMore
import Derived.Deep.AppendSrc
import Derived.Lib.Hide
import GoSem.Claim
import Derived.Maps.RangeRun
import Derived.Maps.Range
import Derived.Maps.OwnOps
import Derived.Maps.RangeWalk
import Derived.Deep.Cut
import Derived.Deep.RegionWith
import Derived.Deep.DrawnRows
import Derived.StillTailTactics
import Derived.Carry
import Derived.Laws.CopyOwn
import Derived.Test.YthffegfcgmhppaaDoorRows
import Derived.Test.YthffegfcgmhppaaDoorZV500
namespace Go.Proofs.YthffegfcgmhppaaDoor.Roll
variable {P : Program} {ops : Array Oper} {Q : Exit → Act → World → Prop}
/-- what an operation may take for granted -/
def Inw (I0 J : World → Prop) (k0 : Nat) (PL : List Bool) (k : Nat) (w : World) : Prop := if k = k0 then I0 w else if PL.getD k false = true then J w else I0 w
/-- what an operation leaves -/
def Outw (I0 : World → Prop) (I1 : Value → World → Prop) (k0 : Nat) (PL : List Bool) (S : World → World → Prop) (k : Nat) (v : Value) (w w' : World) : Prop := if k = k0 then I1 v w' ∧ S w w' else if PL.getD k false = true then w' = w else I0 w' ∧ S w w'
def Doesw (P : Program) (ops : Array Oper) (L : List (List Nat)) (I0 : World → Prop) (I1 : Value → World → Prop) (J : World → Prop) (k0 : Nat) (PL : List Bool) (S : World → World → Prop) (R : Nat → (Nat → Value) → World → Prop) (a0 : Act) (k : Nat) (o : Oper) : Prop :=
  ∀ (vals : Nat → Value) (w : World), Inw I0 J k0 PL k w → (∀ j ∈ L.getD k [], R j vals w) →
    wpList P ops (Post (putOf ops vals (L.getD k []) a0) o.dst fun v w' => Outw I0 I1 k0 PL S k (if o.dst.isSome then v else undef) w w' ∧ resg o R k vals v w') [o] (putOf ops vals (L.getD k []) a0) w
structure Heldw (ops : Array Oper) (I0 : World → Prop) (I1 : Value → World → Prop) (k0 : Nat) (R : Nat → (Nat → Value) → World → Prop) (a0 : Act) (vals : Nat → Value) (listed : Array Bool) (a : Act) (w : World) : Prop where
  inv : (listed[k0]? = some true → I1 (vals k0) w) ∧ (listed[k0]? = some false → I0 w)
  len : listed.size = ops.size
  defers : a.defers = a0.defers
  size : a.tmps.size = a0.tmps.size
  closed : ∀ (j : Nat) (o : Oper), ops[j]? = some o → listed[j]? = some true → ∀ i ∈ ahead o, listed[i]? = some true
  old : ∀ t : Nat, (∀ j : Nat, listed[j]? = some true → slot ops j ≠ some t) → a.tmps[t]? = a0.tmps[t]?
  new : ∀ (j t : Nat), listed[j]? = some true → slot ops j = some t → a.tmps[t]? = some (vals j)
  got : ∀ j : Nat, listed[j]? = some true → R j vals w
/-- operation k must stand ahead of operation j, by at most so many steps -/
def aheadB (ops : Array Oper) : Nat → Nat → Nat → Bool
  | 0, _, _ => false
  | f + 1, j, k => match ops[j]? with
    | none => false
    | some o => (ahead o).contains k || (ahead o).any fun i => aheadB ops f i k
theorem closedB {ops : Array Oper} {listed : Array Bool} (h : ∀ (j : Nat) (o : Oper), ops[j]? = some o → listed[j]? = some true → ∀ i ∈ ahead o, listed[i]? = some true) : ∀ (f j k : Nat), aheadB ops f j k = true → listed[j]? = some true → listed[k]? = some true
  | 0, _, _, hb, _ => by cases hb
  | f + 1, j, k, hb, hl => by
    unfold aheadB at hb
    cases ho : ops[j]? with
    | none => rw [ho] at hb; cases hb
    | some o =>
      rw [ho] at hb
      simp only [Bool.or_eq_true, List.any_eq_true, List.contains_eq_mem, decide_eq_true_eq] at hb
      rcases hb with hb | ⟨i, hi, hb⟩
      · exact h j o ho hl k hb
      · exact closedB h f i k hb (h j o ho hl i hi)
theorem wpAny_heldw (hb : backOk ops = true) (hap : apartB ops = true) {L : List (List Nat)} (hlo : looksOk ops L = true) {n : Nat} (hnle : n ≤ ops.size) (htl : tailOk ops n = true) {I0 : World → Prop} {I1 : Value → World → Prop} {J : World → Prop} {k0 : Nat} {PL : List Bool} {S : World → World → Prop} {R : Nat → (Nat → Value) → World → Prop} {a0 : Act}
    (hsz : ∀ j t, slot ops j = some t → t < a0.tmps.size)
    (hS : ∀ j v w w', S w w' → R j v w → R j v w') (hC : ∀ j v v' w, (∀ i, i = j ∨ i ∈ L.getD j [] → v i = v' i) → R j v w → R j v' w) (hk0 : k0 < n) (hPL : ∀ (o : Oper) (k : Nat), ops[k0]? = some o → k < n → k ≠ k0 → PL.getD k false = true ∨ aheadB ops 12 k0 k = true) (hJ0 : ∀ w, I0 w → J w) (hJ1 : ∀ u w, I1 u w → J w) (hS0 : ∀ w, S w w)
    (hop : ∀ (k : Nat) (o : Oper), k < n → ops[k]? = some o → Doesw P ops L I0 I1 J k0 PL S R a0 k o)
    (hend : ∀ (vals : Nat → Value) (w : World), I1 (vals k0) w → (∀ j : Nat, j < n → R j vals w) → wpList P ops Q (ops.toList.drop n) (putOf ops vals (List.range n) a0) w) :
    ∀ (fuel : Nat) (listed : Array Bool) (vals : Nat → Value) (a : Act) (w : World), listed.toList.count false ≤ fuel → (∀ j : Nat, n ≤ j → j < ops.size → listed[j]? = some false) → Heldw ops I0 I1 k0 R a0 vals listed a w → wpAny P .any ops Q fuel listed a w := by
  have slot_lt : ∀ {j t : Nat}, slot ops j = some t → j < ops.size := by
    intro j t hj
    unfold slot at hj
    cases hk : ops[j]? with
    | none => rw [hk] at hj; cases hj
    | some o => exact (Array.getElem?_eq_some_iff.1 hk).1
  have fin : ∀ (fuel : Nat) (listed : Array Bool) (vals : Nat → Value) (a : Act) (w : World), listed.toList.count false ≤ fuel → (∀ j : Nat, n ≤ j → j < ops.size → listed[j]? = some false) → Heldw ops I0 I1 k0 R a0 vals listed a w → (∀ j : Nat, j < n → listed[j]? = some true) → wpAny P .any ops Q fuel listed a w := by
    intro fuel listed vals a w hc hun h hall
    have e : a = putOf ops vals (List.range n) a0 := by
      have et : a.tmps = (putOf ops vals (List.range n) a0).tmps := by
        refine Array.ext_getElem? fun t => ?_
        by_cases hx : ∃ j : Nat, j < n ∧ slot ops j = some t
        · obtain ⟨j, hjn, hj⟩ := hx
          rw [h.new j t (hall j hjn) hj, putOf_mem hap vals _ _ j t (List.mem_range.2 hjn) hj (hsz j t hj)]
        · rw [h.old t (fun j hj e => ?_), putOf_other ops vals _ _ t (fun j hj e => hx ⟨j, List.mem_range.1 hj, e⟩)]
          rcases Nat.lt_or_ge j n with hjn | hjn
          · exact hx ⟨j, hjn, e⟩
          · rw [hun j hjn (slot_lt e)] at hj; cases hj
      have ed : a.defers = (putOf ops vals (List.range n) a0).defers := by rw [putOf_defers]; exact h.defers
      cases a
      generalize putOf ops vals (List.range n) a0 = b at *
      cases b
      simp_all
    have hcnt : ops.size - n ≤ fuel := by
      refine Nat.le_trans ?_ hc
      have h1 : (listed.toList.drop n).count false = ops.size - n := by
        rw [List.count_eq_length.2]
        · simp [h.len]
        · intro b hb'
          obtain ⟨i, hi, rfl⟩ := List.mem_iff_getElem.1 hb'
          simp only [List.length_drop, Array.length_toList] at hi
          have := hun (n + i) (by omega) (by rw [← h.len]; omega)
          rw [Array.getElem?_eq_getElem (by omega)] at this
          simpa using (Option.some.inj this).symm
      rw [← h1]
      exact (List.drop_sublist n _).count_le false
    exact wpAny_tail hb htl fuel n listed a w (Nat.le_refl _) hnle hcnt h.len hall hun (e ▸ hend vals w (h.inv.1 (hall k0 hk0)) (fun j hj => h.got j (hall j hj)))
  intro fuel
  induction fuel with
  | zero =>
    intro listed vals a w hc hun h
    refine fin 0 listed vals a w hc hun h fun j hj => ?_
    have hjl : j < listed.size := by rw [h.len]; omega
    rw [Array.getElem?_eq_getElem hjl]
    have h0 : listed.toList.count false = 0 := by omega
    have := List.count_eq_zero.1 h0
    cases hv : listed[j] with
    | true => rfl
    | false => exact (this (hv ▸ (by simp))).elim
  | succ fuel ih =>
    intro listed vals a w hc hun h
    by_cases hall : ∀ j : Nat, j < n → listed[j]? = some true
    · exact fin _ listed vals a w hc hun h hall
    refine ⟨fun hr => (hall fun j hj => ready_least rfl hb h.len hr j (by omega)).elim, fun k hk => ?_⟩
    obtain ⟨hu, o, ho, hedge⟩ := mem_ready.1 hk
    have hku := unlisted_of_getD hu
    have hklt : k < ops.size := (Array.getElem?_eq_some_iff.1 ho).1
    have hkn : k < n := by
      rcases Nat.lt_or_ge k n with hx | hx
      · exact hx
      · exact (hall fun j hj => by
          obtain ⟨e, he, hbd, hon⟩ := ahead_of_edge (tail_ahead htl ho hx (show j < k by omega))
          exact hon ▸ listed_of_getD (hedge e he hbd)).elim
    have hah : ∀ i ∈ ahead o, listed[i]? = some true := by
      intro i hi
      obtain ⟨e, he, rfl⟩ := List.mem_map.1 hi
      obtain ⟨h1, h2⟩ := List.mem_filter.1 he
      exact listed_of_getD (hedge e (by simpa using h1) h2)
    have hlk := List.all_eq_true.1 hlo k (List.mem_range.2 hklt)
    simp only [ho, Bool.and_eq_true] at hlk
    obtain ⟨⟨hsel, hpre⟩, hlk⟩ := hlk
    have hpre' : ∀ i ∈ L.getD k [], i ∈ ahead o := fun i hi => by simpa using List.all_eq_true.1 hpre i hi
    have hsame : ∀ t ∈ o.looksAt ops, a.tmps[t]? = (putOf ops vals (L.getD k []) a0).tmps[t]? := by
      intro t ht
      have h1 := List.all_eq_true.1 hlk t ht
      by_cases hx : ∃ j : Nat, listed[j]? = some true ∧ slot ops j = some t
      · obtain ⟨j, hj, hjt⟩ := hx
        have hjlt : j < ops.size := by rw [← h.len]; exact (Array.getElem?_eq_some_iff.1 hj).1
        have h2 := List.all_eq_true.1 h1 j (List.mem_range.2 hjlt)
        have hoj : ops[j]? = some ops[j] := Array.getElem?_eq_getElem hjlt
        simp only [hoj, Bool.or_eq_true, bne_iff_ne, ne_eq, List.contains_eq_mem, decide_eq_true_eq] at h2
        have hjin : j ∈ L.getD k [] := by
          rcases h2 with (h2 | h2) | h2
          · exact (h2 hjt).elim
          · exact h2
          · have := h.closed j _ hoj hj k h2
            rw [hku] at this; cases this
        rw [h.new j t hj hjt, putOf_mem hap vals _ _ j t hjin hjt (hsz j t hjt)]
      · rw [h.old t (fun j hj e => hx ⟨j, hj, e⟩), putOf_other ops vals _ _ t (fun j hj e => hx ⟨j, hah j (hpre' j hj), e⟩)]
    have hk0l : k0 < listed.size := by rw [h.len]; omega
    have hsd := Array.getElem?_eq_getElem hk0l
    have hJ : J w := by
      cases hv : listed[k0] with
      | true => rw [hv] at hsd; exact hJ1 _ _ (h.inv.1 hsd)
      | false => rw [hv] at hsd; exact hJ0 _ (h.inv.2 hsd)
    have hph : k = k0 ∨ PL.getD k false = true ∨ listed[k0]? = some false := by
      by_cases e : k = k0
      · exact .inl e
      · have hok0 : ops[k0]? = some ops[k0] := Array.getElem?_eq_getElem (by omega)
        rcases hPL _ k hok0 hkn e with hp | hp
        · exact .inr (.inl hp)
        · refine .inr (.inr ?_)
          cases hv : listed[k0] with
          | false => rw [hsd, hv]
          | true =>
            rw [hv] at hsd
            have := closedB h.closed 12 k0 k hp hsd
            rw [hku] at this; cases this
    have hd := hop k o hkn ho vals w (by
      unfold Inw
      by_cases e : k = k0
      · rw [if_pos e]; subst e; exact h.inv.2 hku
      · rw [if_neg e]
        split
        · exact hJ
        · rename_i hnp
          rcases hph with hp | hp | hp
          · exact (e hp).elim
          · exact (hnp hp).elim
          · exact h.inv.2 hp) (fun j hj => h.got j (hah j (hpre' j hj)))
    have hdst : slot ops k = o.dst := by unfold slot; rw [ho]; rfl
    refine wpOp_mono ?_ (wpOp_of_list (Q := Q) (a := a) ho ?_ ?_ (exec_congr (fun cs c e => ?_) hsame) (wanted_congr hsame) hd)
    · rintro a' w' ⟨v, rfl, hO, hR⟩
      have hSw : S w w' := by
        unfold Outw at hO
        split at hO
        · exact hO.2
        · split at hO
          · rw [hO]; exact hS0 w
          · exact hO.2
      refine ih (listed.setIfInBounds k true) (upd vals k (if o.dst.isSome then v else undef)) _ w' (by have := count_set hku; omega) (fun j hj hjs => by rw [set_get hku, if_neg (by omega)]; exact hun j hj hjs) ?_
      refine ⟨?_, ?_, ?_, ?_, ?_, ?_, ?_, ?_⟩
      · by_cases e : k = k0
        · subst e
          unfold Outw at hO
          rw [if_pos rfl] at hO
          refine ⟨fun _ => ?_, fun hf => ?_⟩
          · rw [upd_same]; exact hO.1
          · rw [set_get hku, if_pos rfl] at hf; cases hf
        · unfold Outw at hO
          rw [if_neg e] at hO
          have e2 : k0 ≠ k := fun h => e h.symm
          refine ⟨fun ht => ?_, fun hf => ?_⟩
          · rw [set_get hku, if_neg e2] at ht
            rw [upd_other e2]
            split at hO
            · rw [hO]; exact h.inv.1 ht
            · rename_i hnp
              rcases hph with hp | hp | hp
              · exact (e hp).elim
              · exact (hnp hp).elim
              · rw [ht] at hp; cases hp
          · rw [set_get hku, if_neg e2] at hf
            split at hO
            · rw [hO]; exact h.inv.2 hf
            · exact hO.1
      · rw [Array.size_setIfInBounds]; exact h.len
      · rw [← h.defers]; cases o.dst <;> rfl
      · rw [← h.size]; cases o.dst <;> simp [Act.put]
      · intro j oj hoj hj i hi
        rw [set_get hku] at hj ⊢
        by_cases ei : i = k
        · rw [if_pos ei]
        · rw [if_neg ei]
          by_cases ej : j = k
          · subst ej
            rw [ho] at hoj; cases hoj
            exact hah i hi
          · rw [if_neg ej] at hj
            exact h.closed j oj hoj hj i hi
      · intro t ht
        have hne : o.dst ≠ some t := by rw [← hdst]; exact ht k (by rw [set_get hku, if_pos rfl])
        rw [put_get_ne hne]
        refine h.old t fun j hj => ht j ?_
        rw [set_get hku]; split <;> first | rfl | exact hj
      · intro j t hj hjt
        rw [set_get hku] at hj
        by_cases ej : j = k
        · subst ej
          rw [hdst] at hjt
          rw [hjt, put_get_eq (by rw [h.size]; exact hsz j t (by rw [hdst]; exact hjt)), upd_same]
          simp
        · rw [if_neg ej] at hj
          rw [upd_other ej]
          have hne : o.dst ≠ some t := by
            intro e
            exact ej (apart_inj hap hjt (by rw [hdst]; exact e))
          rw [put_get_ne hne]
          exact h.new j t hj hjt
      · intro j hj
        rw [set_get hku] at hj
        by_cases ej : j = k
        · subst ej
          exact hR
        · rw [if_neg ej] at hj
          have hjlt : j < ops.size := by rw [← h.len]; exact (Array.getElem?_eq_some_iff.1 hj).1
          have hoj : ops[j]? = some ops[j] := Array.getElem?_eq_getElem hjlt
          have hlj := List.all_eq_true.1 hlo j (List.mem_range.2 hjlt)
          simp only [hoj, Bool.and_eq_true] at hlj
          refine hC j vals _ w' (fun i hi => ?_) (hS j _ w w' hSw (h.got j hj))
          have hik : i ≠ k := by
            rcases hi with rfl | hi
            · exact ej
            · intro e
              have h1 : i ∈ ahead ops[j] := by simpa using List.all_eq_true.1 hlj.1.2 i hi
              have h2 := h.closed j _ hoj hj i h1
              rw [e, hku] at h2; cases h2
          rw [upd_other hik]
    · intro hnone v u w'
      unfold resg
      rw [hnone]
      exact id
    · intro t ht
      rw [putOf_size]
      exact hsz k t (by rw [hdst]; exact ht)
    · rw [e] at hsel; cases hsel
/-- what is owed for one operation -/
def Owesw (P : Program) (D : List (Option Tmp)) (ps : List Nat) (I0 : World → Prop) (I1 : Value → World → Prop) (J : World → Prop) (k0 : Nat) (PL : List Bool) (S : World → World → Prop) (R : Nat → (Nat → Value) → World → Prop) (a0 : Act) (k : Nat) (o : Oper) : Prop :=
  ∀ (vals : Nat → Value) (w : World), Inw I0 J k0 PL k w → (∀ j ∈ ps, R j vals w) → match o.guard with
    | none => Goes P D ps (fun w v w' => Outw I0 I1 k0 PL S k (if o.dst.isSome then v else undef) w w' ∧ resg o R k vals v w') a0 o vals w
    | some (g, want) => (vals g = .bool want → Goes P D ps (fun w v w' => Outw I0 I1 k0 PL S k (if o.dst.isSome then v else undef) w w' ∧ resg o R k vals v w') a0 o vals w) ∧ (vals g ≠ .bool want → Outw I0 I1 k0 PL S k undef w w ∧ R k (upd vals k undef) w)
/-- what is owed for the operations, one after the other -/
def OwesAllw (P : Program) (D : List (Option Tmp)) (L : List (List Nat)) (I0 : World → Prop) (I1 : Value → World → Prop) (J : World → Prop) (k0 : Nat) (PL : List Bool) (S : World → World → Prop) (R : Nat → (Nat → Value) → World → Prop) (a0 : Act) : Nat → Nat → List Oper → Prop
  | _, 0, _ => True
  | _, _ + 1, [] => True
  | k, n + 1, o :: r => Owesw P D (L.getD k []) I0 I1 J k0 PL S R a0 k o ∧ OwesAllw P D L I0 I1 J k0 PL S R a0 (k + 1) n r
theorem owes_of_allw {D : List (Option Tmp)} {L : List (List Nat)} {I0 : World → Prop} {I1 : Value → World → Prop} {J : World → Prop} {k0 : Nat} {PL : List Bool} {S : World → World → Prop} {R : Nat → (Nat → Value) → World → Prop} {a0 : Act} : ∀ (l : List Oper) (m n : Nat), OwesAllw P D L I0 I1 J k0 PL S R a0 m n l → ∀ (k : Nat) (o : Oper), k < n → l[k]? = some o → Owesw P D (L.getD (m + k) []) I0 I1 J k0 PL S R a0 (m + k) o := by
  intro l
  induction l with
  | nil => intro m n _ k o _ h; simp at h
  | cons x r ih =>
    intro m n h k o hk hx
    cases n with
    | zero => omega
    | succ n =>
      obtain ⟨h1, h2⟩ := h
      cases k with
      | zero => simp only [List.getElem?_cons_zero, Option.some.injEq] at hx; subst hx; exact h1
      | succ k =>
        simp only [List.getElem?_cons_succ] at hx
        have := ih (m + 1) n h2 k o (by omega) hx
        rwa [show m + 1 + k = m + (k + 1) by omega] at this
theorem does_of_owesw {D : List (Option Tmp)} {L : List (List Nat)} {I0 : World → Prop} {I1 : Value → World → Prop} {J : World → Prop} {k0 : Nat} {PL : List Bool} {S : World → World → Prop} {R : Nat → (Nat → Value) → World → Prop} {a0 : Act} {k : Nat} {o : Oper}
    (hD : ∀ j, j < ops.size → slot ops j = D.getD j none) (hL : ∀ j ∈ L.getD k [], j < ops.size) (hap : apartB ops = true) (hsz : ∀ j t, slot ops j = some t → t < a0.tmps.size)
    (hg : ∀ g want, o.guard = some (g, want) → g ∈ L.getD k [] ∧ (slot ops g).isSome = true) (h : Owesw P D (L.getD k []) I0 I1 J k0 PL S R a0 k o) : Doesw P ops L I0 I1 J k0 PL S R a0 k o := by
  intro vals w hI hR
  have h := h vals w hI hR
  unfold Goes at h
  rw [← putD_eq hD vals _ _ hL] at h
  generalize he : putOf ops vals (L.getD k []) a0 = a1 at *
  unfold wpList
  cases hgd : o.guard with
  | none =>
    rw [hgd] at h
    rw [if_pos (by simp [Region.wanted, hgd])]
    exact .inl (wpList_unguarded h)
  | some gw =>
    obtain ⟨g, want⟩ := gw
    rw [hgd] at h
    obtain ⟨h1, h2⟩ := h
    obtain ⟨hgl, hgs⟩ := hg g want hgd
    obtain ⟨t, ht⟩ := Option.isSome_iff_exists.1 hgs
    have hv : a1.tmps[t]? = some (vals g) := by rw [← he]; exact putOf_mem hap vals _ _ g t hgl ht (hsz g t ht)
    have hy : yielded ops a1.tmps g = match vals g with | .bool b => some b | _ => none := by
      unfold yielded
      have : (ops[g]?).bind (·.dst) = some t := ht
      rw [this, Option.bind_some, hv]
      cases vals g <;> rfl
    by_cases hb : vals g = .bool want
    · rw [if_pos (by simp [Region.wanted, hgd, hy, hb])]
      exact .inl (wpList_unguarded (h1 hb))
    · rw [if_neg]
      · obtain ⟨hS, hR⟩ := h2 hb
        refine ⟨undef, rfl, ?_, ?_⟩
        · cases o.dst <;> exact hS
        · unfold resg
          cases o.dst <;> exact hR
      · simp only [Region.wanted, hgd, hy]
        cases hx : vals g <;> simp
        rename_i b
        rw [hx] at hb
        intro e
        exact hb (by rw [e])
/-- A REGION THAT DRAWS ITS ORDER: its first n operations come up in any order that the edges allow, the others behind them. Each operation is walked once. I: what holds throughout; S: what a step may change; R k: what the result of operation k is. -/
theorem region_anyw {id : Nat} {l : List Oper} {a0 : Act} {w0 : World} (n : Nat) (D : List (Option Tmp)) (L : List (List Nat)) (I0 : World → Prop) (I1 : Value → World → Prop) (J : World → Prop) (k0 : Nat) (PL : List Bool) (S : World → World → Prop) (R : Nat → (Nat → Value) → World → Prop) (hm : P.follows .mixedOrders = true)
    (hok : regOk l.toArray D L n a0.tmps.size = true) (h0 : I0 w0.drew) (hk0 : k0 < n) (hPL : (List.range n).all (fun k => k == k0 || PL.getD k false || aheadB l.toArray 12 k0 k) = true) (hJ0 : ∀ w, I0 w → J w) (hJ1 : ∀ u w, I1 u w → J w) (hS0 : ∀ w, S w w)
    (hS : ∀ j v w w', S w w' → R j v w → R j v w') (hC : ∀ j v v' w, (∀ i, i = j ∨ i ∈ L.getD j [] → v i = v' i) → R j v w → R j v' w)
    (hop : OwesAllw P D L I0 I1 J k0 PL S R a0 0 n l)
    (hend : ∀ (vals : Nat → Value) (w : World), I1 (vals k0) w → (∀ j : Nat, j < n → R j vals w) → wpList P l.toArray Q (l.drop n) (putD D vals (List.range n) a0) w) :
    (Code.region id l.toArray true).wp P Q a0 w0 := by
  simp only [regOk, Bool.and_eq_true] at hok
  obtain ⟨⟨⟨⟨⟨⟨⟨hnle, htl⟩, hb⟩, hap⟩, hlo⟩, hsz⟩, hD⟩, hgd⟩ := hok
  have hnle' := of_decide_eq_true hnle
  have slot_lt : ∀ {j t : Nat}, slot l.toArray j = some t → j < l.toArray.size := by
    intro j t hj
    unfold slot at hj
    cases hk : l.toArray[j]? with
    | none => rw [hk] at hj; cases hj
    | some o => exact (Array.getElem?_eq_some_iff.1 hk).1
  have hsz' : ∀ j t, slot l.toArray j = some t → t < a0.tmps.size := by
    intro j t hj
    have h1 := List.all_eq_true.1 hsz j (List.mem_range.2 (slot_lt hj))
    simp only [hj] at h1
    exact of_decide_eq_true h1
  have hD' : ∀ j, j < l.toArray.size → slot l.toArray j = D.getD j none := fun j hj => by simpa using List.all_eq_true.1 hD j (List.mem_range.2 hj)
  refine wp_region_any hm ?_
  refine wpAny_heldw hb hap hlo hnle' htl (I0 := I0) (I1 := I1) (J := J) (k0 := k0) (PL := PL) (S := S) (R := R) (a0 := a0) hsz' hS hC hk0 (fun o k ho hk hne => ?_) hJ0 hJ1 hS0 (fun k o hk ho => ?_) (fun vals w hI hR => ?_) _ _ (fun _ => undef) a0 _ ?_ ?_ ?_
  · have h1 := List.all_eq_true.1 hPL k (List.mem_range.2 hk)
    simp only [Bool.or_eq_true, beq_iff_eq] at h1
    rcases h1 with (h1 | h1) | h1
    · exact (hne h1).elim
    · exact .inl h1
    · exact .inr h1
  · have hklt : k < l.toArray.size := (Array.getElem?_eq_some_iff.1 ho).1
    have h1 := owes_of_allw l 0 n hop k o hk (by simpa using ho)
    rw [Nat.zero_add] at h1
    have hlk := List.all_eq_true.1 hlo k (List.mem_range.2 hklt)
    simp only [ho, Bool.and_eq_true] at hlk
    refine does_of_owesw hD' (fun j hj => ?_) hap hsz' (fun g want hg => ?_) h1
    · have h2 : j ∈ ahead o := by simpa using List.all_eq_true.1 hlk.1.2 j hj
      have h3 := List.all_eq_true.1 hb k (List.mem_range.2 hklt)
      simp only [ho] at h3
      have := of_decide_eq_true (List.all_eq_true.1 h3 j h2)
      omega
    · have h2 := List.all_eq_true.1 hgd k (List.mem_range.2 hklt)
      simp only [ho, Option.bind_some, hg, Bool.and_eq_true] at h2
      have hgl : g ∈ L.getD k [] := by simpa using h2.1
      refine ⟨hgl, ?_⟩
      have h4 : g ∈ ahead o := by simpa using List.all_eq_true.1 hlk.1.2 g hgl
      have h3 := List.all_eq_true.1 hb k (List.mem_range.2 hklt)
      simp only [ho] at h3
      have := of_decide_eq_true (List.all_eq_true.1 h3 g h4)
      rw [hD' g (by omega)]; exact h2.2
  · rw [putD_eq hD' vals _ _ (fun j hj => by have := List.mem_range.1 hj; omega)]
    exact hend vals w hI hR
  · simp
  · intro j _ hj
    rw [Array.getElem?_replicate, if_pos hj]
  · refine ⟨⟨fun hf => ?_, fun _ => h0⟩, by simp, rfl, rfl, ?_, fun _ _ => rfl, ?_, ?_⟩
    · rw [Array.getElem?_replicate] at hf
      split at hf <;> simp at hf
    · intro j o _ hj
      rw [Array.getElem?_replicate] at hj
      split at hj <;> simp at hj
    · intro j t hj
      rw [Array.getElem?_replicate] at hj
      split at hj <;> simp at hj
    · intro j hj
      rw [Array.getElem?_replicate] at hj
      split at hj <;> simp at hj
section
variable {I0 : World → Prop} {I1 : Value → World → Prop} {J : World → Prop} {k0 : Nat} {PL : List Bool} {S : World → World → Prop} {k : Nat} {v : Value} {w w' : World}
theorem inw_pure (hk : k ≠ k0) (hp : PL.getD k false = true) (h : Inw I0 J k0 PL k w) : J w := by unfold Inw at h; rwa [if_neg hk, if_pos hp] at h
theorem inw_pre (hk : k ≠ k0) (hp : PL.getD k false = false) (h : Inw I0 J k0 PL k w) : I0 w := by unfold Inw at h; rwa [if_neg hk, if_neg (by rw [hp]; simp)] at h
theorem inw_k0 (hk : k = k0) (h : Inw I0 J k0 PL k w) : I0 w := by unfold Inw at h; rwa [if_pos hk] at h
theorem outw_pure (hk : k ≠ k0) (hp : PL.getD k false = true) : Outw I0 I1 k0 PL S k v w w := by unfold Outw; rw [if_neg hk, if_pos hp]
theorem outw_pre (hk : k ≠ k0) (hp : PL.getD k false = false) (h : I0 w') (h2 : S w w') : Outw I0 I1 k0 PL S k v w w' := by unfold Outw; rw [if_neg hk, if_neg (by rw [hp]; simp)]; exact ⟨h, h2⟩
theorem outw_k0 (hk : k = k0) (h : I1 v w') (h2 : S w w') : Outw I0 I1 k0 PL S k v w w' := by unfold Outw; rw [if_pos hk]; exact ⟨h, h2⟩
end
/-- A REGION THAT DRAWS ITS ORDER, in which operation k0 alone writes what others may see. I0: what holds ahead of it; I1: behind it, of its result; J: throughout. -/
theorem region_w {id : Nat} {l : List Oper} {a0 : Act} {w0 : World} (n N : Nat) (D : List (Option Tmp)) (L : List (List Nat)) (LV : List (Nat × Value)) (k0 : Nat) (PL : List Bool) (I0 : World → Prop) (I1 : Value → World → Prop) (J : World → Prop) (S : World → World → Prop) (RL : List ((Nat → Value) → World → Prop)) (hm : P.follows .mixedOrders = true)
    (hok : regOk l.toArray D L n N = true) (hN : a0.tmps.size = N) (hLV : Lives a0 LV) (h0 : I0 w0.drew) (hk0 : k0 < n)
    (hPL : (List.range n).all (fun k => k == k0 || PL.getD k false || aheadB l.toArray 12 k0 k) = true) (hJ0 : ∀ w, I0 w → J w) (hJ1 : ∀ u w, I1 u w → J w) (hS0 : ∀ w, S w w) (hS : Stabg S RL)
    (hop : ∀ b0 : Act, b0.tmps.size = N → Lives b0 LV → OwesAllw P D L I0 I1 J k0 PL S (atg L RL) b0 0 n l)
    (hend : ∀ (vals : Nat → Value) (w : World), I1 (vals k0) w → (∀ j : Nat, j < n → atg L RL j vals w) → wpList P l.toArray Q (l.drop n) (putD D vals (List.range n) a0) w) :
    (Code.region id l.toArray true).wp P Q a0 w0 := by
  refine region_anyw n D L I0 I1 J k0 PL S (atg L RL) hm (hN ▸ hok) h0 hk0 hPL hJ0 hJ1 hS0 (fun j v w w' hs h => hS.get j _ w w' hs h) (fun j v v' w hv h => ?_) (hop a0 hN hLV) hend
  unfold atg at *
  have e : rs L j v = rs L j v' := by
    funext i
    unfold rs
    split
    · rename_i hi
      exact hv i (by simpa using hi)
    · rfl
  rw [← e]; exact h
end Go.Proofs.YthffegfcgmhppaaDoor.Roll
namespace Go.Proofs.YthffegfcgmhppaaDoor
open Go.RowKit
set_option linter.unusedSimpArgs false
set_option linter.unusedVariables false
def Dw31 : List (Option Tmp) := [some 23, some 24, some 25, some 26, some 27, some 28, some 29, some 30, some 31, some 32, some 33, some 34, some 35, some 36, none]
def Lw31 : List (List Nat) := [[], [0], [1], [2], [], [], [5], [6], [7], [], [8, 9], [], [11], [10, 12], [3, 4, 13]]
theorem Dk.look {w : World} {g gd gm : Nat} {row : Nat → Option Nat} {N : Nat} {d : DM} (h : Dk w g gd gm row N d) (k : Nat) (hk : k < d.S.length) :
    ∃ v0, Own w 76 64 (row k) v0 d.S[k].tail.length (scells d.S[k].tail) ∧ ∀ (S : Nat → Prop) p, ¬ S gm → Kept S w p → (Instr.lookup 56 (.map (some gm)) (.int .i64 (k : Int)) false).run Tryd.prog p = .ok v0 p := by
  obtain ⟨M, f, hm, hf, hr⟩ := h.map
  have hn4 := h.ok.2.1
  have wfk : (Lit.int .i64 (k : Int)).wf = true := WalkArith.wf_i64 (by omega)
  have hlk : ∀ (S : Nat → Prop) p, ¬ S gm → Kept S w p → _ := fun S p hS hK => (hm.kept hK hS).look (P := Tryd.prog) (t := 56) (kt := 3) (et := 55) (z := .slice none 0 0) Tryd.underlying56 Tryd.underlying3 (by kernel_rfl) (k : Int) wfk false
  rcases hr k hk with ⟨h0, hfk, hrow⟩ | ⟨h0, gk, v, hrow, hfk, ho⟩
  · refine ⟨.slice none 0 0, by rw [h0, hrow]; exact Own.nil _ _ _, fun S p hS hK => ?_⟩
    have := hlk S p hS hK
    rw [hfk] at this
    exact this
  · refine ⟨v, by rw [hrow]; exact ho, fun S p hS hK => ?_⟩
    have := hlk S p hS hK
    rw [hfk] at this
    exact this
section
variable {w : World} {g gd gm : Nat} {row : Nat → Option Nat} {N : Nat} {d : DM}
theorem write_arg (p a : Option Addr) (k : Int) (n c : Nat) (w : World) (hn : n ≠ 64) (hn2 : n ≤ 9223372036854775807) :
    Calls Tryd.prog 49 #[.pointer p, .int .i64 k, .slice a n c] w fun e w' => e = .returned (.int .i64 1) ∧ w = w' := by
  have hne : ((n : Int) != 64) = true := by rw [bne_iff_ne]; omega
  go_enter Tryd.func49, Tryd.ntmps49
  go_wp2
  go_ret
  exact ⟨rfl, rfl⟩
theorem write_no (h : Dk w g gd gm row N d) (a : Option Addr) (c : Nat) (k : Int) (hk : hasB d k = false) :
    Calls Tryd.prog 49 #[.pointer (some ⟨g, 0, none⟩), .int .i64 k, .slice a 64 c] w fun e w' => e = .returned (.int .i64 5) ∧ w = w' := by
  have hC := has_dk h k
  rw [hk] at hC
  have HC := Lib.hid hC
  clear h hC hk
  go_enter Tryd.func49, Tryd.ntmps49
  go_wp2_with (go_at_call 61; refine HC.out.mono ?_; rintro e w1 ⟨rfl, rfl⟩)
  go_ret
  exact ⟨rfl, rfl⟩
theorem write_off (h : Dk w g gd gm row N d) (a : Option Addr) (c : Nat) (k : Int) (hk : hasB d k = true) (ho : d.on = false) :
    Calls Tryd.prog 49 #[.pointer (some ⟨g, 0, none⟩), .int .i64 k, .slice a 64 c] w fun e w' => e = .returned (.int .i64 10) ∧ w = w' := by
  have hC := has_dk h k
  rw [hk] at hC
  have HC := Lib.hid hC
  obtain ⟨cap, h1, h2, c0, c1, c2, c3, f0⟩ := h.facts
  rw [ho] at c2
  clear h hC hk ho
  go_enter Tryd.func49, Tryd.ntmps49
  go_wp2_with (go_at_call 61; refine HC.out.mono ?_; rintro e w1 ⟨rfl, rfl⟩)
  go_ret
  exact ⟨rfl, rfl⟩
set_option maxRecDepth 100000 in
set_option maxHeartbeats 2000000 in
theorem write_ok (h : Dk w g gd gm row N d) {Z : Nat → Prop} {a : Option Addr} {c : Nat} {l : List UInt8} (hB : Bs Z w a 64 c l) (k : Nat) (hk : k < d.S.length) (ho : d.on = true) (hN : N ≤ 100000) :
    Calls Tryd.prog 49 #[.pointer (some ⟨g, 0, none⟩), .int .i64 (k : Int), .slice a 64 c] w fun e w' => e = .returned (.int .i64 0) ∧
      ∃ row', Dk w' g gd gm row' (N + 1) (d.write k l) ∧ Kept (Blk g gd gm row) w w' ∧ ∀ j, Blk g gd gm row' j → Blk g gd gm row j ∨ w.heap.size ≤ j := by
  have hC := has_dk h (k : Int)
  rw [show hasB d (k : Int) = true by unfold hasB; rw [decide_eq_true]; omega] at hC
  have HC := Lib.hid hC
  obtain ⟨cap, h1, h2, c0, c1, c2, c3, f0⟩ := h.facts
  rw [ho] at c2
  obtain ⟨i0, hi0, hz0, hz1, hz2⟩ := info_parts info94
  obtain ⟨n1, n2, n3, n4⟩ := h.g_ne
  have hlt := h.lt
  obtain ⟨v0, hO, hLK⟩ := h.look k hk
  obtain ⟨hl, _, hc64, hcm, _, hsl⟩ := hB
  obtain ⟨b, off, hZ, rfl, hra⟩ := hsl (by omega)
  have hbl := range_lt hra (by rw [vals_len]; omega)
  obtain ⟨hne, hsN, hs64⟩ := h.ok.2.2.2 _ (List.getElem_mem hk)
  have Hm : Hid (d.S[k].tail.length ≤ 100000) := Lib.hid (by rw [List.length_tail]; omega)
  obtain ⟨xs, hxs⟩ : ∃ xs, xs = d.S[k].tail := ⟨_, rfl⟩
  rw [← hxs] at hO Hm
  obtain ⟨m, hm⟩ : ∃ m, m = xs.length := ⟨_, rfl⟩
  rw [← hm] at hO Hm
  have Hxs := Lib.hid hxs
  have Hmm := Lib.hid hm
  have Hl := Lib.hid hl
  have H := Lib.hid h
  obtain ⟨w1, hw1⟩ : ∃ w1, w1 = (w.alloc (.cells Z64 76)).setRow w.heap.size (vals l).toArray := ⟨_, rfl⟩
  have hb1 : Below w.heap.size w w1 := by rw [hw1]; exact below_setRow ((Below.refl _ _).alloc (Nat.le_refl _) _) (Nat.le_refl _) _
  have hn1 : w1.heap[w.heap.size]? = some (.cells (vals l).toArray 76 (0, 0)) := by rw [hw1]; exact setRow_heap _ _ _ _ _ _ (heap_new rfl)
  have hng : ¬ row k = some g := fun e => (n4 k g e).1 rfl
  have hngm : ¬ row k = some gm := fun e => (n4 k gm e).2 rfl
  have hrk : ∀ j, row k = some j → j < w.heap.size := fun j hj => hlt j (.inr (.inr (.inr ⟨k, hj⟩)))
  have Hb1 := Lib.hid hb1
  have Hn1 := Lib.hid hn1
  have Hw1 := Lib.hid hw1
  have HK0 : Hid (Kept (fun _ => False) w w1) := Lib.hid (Kept.of_below _ hb1)
  have HK1 : Hid (Kept (fun j => row k = some j) w w1) := Lib.hid (Kept.of_below _ hb1)
  have Hs1 : Hid (w.heap.size ≤ w1.heap.size) := Lib.hid hb1.size
  have C1 : Hid (w1.cell? ⟨g, 1, none⟩ = some (.map (some gm))) := Lib.hid ((hb1.cell (p := ⟨g, 1, none⟩) (hlt g (.inl rfl))).trans c1)
  have Hg1 : Hid (g < w1.heap.size) := Lib.hid (Nat.lt_of_lt_of_le (hlt g (.inl rfl)) hb1.size)
  have Hng := Lib.hid hng
  have Hns : Hid (¬ row k = some w.heap.size) := Lib.hid (fun e => by have := hrk _ e; omega)
  have Hrk : Hid (∀ j, row k = some j → j < w1.heap.size) := Lib.hid (fun j hj => Nat.lt_of_lt_of_le (hrk j hj) hb1.size)
  have HLK := Lib.hid (fun p hp => hLK (fun j => row k = some j) p hngm hp)
  have HO := Lib.hid hO
  have HS : Hid ((Z64.toList.take 0 ++ (vals l ++ Z64.toList.drop (0 + (vals l).length))).toArray = (vals l).toArray) := Lib.hid (by rw [vals_len, hl]; simp [Z64])
  have Hhk : Hid (∀ j v, (vals l)[j]? = some v → (w.alloc (.cells Z64 76)).cell? ((⟨b, off, none⟩ : Addr).add j) = some v) := Lib.hid (fun j v hv => by
    rw [Addr.add_mid]
    exact (((Below.refl w.heap.size w).alloc (Nat.le_refl _) _).cell (p := ⟨b, off + j, none⟩) hbl).trans (hra j v hv))
  clear h hC ho hlt hO hLK hl hcm hsl hra hbl hne hsN hs64 hxs hm hw1 hb1 hn1 hng hngm hrk n1 n2 n3 n4 hZ
  go_enter Tryd.func49, Tryd.ntmps49
  go_upto_region 9 with (first
    | (go_at_call 61; refine HC.out.mono ?_; rintro e w1 ⟨rfl, rfl⟩)
    | (refine wpList_alloc_z rfl 76 rfl Z64 76 run_alloc94 ?_)
    | (refine wpList_copy_own rfl (.tmp 20) (.tmp 21) 34 34 rfl 5 Tryd.underlying34 (by kernel_rfl) w.heap.size 0 64 64 ⟨b, off, none⟩ 64 c rfl rfl Z64 76 (heap_new rfl) (vals l) (by rw [vals_len, Hl.out]; rfl) Hhk.out (by rw [vals_len, Hl.out, cells64]; exact Nat.le_refl _) (vals_one l) ?_; rw [HS.out]))
  rw [← Hw1.out]
  refine Roll.region_w 14 39 Dw31 Lw31 [(0, .pointer (some ⟨g, 0, none⟩)), (1, .int .i64 (k : Int)), (7, .pointer (some ⟨w.heap.size, 0, none⟩))] 13 [true, true, true, true, true, true, true, true, true, true, true, true, false, false] (fun p => Kept (fun _ => False) w1 p) (fun vv p => Kept (fun j => row k = some j) w1 p ∧ ∃ k2, Own p 76 64 (some k2) vv (m + 1) (scells xs ++ vals l) ∧ (row k = some k2 ∨ w.heap.size ≤ k2)) (fun p => Kept (fun j => row k = some j) w1 p) (fun p p2 => Kept (fun j => row k = some j) p p2) [fun vv p => (vv 0) = .pointer (some ⟨g, 0, none⟩), fun vv p => (vv 1) = .pointer (some ⟨g, 0, none⟩), fun vv p => (vv 2) = .pointer (some ⟨g, 1, none⟩), fun vv p => (vv 3) = .map (some gm), fun vv p => (vv 4) = .int .i64 (k : Int), fun vv p => (vv 5) = .pointer (some ⟨g, 0, none⟩), fun vv p => (vv 6) = .pointer (some ⟨g, 0, none⟩), fun vv p => (vv 7) = .pointer (some ⟨g, 1, none⟩), fun vv p => (vv 8) = .map (some gm), fun vv p => (vv 9) = .int .i64 (k : Int), fun vv p => (vv 10) = v0, fun vv p => (vv 11) = .agg (vals l).toArray, fun vv p => ∃ gb, (vv 12) = .slice (some ⟨gb, 0, none⟩) 1 1 ∧ p.heap[gb]? = some (.cells (vals l).toArray 76 (0, 0)) ∧ w1.heap.size ≤ gb, fun vv p => True] (by kernel_rfl) (by kernel_rfl) rfl ⟨rfl, rfl, rfl, trivial⟩ ((Kept.refl _ _).drew) (by decide) (by kernel_rfl) (fun _ h => h.mono (fun _ _ h => h.elim)) (fun _ _ h => h.1) (fun _ => Kept.refl _ _) ?_ ?_ ?_
  · exact ⟨fun _ _ _ _ h => h, fun _ _ _ _ h => h, fun _ _ _ _ h => h, fun _ _ _ _ h => h, fun _ _ _ _ h => h, fun _ _ _ _ h => h, fun _ _ _ _ h => h, fun _ _ _ _ h => h, fun _ _ _ _ h => h, fun _ _ _ _ h => h, fun _ _ _ _ h => h, fun _ _ _ _ h => h, fun _ _ _ hs h => by obtain ⟨gb, e, hg, hb⟩ := h; exact ⟨gb, e, hs.heap hg (fun e2 => by have := Hrk.out gb e2; omega), hb⟩, fun _ _ _ _ h => h, trivial⟩
  · intro b0 hN hlv
    refine ⟨?_, ?_, ?_, ?_, ?_, ?_, ?_, ?_, ?_, ?_, ?_, ?_, ?_, ?_, trivial⟩
    · intro vs p hI0 hp
      have hI := Roll.inw_pure (by decide) rfl hI0
      clear hI0
      have e0 : (Roll.putD Dw31 vs [] b0).eval (.tmp 0) = .pointer (some ⟨g, 0, none⟩) := (Roll.eval_old rfl).trans (hlv.at 0 (0, .pointer (some ⟨g, 0, none⟩)) rfl)
      clear hp hlv hN
      unfold Roll.Goes
      simp only [Lw31, List.getD_cons_zero, List.getD_cons_succ]
      generalize Roll.putD Dw31 vs [] b0 = a1 at *
      refine Roll.goes_val (w' := p) (.pointer (some ⟨g, 0, none⟩)) rfl ?_ ⟨(Roll.outw_pure (by decide) rfl), rfl⟩
      (have ec : ∀ x, a1.eval (.const x) = x := fun _ => rfl); (have ef : ∀ x, a1.eval (.func x) = .func (.func x) #[] #[] := fun _ => rfl); generalize a1.eval = ρ at *
      skip
      go_simp <;> (intros; first | (exfalso; omega) | rfl)
    · intro vs p hI0 hp
      have hI := Roll.inw_pure (by decide) rfl hI0
      clear hI0
      have h0 : (vs 0) = .pointer (some ⟨g, 0, none⟩) := hp 0 (by simp [Lw31])
      have e23 : (Roll.putD Dw31 vs [0] b0).eval (.tmp 23) = .pointer (some ⟨g, 0, none⟩) := (Roll.eval_new 0 rfl (by decide) (by decide) (by omega)).trans h0
      clear hp hlv hN
      unfold Roll.Goes
      simp only [Lw31, List.getD_cons_zero, List.getD_cons_succ]
      generalize Roll.putD Dw31 vs [0] b0 = a1 at *
      refine Roll.goes_val (w' := p) (.pointer (some ⟨g, 0, none⟩)) rfl ?_ ⟨(Roll.outw_pure (by decide) rfl), rfl⟩
      (have ec : ∀ x, a1.eval (.const x) = x := fun _ => rfl); (have ef : ∀ x, a1.eval (.func x) = .func (.func x) #[] #[] := fun _ => rfl); generalize a1.eval = ρ at *
      clear h0
      go_simp <;> (intros; first | (exfalso; omega) | rfl)
    · intro vs p hI0 hp
      have hI := Roll.inw_pure (by decide) rfl hI0
      clear hI0
      have h1 : (vs 1) = .pointer (some ⟨g, 0, none⟩) := hp 1 (by simp [Lw31])
      have e24 : (Roll.putD Dw31 vs [1] b0).eval (.tmp 24) = .pointer (some ⟨g, 0, none⟩) := (Roll.eval_new 1 rfl (by decide) (by decide) (by omega)).trans h1
      clear hp hlv hN
      unfold Roll.Goes
      simp only [Lw31, List.getD_cons_zero, List.getD_cons_succ]
      generalize Roll.putD Dw31 vs [1] b0 = a1 at *
      refine Roll.goes_val (w' := p) (.pointer (some ⟨g, 1, none⟩)) rfl ?_ ⟨(Roll.outw_pure (by decide) rfl), rfl⟩
      (have ec : ∀ x, a1.eval (.const x) = x := fun _ => rfl); (have ef : ∀ x, a1.eval (.func x) = .func (.func x) #[] #[] := fun _ => rfl); generalize a1.eval = ρ at *
      clear h1
      go_simp <;> (intros; first | (exfalso; omega) | rfl)
    · intro vs p hI0 hp
      have hI := Roll.inw_pure (by decide) rfl hI0
      clear hI0
      have h2 : (vs 2) = .pointer (some ⟨g, 1, none⟩) := hp 2 (by simp [Lw31])
      have e25 : (Roll.putD Dw31 vs [2] b0).eval (.tmp 25) = .pointer (some ⟨g, 1, none⟩) := (Roll.eval_new 2 rfl (by decide) (by decide) (by omega)).trans h2
      clear hp hlv hN
      unfold Roll.Goes
      simp only [Lw31, List.getD_cons_zero, List.getD_cons_succ]
      generalize Roll.putD Dw31 vs [2] b0 = a1 at *
      have hI2 := hI
      have c1p : p.cell? ⟨g, 1, none⟩ = some (.map (some gm)) := (hI.cell Hg1.out Hng.out).trans C1.out
      clear hI2
      refine Roll.goes_val (w' := p) (.map (some gm)) rfl ?_ ⟨(Roll.outw_pure (by decide) rfl), rfl⟩
      (have ec : ∀ x, a1.eval (.const x) = x := fun _ => rfl); (have ef : ∀ x, a1.eval (.func x) = .func (.func x) #[] #[] := fun _ => rfl); generalize a1.eval = ρ at *
      clear h2
      go_simp <;> (intros; first | (exfalso; omega) | rfl)
    · intro vs p hI0 hp
      have hI := Roll.inw_pure (by decide) rfl hI0
      clear hI0
      have e1 : (Roll.putD Dw31 vs [] b0).eval (.tmp 1) = .int .i64 (k : Int) := (Roll.eval_old rfl).trans (hlv.at 1 (1, .int .i64 (k : Int)) rfl)
      clear hp hlv hN
      unfold Roll.Goes
      simp only [Lw31, List.getD_cons_zero, List.getD_cons_succ]
      generalize Roll.putD Dw31 vs [] b0 = a1 at *
      refine Roll.goes_val (w' := p) (.int .i64 (k : Int)) rfl ?_ ⟨(Roll.outw_pure (by decide) rfl), rfl⟩
      (have ec : ∀ x, a1.eval (.const x) = x := fun _ => rfl); (have ef : ∀ x, a1.eval (.func x) = .func (.func x) #[] #[] := fun _ => rfl); generalize a1.eval = ρ at *
      skip
      go_simp <;> (intros; first | (exfalso; omega) | rfl)
    · intro vs p hI0 hp
      have hI := Roll.inw_pure (by decide) rfl hI0
      clear hI0
      have e0 : (Roll.putD Dw31 vs [] b0).eval (.tmp 0) = .pointer (some ⟨g, 0, none⟩) := (Roll.eval_old rfl).trans (hlv.at 0 (0, .pointer (some ⟨g, 0, none⟩)) rfl)
      clear hp hlv hN
      unfold Roll.Goes
      simp only [Lw31, List.getD_cons_zero, List.getD_cons_succ]
      generalize Roll.putD Dw31 vs [] b0 = a1 at *
      refine Roll.goes_val (w' := p) (.pointer (some ⟨g, 0, none⟩)) rfl ?_ ⟨(Roll.outw_pure (by decide) rfl), rfl⟩
      (have ec : ∀ x, a1.eval (.const x) = x := fun _ => rfl); (have ef : ∀ x, a1.eval (.func x) = .func (.func x) #[] #[] := fun _ => rfl); generalize a1.eval = ρ at *
      skip
      go_simp <;> (intros; first | (exfalso; omega) | rfl)
    · intro vs p hI0 hp
      have hI := Roll.inw_pure (by decide) rfl hI0
      clear hI0
      have h5 : (vs 5) = .pointer (some ⟨g, 0, none⟩) := hp 5 (by simp [Lw31])
      have e28 : (Roll.putD Dw31 vs [5] b0).eval (.tmp 28) = .pointer (some ⟨g, 0, none⟩) := (Roll.eval_new 5 rfl (by decide) (by decide) (by omega)).trans h5
      clear hp hlv hN
      unfold Roll.Goes
      simp only [Lw31, List.getD_cons_zero, List.getD_cons_succ]
      generalize Roll.putD Dw31 vs [5] b0 = a1 at *
      refine Roll.goes_val (w' := p) (.pointer (some ⟨g, 0, none⟩)) rfl ?_ ⟨(Roll.outw_pure (by decide) rfl), rfl⟩
      (have ec : ∀ x, a1.eval (.const x) = x := fun _ => rfl); (have ef : ∀ x, a1.eval (.func x) = .func (.func x) #[] #[] := fun _ => rfl); generalize a1.eval = ρ at *
      clear h5
      go_simp <;> (intros; first | (exfalso; omega) | rfl)
    · intro vs p hI0 hp
      have hI := Roll.inw_pure (by decide) rfl hI0
      clear hI0
      have h6 : (vs 6) = .pointer (some ⟨g, 0, none⟩) := hp 6 (by simp [Lw31])
      have e29 : (Roll.putD Dw31 vs [6] b0).eval (.tmp 29) = .pointer (some ⟨g, 0, none⟩) := (Roll.eval_new 6 rfl (by decide) (by decide) (by omega)).trans h6
      clear hp hlv hN
      unfold Roll.Goes
      simp only [Lw31, List.getD_cons_zero, List.getD_cons_succ]
      generalize Roll.putD Dw31 vs [6] b0 = a1 at *
      refine Roll.goes_val (w' := p) (.pointer (some ⟨g, 1, none⟩)) rfl ?_ ⟨(Roll.outw_pure (by decide) rfl), rfl⟩
      (have ec : ∀ x, a1.eval (.const x) = x := fun _ => rfl); (have ef : ∀ x, a1.eval (.func x) = .func (.func x) #[] #[] := fun _ => rfl); generalize a1.eval = ρ at *
      clear h6
      go_simp <;> (intros; first | (exfalso; omega) | rfl)
    · intro vs p hI0 hp
      have hI := Roll.inw_pure (by decide) rfl hI0
      clear hI0
      have h7 : (vs 7) = .pointer (some ⟨g, 1, none⟩) := hp 7 (by simp [Lw31])
      have e30 : (Roll.putD Dw31 vs [7] b0).eval (.tmp 30) = .pointer (some ⟨g, 1, none⟩) := (Roll.eval_new 7 rfl (by decide) (by decide) (by omega)).trans h7
      clear hp hlv hN
      unfold Roll.Goes
      simp only [Lw31, List.getD_cons_zero, List.getD_cons_succ]
      generalize Roll.putD Dw31 vs [7] b0 = a1 at *
      have hI2 := hI
      have c1p : p.cell? ⟨g, 1, none⟩ = some (.map (some gm)) := (hI.cell Hg1.out Hng.out).trans C1.out
      clear hI2
      refine Roll.goes_val (w' := p) (.map (some gm)) rfl ?_ ⟨(Roll.outw_pure (by decide) rfl), rfl⟩
      (have ec : ∀ x, a1.eval (.const x) = x := fun _ => rfl); (have ef : ∀ x, a1.eval (.func x) = .func (.func x) #[] #[] := fun _ => rfl); generalize a1.eval = ρ at *
      clear h7
      go_simp <;> (intros; first | (exfalso; omega) | rfl)
    · intro vs p hI0 hp
      have hI := Roll.inw_pure (by decide) rfl hI0
      clear hI0
      have e1 : (Roll.putD Dw31 vs [] b0).eval (.tmp 1) = .int .i64 (k : Int) := (Roll.eval_old rfl).trans (hlv.at 1 (1, .int .i64 (k : Int)) rfl)
      clear hp hlv hN
      unfold Roll.Goes
      simp only [Lw31, List.getD_cons_zero, List.getD_cons_succ]
      generalize Roll.putD Dw31 vs [] b0 = a1 at *
      refine Roll.goes_val (w' := p) (.int .i64 (k : Int)) rfl ?_ ⟨(Roll.outw_pure (by decide) rfl), rfl⟩
      (have ec : ∀ x, a1.eval (.const x) = x := fun _ => rfl); (have ef : ∀ x, a1.eval (.func x) = .func (.func x) #[] #[] := fun _ => rfl); generalize a1.eval = ρ at *
      skip
      go_simp <;> (intros; first | (exfalso; omega) | rfl)
    · intro vs p hI0 hp
      have hI := Roll.inw_pure (by decide) rfl hI0
      clear hI0
      have h8 : (vs 8) = .map (some gm) := hp 8 (by simp [Lw31])
      have h9 : (vs 9) = .int .i64 (k : Int) := hp 9 (by simp [Lw31])
      have e31 : (Roll.putD Dw31 vs [8, 9] b0).eval (.tmp 31) = .map (some gm) := (Roll.eval_new 8 rfl (by decide) (by decide) (by omega)).trans h8
      have e32 : (Roll.putD Dw31 vs [8, 9] b0).eval (.tmp 32) = .int .i64 (k : Int) := (Roll.eval_new 9 rfl (by decide) (by decide) (by omega)).trans h9
      clear hp hlv hN
      unfold Roll.Goes
      simp only [Lw31, List.getD_cons_zero, List.getD_cons_succ]
      generalize Roll.putD Dw31 vs [8, 9] b0 = a1 at *
      have hlk := HLK.out p (HK1.out.trans hI (fun _ _ h => h))
      refine Roll.goes_val (w' := p) (v0) rfl ?_ ⟨(Roll.outw_pure (by decide) rfl), rfl⟩
      (have ec : ∀ x, a1.eval (.const x) = x := fun _ => rfl); (have ef : ∀ x, a1.eval (.func x) = .func (.func x) #[] #[] := fun _ => rfl); generalize a1.eval = ρ at *
      clear h8 h9
      go_simp <;> (intros; first | (exfalso; omega) | rfl)
    · intro vs p hI0 hp
      have hI := Roll.inw_pure (by decide) rfl hI0
      clear hI0
      have e7 : (Roll.putD Dw31 vs [] b0).eval (.tmp 7) = .pointer (some ⟨w.heap.size, 0, none⟩) := (Roll.eval_old rfl).trans (hlv.at 2 (7, .pointer (some ⟨w.heap.size, 0, none⟩)) rfl)
      clear hp hlv hN
      unfold Roll.Goes
      simp only [Lw31, List.getD_cons_zero, List.getD_cons_succ]
      generalize Roll.putD Dw31 vs [] b0 = a1 at *
      exact Roll.goes_load_row rfl 76 (.tmp 7) rfl w.heap.size e7 76 (vals l).toArray (0, 0) _ (hI.heap Hn1.out Hns.out) Tryd.underlying76 rfl (size64a Hl.out) ⟨(Roll.outw_pure (by decide) rfl), rfl⟩
    · intro vs p hI0 hp
      have hI := Roll.inw_pre (by decide) rfl hI0
      clear hI0
      have h11 : (vs 11) = .agg (vals l).toArray := hp 11 (by simp [Lw31])
      have e34 : (Roll.putD Dw31 vs [11] b0).eval (.tmp 34) = .agg (vals l).toArray := (Roll.eval_new 11 rfl (by decide) (by decide) (by omega)).trans h11
      clear hp hlv hN
      unfold Roll.Goes
      simp only [Lw31, List.getD_cons_zero, List.getD_cons_succ]
      generalize Roll.putD Dw31 vs [11] b0 = a1 at *
      have hr := run_build94 (vals l).toArray (by rw [List.size_toArray, vals_len, Hl.out]) p
      refine Roll.goes_val (w' := p.alloc (.cells (vals l).toArray 76)) (.slice (some ⟨p.heap.size, 0, none⟩) 1 1) rfl ?_ ⟨Roll.outw_pre (by decide) rfl (hI.alloc _) ((Kept.refl _ _).alloc _), ⟨p.heap.size, rfl, heap_alloc_new p _, hI.size⟩⟩
      unfold execOp
      simp only [List.map_toArray, List.map_cons, List.map_nil, e34, hr, Sem.run_bind, Result.andThen_ok, Sem.run_pure]
    · intro vs p hI0 hp
      have hI := Roll.inw_k0 rfl hI0
      clear hI0
      have h10 : (vs 10) = v0 := hp 10 (by simp [Lw31])
      have h12 : ∃ gb, (vs 12) = .slice (some ⟨gb, 0, none⟩) 1 1 ∧ p.heap[gb]? = some (.cells (vals l).toArray 76 (0, 0)) ∧ w1.heap.size ≤ gb := hp 12 (by simp [Lw31])
      have e33 : (Roll.putD Dw31 vs [10, 12] b0).eval (.tmp 33) = v0 := (Roll.eval_new 10 rfl (by decide) (by decide) (by omega)).trans h10
      have e35 : (Roll.putD Dw31 vs [10, 12] b0).eval (.tmp 35) = vs 12 := (Roll.eval_new 12 rfl (by decide) (by decide) (by omega))
      clear hp hlv hN
      unfold Roll.Goes
      simp only [Lw31, List.getD_cons_zero, List.getD_cons_succ]
      generalize Roll.putD Dw31 vs [10, 12] b0 = a1 at *
      obtain ⟨gb, hgb, hgc, hgl⟩ := h12
      rw [hgb] at e35
      have hsl : Src Tryd.prog 64 55 (.slice (some ⟨gb, 0, none⟩) 1 1) 1 (vals l) p := Src.ofSlice p Tryd.underlying55 ⟨gb, 0, none⟩ 1 1 (vals l) (by rw [vals_len, Hl.out]) (fun j u hu => by rw [Addr.add_mid, Nat.zero_add, cell_of_row p gb j _ _ _ hgc]; simpa using hu) (vals_one l)
      obtain ⟨k', v', p', hr, ho', hf', hK', hne'⟩ := run_append_any (P := Tryd.prog) p 55 55 55 76 i0 (.agg Z64) 64 64 Tryd.underlying55 hi0 hz0 hz1 hz2 cells64 (row k) v0 m (scells xs) (HO.out.kept (HK0.out.trans hI (fun _ _ h => h)) (fun _ _ h => h)) (.slice (some ⟨gb, 0, none⟩) 1 1) 1 (vals l) hsl (by have := Hm.out; unfold maxLen; omega) (by have := Hm.out; omega)
      obtain ⟨k2, rfl⟩ := Option.ne_none_iff_exists'.1 (hne' (by omega))
      refine Roll.goes_val (w' := p') v' rfl ?_ ⟨Roll.outw_k0 rfl ⟨(hI.mono (fun _ _ h => h.elim)).trans hK' (fun _ _ h => h), k2, ho', (hf' k2 rfl).imp id (fun e => Nat.le_trans Hs1.out (Nat.le_trans hI.size e))⟩ hK', trivial⟩
      unfold execOp
      simp only [resolve, invoke, builtin, Sem.run_bind, Sem.run_pure, Result.andThen_ok, List.map_toArray, List.map_cons, List.map_nil, e33, e35, hr]
  · intro vs p hI hR
    have h0 : (vs 0) = .pointer (some ⟨g, 0, none⟩) := hR 0 (by omega)
    have h1 : (vs 1) = .pointer (some ⟨g, 0, none⟩) := hR 1 (by omega)
    have h2 : (vs 2) = .pointer (some ⟨g, 1, none⟩) := hR 2 (by omega)
    have h3 : (vs 3) = .map (some gm) := hR 3 (by omega)
    have h4 : (vs 4) = .int .i64 (k : Int) := hR 4 (by omega)
    have h5 : (vs 5) = .pointer (some ⟨g, 0, none⟩) := hR 5 (by omega)
    have h6 : (vs 6) = .pointer (some ⟨g, 0, none⟩) := hR 6 (by omega)
    have h7 : (vs 7) = .pointer (some ⟨g, 1, none⟩) := hR 7 (by omega)
    have h8 : (vs 8) = .map (some gm) := hR 8 (by omega)
    have h9 : (vs 9) = .int .i64 (k : Int) := hR 9 (by omega)
    have h10 : (vs 10) = v0 := hR 10 (by omega)
    have h11 : (vs 11) = .agg (vals l).toArray := hR 11 (by omega)
    have h12 : ∃ gb, (vs 12) = .slice (some ⟨gb, 0, none⟩) 1 1 ∧ p.heap[gb]? = some (.cells (vals l).toArray 76 (0, 0)) ∧ w1.heap.size ≤ gb := hR 12 (by omega)
    have h13 : True := hR 13 (by omega)
    clear hR
    simp only [List.range_succ, List.range_zero, List.nil_append, List.cons_append, Roll.putD, Act.put, List.getD_cons_zero, List.getD_cons_succ, List.setIfInBounds_toArray, List.set_cons_zero, List.set_cons_succ, List.drop_succ_cons, List.drop_zero, Dw31]
    simp only [h0, h1, h2, h3, h4, h5, h6, h7, h8, h9, h10, h11]
    clear h0 h1 h2 h3 h4 h5 h6 h7 h8 h9 h10 h11
    obtain ⟨hJ, k2, hO, hF⟩ := hI
    have hKp : Kept (fun j => row k = some j) w p := HK1.out.trans hJ (fun _ _ h => h)
    have hO2 : Own p 76 64 (some k2) (vs 13) (d.S[k].tail.length + 1) (scells (d.S[k].tail ++ [l])) := by
      rw [scells_app, show scells [l] = vals l by simp [scells], ← Hxs.out, ← Hmm.out]; exact hO
    obtain ⟨p2, hrun, hd2, hk2, hs2⟩ := H.out.wrote hk Hl.out hKp hO2 hF
    have HBu := Lib.hid (burn_dk hd2)
    generalize vs 13 = v13 at *
    have Hk2 := Lib.hid hk2
    have HF := Lib.hid hF
    clear hJ hO hF hKp hO2 hd2 hk2 hs2 h12 h13
    go_wp2_with (go_at_call 50; refine HBu.out.mono ?_; rintro e w9 ⟨rfl, hd9, hk9⟩; have Hd9 := Lib.hid hd9; have Hk9 := Lib.hid hk9; clear hd9 hk9)
    go_ret
    refine ⟨rfl, _, Hd9.out, (Hk2.out.mono ?_).trans Hk9.out (fun j _ e => .inl e), ?_⟩
    · rintro j _ (e | e)
      · exact .inr (.inr (.inr ⟨k, e⟩))
      · exact .inr (.inr (.inl e))
    · rintro j (e | e | e | ⟨i, e⟩)
      · exact .inl (.inl e)
      · exact .inl (.inr (.inl e))
      · exact .inl (.inr (.inr (.inl e)))
      · by_cases hik : i = k
        · subst hik
          rw [rowSet_same] at e
          cases e
          rcases HF.out with e | e
          · exact .inl (.inr (.inr (.inr ⟨_, e⟩)))
          · exact .inr e
        · rw [rowSet_other _ _ hik] at e
          exact .inl (.inr (.inr (.inr ⟨_, e⟩)))
end
end Go.Proofs.YthffegfcgmhppaaDoor
namespace Go.Proofs.YthffegfcgmhppaaDoor
open Go.RowKit
set_option linter.unusedSimpArgs false
set_option linter.unusedVariables false
theorem range_row {w : World} {g : Nat} {l : List Value} {t : TypeId} (h : w.heap[g]? = some (.cells l.toArray t (0, 0))) : w.rangeAt g 0 l := by
  intro j v hv
  rw [Nat.zero_add, cell_of_row w g j _ _ _ h]
  simpa using hv
/-- max(x, 0) -/
theorem wpList_max0 {P : Program} {ops : Array Oper} {rest : List Oper} {o : Oper} {a : Act} {w : World} {Q : Exit → Act → World → Prop} (hgd : o.guard = none) (x : Operand) (t1 t2 : TypeId)
    (ho : o.op = .call { callee := .builtin .max, args := #[x, .const (.int .i64 0)], argTypes := #[t1, t2] }) (n r : Int) (hx : a.eval x = .int .i64 n) (hr0 : max n 0 = r)
    (h : wpList P ops Q rest (a.put o.dst (.int .i64 r)) w) : wpList P ops Q (o :: rest) a w := by
  have hr : (Builtin.max_ #[t1, t2] o.type #[.int .i64 n, .int .i64 0]).run P w = .ok (.int .i64 r) w := by
    subst hr0
    by_cases hn : n < 0
    · have e : max n 0 = 0 := by omega
      rw [e]
      simp [Builtin.max_, Builtin.max2, hn, Result.andThen]
    · have e : max n 0 = n := by omega
      rw [e]
      simp [Builtin.max_, Builtin.max2, hn, Result.andThen]
  refine wpList_plain hgd fun K hK => ?_
  unfold Oper.wp execOp
  simp only [ho, resolve, invoke, builtin, Sem.run_bind, Sem.run_pure, Result.andThen_ok, List.map_toArray, List.map_cons, List.map_nil, hx, show ∀ v, a.eval (.const v) = v from fun _ => rfl, hr]
  exact hK _ _ h
/-- min(x, y) -/
theorem wpList_min2 {P : Program} {ops : Array Oper} {rest : List Oper} {o : Oper} {a : Act} {w : World} {Q : Exit → Act → World → Prop} (hgd : o.guard = none) (x y : Operand) (t1 t2 : TypeId)
    (ho : o.op = .call { callee := .builtin .min, args := #[x, y], argTypes := #[t1, t2] }) (n m r : Int) (hx : a.eval x = .int .i64 n) (hy : a.eval y = .int .i64 m) (hr0 : min n m = r)
    (h : wpList P ops Q rest (a.put o.dst (.int .i64 r)) w) : wpList P ops Q (o :: rest) a w := by
  have hr : (Builtin.min_ #[t1, t2] o.type #[.int .i64 n, .int .i64 m]).run P w = .ok (.int .i64 r) w := by
    subst hr0
    by_cases hn : m < n
    · have e : min n m = m := by omega
      rw [e]
      simp [Builtin.min_, Builtin.min2, hn, Result.andThen]
    · have e : min n m = n := by omega
      rw [e]
      simp [Builtin.min_, Builtin.min2, hn, Result.andThen]
  refine wpList_plain hgd fun K hK => ?_
  unfold Oper.wp execOp
  simp only [ho, resolve, invoke, builtin, Sem.run_bind, Sem.run_pure, Result.andThen_ok, List.map_toArray, List.map_cons, List.map_nil, hx, hy, hr]
  exact hK _ _ h
def Dsva : List (Option Tmp) := [some 32, some 33, some 34, some 35, some 36, some 37, some 38, some 39]
def Lsva : List (List Nat) := [[], [0], [], [], [2, 3], [], [4, 5], [1, 6]]
def Dsvb : List (Option Tmp) := [some 32, some 33, some 34, some 35, some 36, some 37, some 38, some 39]
def Lsvb : List (List Nat) := [[], [0], [], [], [2, 3], [], [4, 5], [1, 6]]
set_option maxRecDepth 100000 in
set_option maxHeartbeats 2000000 in
theorem survivor_a (w : World) (old : List UInt8) (hold : old.length = 64) (gk m c wh : Nat) (ts tw tb : Int) (hmc : m ≤ c) (hc2 : c ≤ 9223372036854775807) (tl : List (List UInt8)) (hm : tl.length = m) (h64 : ∀ b ∈ tl, b.length = 64) (hgk : gk < w.heap.size)
    (hrd : ∀ (i : Nat) (hi : i < tl.length), w.rangeAt gk (i * 64) (vals tl[i])) (W : Nat) (hmx : max tw 0 = (W : Int)) (hmn : min (W : Int) (m : Int) = (wh : Int)) (hw0 : wh = 0) (hm1 : 0 < m) :
    Calls Tryd.prog 31 #[.agg (vals old).toArray, .slice (some ⟨gk, 0, none⟩) m c, .agg #[.int .i64 ts, .int .i64 tw, .int .i64 tb]] w fun e w' => e = .returned (.agg (vals ((tl.getD wh []).take (min tb.toNat 64) ++ (old).drop (min tb.toNat 64))).toArray) ∧ Below w.heap.size w w' := by
  obtain ⟨w4, hw4⟩ : ∃ w4, w4 = ((((w.alloc (.cells (vals old).toArray 76)).alloc (.cells #[.int .i64 ts, .int .i64 tw, .int .i64 tb] 73)).alloc (.cells Z64 76)).alloc (.cells Z64 76)).setRow (w.heap.size + 1 + 1 + 1) (vals old).toArray := ⟨_, rfl⟩
  have hb4 : Below w.heap.size w w4 := by
    rw [hw4]
    exact below_setRow (((((Below.refl _ _).alloc (Nat.le_refl _) _).alloc (by simp only [size_alloc1]; omega) _).alloc (by simp only [size_alloc1]; omega) _).alloc (by simp only [size_alloc1]; omega) _) (by omega) _
  have h4s : w4.heap[w.heap.size + 1 + 1 + 1]? = some (.cells (vals old).toArray 76 (0, 0)) := by rw [hw4]; exact setRow_heap _ _ _ _ _ _ (heap_new (by simp only [size_alloc1]))
  have h46 : w4.heap[w.heap.size + 1 + 1]? = some (.cells Z64 76 (0, 0)) := by rw [hw4, setRow_other _ _ _ _ (by omega)]; exact heap_old (heap_new (by simp only [size_alloc1]))
  have h41 : w4.heap[w.heap.size + 1]? = some (.cells #[.int .i64 ts, .int .i64 tw, .int .i64 tb] 73 (0, 0)) := by rw [hw4, setRow_other _ _ _ _ (by omega)]; exact heap_old (heap_old (heap_new (by simp only [size_alloc1])))
  have c41 : w4.cell? ⟨w.heap.size + 1, 2, none⟩ = some (.int .i64 tb) := by rw [cell_of_row _ _ _ _ _ _ h41]; rfl
  have Hw4 := Lib.hid hw4
  have Hb4 := Lib.hid hb4
  have H4s := Lib.hid h4s
  have H46 := Lib.hid h46
  have Hold := Lib.hid hold
  clear hw4 hb4 h4s h46 h41 hold
  have hwm : (wh : Int) < (m : Int) := by omega
  have hbw0 : wh < tl.length := by omega
  obtain ⟨bw, hbw⟩ : ∃ bw, bw = tl.getD wh [] := ⟨_, rfl⟩
  have hbw2 : tl[wh] = bw := by rw [hbw, List.getD_eq_getElem?_getD, List.getElem?_eq_getElem hbw0]; rfl
  have Hbr0 := hrd wh hbw0
  rw [hbw2] at Hbr0
  have Hbw : Hid (bw.length = 64) := Lib.hid (by rw [← hbw2]; exact h64 _ (List.getElem_mem _))
  obtain ⟨tn, htn⟩ : ∃ tn, tn = min tb.toNat 64 := ⟨_, rfl⟩
  obtain ⟨Y, hY⟩ : ∃ Y, Y = tb.toNat := ⟨_, rfl⟩
  have hmx2 : max tb 0 = (Y : Int) := by omega
  have hmn2 : min (Y : Int) 64 = (tn : Int) := by omega
  have htn2 : tn ≤ 64 := by omega
  have htn3 : (tn : Int) ≤ 64 := by omega
  have Htn := Lib.hid htn2
  have Hgk4 : Hid (gk < w4.heap.size) := Lib.hid (Nat.lt_of_lt_of_le hgk Hb4.out.size)
  obtain ⟨sB, hsB⟩ : ∃ sB, sB = old := ⟨_, rfl⟩
  have Hsb : Hid (sB.length = 64) := Lib.hid (by rw [hsB]; exact Hold.out)
  obtain ⟨w5, hw5⟩ : ∃ w5, w5 = w4 := ⟨_, rfl⟩
  have Hb5 : Hid (Below w.heap.size w w5) := Lib.hid (by rw [hw5]; exact Hb4.out)
  have Hgs : Hid (w5.heap[w.heap.size + 1 + 1 + 1]? = some (.cells (vals sB).toArray 76 (0, 0))) := Lib.hid (by rw [hw5, hsB]; exact H4s.out)
  have Hg6 : Hid (w5.heap[w.heap.size + 1 + 1]? = some (.cells Z64 76 (0, 0))) := Lib.hid (by rw [hw5]; exact H46.out)
  have Hw5 := Lib.hid hw5
  have hw0' : (wh : Int) ≤ 0 := by omega
  clear hw5 hw0
  have HRES : Hid ((vals (bw.take tn ++ sB.drop tn)).toArray = (vals ((tl.getD wh []).take (min tb.toNat 64) ++ (old).drop (min tb.toNat 64))).toArray) := Lib.hid (by rw [hbw, htn, hsB])
  have HR64 : Hid ((bw.take tn ++ sB.drop tn).length = 64) := Lib.hid (by rw [List.length_append, List.length_take, List.length_drop, Hbw.out, Hsb.out]; omega)
  have HNW : Hid (((vals sB).toArray.toList.take 0 ++ vals (bw.take tn) ++ (vals sB).toArray.toList.drop (0 + (vals (bw.take tn)).length)).toArray = (vals (bw.take tn ++ sB.drop tn)).toArray) := Lib.hid (by
    rw [vals_app, vals_len, List.length_take, Hbw.out, Nat.min_eq_left htn2]; simp [vals, List.map_drop])
  have Hbr : Hid (w5.rangeAt gk (wh * 64) (vals bw)) := Lib.hid (fun j v hv => (Hb5.out.cell (p := ⟨gk, wh * 64 + j, none⟩) hgk).trans (Hbr0 j v hv))
  have Hgk : Hid (gk < w5.heap.size) := Lib.hid (Nat.lt_of_lt_of_le hgk Hb5.out.size)
  obtain ⟨g6, hg6⟩ : ∃ g6, g6 = w.heap.size + 1 + 1 := ⟨_, rfl⟩
  obtain ⟨gs, hgs⟩ : ∃ gs, gs = w.heap.size + 1 + 1 + 1 := ⟨_, rfl⟩
  have H6 : Hid (w.heap.size ≤ g6) := Lib.hid (by omega)
  have H7 : Hid (g6 + 1 = gs ∧ w.heap.size ≤ gs) := Lib.hid (by omega)
  rw [← hgs] at Hgs
  rw [← hg6] at Hg6
  have Hgs1 := Lib.hid hgs
  have Hg61 := Lib.hid hg6
  obtain ⟨RV, hRV⟩ : ∃ RV, RV = (vals (bw.take tn ++ sB.drop tn)).toArray := ⟨_, rfl⟩
  rw [← HRES.out, ← hRV]
  have HRV := Lib.hid hRV
  clear hRV HRES hY hbw2 hbw htn hg6 hgs hsB hrd h64 hm Hbr0 hgk
  go_enter Tryd.func31, Tryd.ntmps31
  go_upto_region 3 with (first
    | (refine wpList_max0 rfl (.tmp 11) 3 3 rfl tw (W : Int) rfl hmx ?_)
    | (refine wpList_min2 rfl (.tmp 12) (.tmp 14) 3 3 rfl (W : Int) (m : Int) (wh : Int) rfl rfl hmn ?_)
    | (refine wpList_alloc_z rfl 76 rfl Z64 76 run_alloc94 ?_)
    | (refine wpList_load_mid rfl 76 (.tmp 3) rfl w.heap.size 0 rfl (vals old) _ (range_row (heap_old (heap_old (heap_new rfl)))) Tryd.underlying76 rfl (size64v Hold.out) ?_)
    | (refine wpList_store_row rfl 76 (.tmp 8) (.tmp 16) rfl _ _ rfl rfl 76 Z64 (heap_new rfl) (size64a Hold.out) (by rw [cells64, List.size_toArray, vals_len, Hold.out]) (one64 _) ?_; simp only [size_alloc1]))
  rw [← Hw4.out]
  go_upto_region 7 with (first | (refine wpList_max0 rfl (.tmp 29) 3 3 rfl tb (Y : Int) rfl hmx2 ?_) | (refine wpList_min2 rfl (.tmp 30) (.const (.int .i64 64)) 3 3 rfl (Y : Int) 64 (tn : Int) rfl rfl hmn2 ?_))
  rw [← Hw5.out]
  rw [← Hgs1.out, ← Hg61.out]
  refine Roll.region_w 8 41 Dsva Lsva [(1, .slice (some ⟨gk, 0, none⟩) m c), (7, .int .i64 (wh : Int)), (8, .pointer (some ⟨gs, 0, none⟩)), (9, .int .i64 (tn : Int))] 7 [true, true, true, true, true, true, true, false] (fun p => Kept (fun _ => False) w5 p) (fun vv p => p.heap[gs]? = some (.cells (vals (bw.take tn ++ sB.drop tn)).toArray 76 (0, 0)) ∧ Kept (fun j => j = gs) w5 p) (fun p => Kept (fun j => j = gs) w5 p) (fun p p2 => Kept (fun j => j = gs) p p2) [fun vv p => (vv 0) = .int .i64 (tn : Int), fun vv p => (vv 1) = .slice (some ⟨gs, 0, none⟩) tn 64, fun vv p => (vv 2) = .slice (some ⟨gk, 0, none⟩) m c, fun vv p => (vv 3) = .int .i64 (wh : Int), fun vv p => (vv 4) = .pointer (some ⟨gk, wh * 64, none⟩), fun vv p => (vv 5) = .int .i64 (tn : Int), fun vv p => (vv 6) = .slice (some ⟨gk, wh * 64, none⟩) tn 64, fun vv p => True] (by kernel_rfl) (by kernel_rfl) rfl ⟨rfl, rfl, rfl, rfl, trivial⟩ ((Kept.refl _ _).drew) (by decide) (by kernel_rfl) (fun _ h => h.mono (fun _ _ h => h.elim)) (fun _ _ h => h.2) (fun _ => Kept.refl _ _) ?_ ?_ ?_
  · exact ⟨fun _ _ _ _ h => h, fun _ _ _ _ h => h, fun _ _ _ _ h => h, fun _ _ _ _ h => h, fun _ _ _ _ h => h, fun _ _ _ _ h => h, fun _ _ _ _ h => h, fun _ _ _ _ h => h, trivial⟩
  · intro b0 hN hlv
    refine ⟨?_, ?_, ?_, ?_, ?_, ?_, ?_, ?_, trivial⟩
    · intro vs p hI0 hp
      have hI := Roll.inw_pure (by decide) rfl hI0
      clear hI0
      have e9 : (Roll.putD Dsva vs [] b0).eval (.tmp 9) = .int .i64 (tn : Int) := (Roll.eval_old rfl).trans (hlv.at 3 (9, .int .i64 (tn : Int)) rfl)
      clear hp hlv hN
      unfold Roll.Goes
      simp only [Lsva, List.getD_cons_zero, List.getD_cons_succ]
      generalize Roll.putD Dsva vs [] b0 = a1 at *
      refine Roll.goes_val (w' := p) (.int .i64 (tn : Int)) rfl ?_ ⟨(Roll.outw_pure (by decide) rfl), rfl⟩
      (have ec : ∀ x, a1.eval (.const x) = x := fun _ => rfl); (have ef : ∀ x, a1.eval (.func x) = .func (.func x) #[] #[] := fun _ => rfl); generalize a1.eval = ρ at *
      skip
      go_simp <;> (intros; first | (exfalso; omega) | rfl)
    · intro vs p hI0 hp
      have hI := Roll.inw_pure (by decide) rfl hI0
      clear hI0
      have h0 : (vs 0) = .int .i64 (tn : Int) := hp 0 (by simp [Lsva])
      have e8 : (Roll.putD Dsva vs [0] b0).eval (.tmp 8) = .pointer (some ⟨gs, 0, none⟩) := (Roll.eval_old rfl).trans (hlv.at 2 (8, .pointer (some ⟨gs, 0, none⟩)) rfl)
      have e32 : (Roll.putD Dsva vs [0] b0).eval (.tmp 32) = .int .i64 (tn : Int) := (Roll.eval_new 0 rfl (by decide) (by decide) (by omega)).trans h0
      clear hp hlv hN
      unfold Roll.Goes
      simp only [Lsva, List.getD_cons_zero, List.getD_cons_succ]
      generalize Roll.putD Dsva vs [0] b0 = a1 at *
      refine Roll.goes_val (w' := p) (.slice (some ⟨gs, 0, none⟩) tn 64) rfl ?_ ⟨(Roll.outw_pure (by decide) rfl), rfl⟩
      (have ec : ∀ x, a1.eval (.const x) = x := fun _ => rfl); (have ef : ∀ x, a1.eval (.func x) = .func (.func x) #[] #[] := fun _ => rfl); generalize a1.eval = ρ at *
      clear h0
      go_simp <;> (intros; first | (exfalso; omega) | rfl)
    · intro vs p hI0 hp
      have hI := Roll.inw_pure (by decide) rfl hI0
      clear hI0
      have e1 : (Roll.putD Dsva vs [] b0).eval (.tmp 1) = .slice (some ⟨gk, 0, none⟩) m c := (Roll.eval_old rfl).trans (hlv.at 0 (1, .slice (some ⟨gk, 0, none⟩) m c) rfl)
      clear hp hlv hN
      unfold Roll.Goes
      simp only [Lsva, List.getD_cons_zero, List.getD_cons_succ]
      generalize Roll.putD Dsva vs [] b0 = a1 at *
      refine Roll.goes_val (w' := p) (.slice (some ⟨gk, 0, none⟩) m c) rfl ?_ ⟨(Roll.outw_pure (by decide) rfl), rfl⟩
      (have ec : ∀ x, a1.eval (.const x) = x := fun _ => rfl); (have ef : ∀ x, a1.eval (.func x) = .func (.func x) #[] #[] := fun _ => rfl); generalize a1.eval = ρ at *
      skip
      go_simp <;> (intros; first | (exfalso; omega) | rfl)
    · intro vs p hI0 hp
      have hI := Roll.inw_pure (by decide) rfl hI0
      clear hI0
      have e7 : (Roll.putD Dsva vs [] b0).eval (.tmp 7) = .int .i64 (wh : Int) := (Roll.eval_old rfl).trans (hlv.at 1 (7, .int .i64 (wh : Int)) rfl)
      clear hp hlv hN
      unfold Roll.Goes
      simp only [Lsva, List.getD_cons_zero, List.getD_cons_succ]
      generalize Roll.putD Dsva vs [] b0 = a1 at *
      refine Roll.goes_val (w' := p) (.int .i64 (wh : Int)) rfl ?_ ⟨(Roll.outw_pure (by decide) rfl), rfl⟩
      (have ec : ∀ x, a1.eval (.const x) = x := fun _ => rfl); (have ef : ∀ x, a1.eval (.func x) = .func (.func x) #[] #[] := fun _ => rfl); generalize a1.eval = ρ at *
      skip
      go_simp <;> (intros; first | (exfalso; omega) | rfl)
    · intro vs p hI0 hp
      have hI := Roll.inw_pure (by decide) rfl hI0
      clear hI0
      have h2 : (vs 2) = .slice (some ⟨gk, 0, none⟩) m c := hp 2 (by simp [Lsva])
      have h3 : (vs 3) = .int .i64 (wh : Int) := hp 3 (by simp [Lsva])
      have e34 : (Roll.putD Dsva vs [2, 3] b0).eval (.tmp 34) = .slice (some ⟨gk, 0, none⟩) m c := (Roll.eval_new 2 rfl (by decide) (by decide) (by omega)).trans h2
      have e35 : (Roll.putD Dsva vs [2, 3] b0).eval (.tmp 35) = .int .i64 (wh : Int) := (Roll.eval_new 3 rfl (by decide) (by decide) (by omega)).trans h3
      clear hp hlv hN
      unfold Roll.Goes
      simp only [Lsva, List.getD_cons_zero, List.getD_cons_succ]
      generalize Roll.putD Dsva vs [2, 3] b0 = a1 at *
      refine Roll.goes_val (w' := p) (.pointer (some ⟨gk, wh * 64, none⟩)) rfl ?_ ⟨(Roll.outw_pure (by decide) rfl), rfl⟩
      (have ec : ∀ x, a1.eval (.const x) = x := fun _ => rfl); (have ef : ∀ x, a1.eval (.func x) = .func (.func x) #[] #[] := fun _ => rfl); generalize a1.eval = ρ at *
      clear h2 h3
      go_simp <;> (intros; first | (exfalso; omega) | rfl)
    · intro vs p hI0 hp
      have hI := Roll.inw_pure (by decide) rfl hI0
      clear hI0
      have e9 : (Roll.putD Dsva vs [] b0).eval (.tmp 9) = .int .i64 (tn : Int) := (Roll.eval_old rfl).trans (hlv.at 3 (9, .int .i64 (tn : Int)) rfl)
      clear hp hlv hN
      unfold Roll.Goes
      simp only [Lsva, List.getD_cons_zero, List.getD_cons_succ]
      generalize Roll.putD Dsva vs [] b0 = a1 at *
      refine Roll.goes_val (w' := p) (.int .i64 (tn : Int)) rfl ?_ ⟨(Roll.outw_pure (by decide) rfl), rfl⟩
      (have ec : ∀ x, a1.eval (.const x) = x := fun _ => rfl); (have ef : ∀ x, a1.eval (.func x) = .func (.func x) #[] #[] := fun _ => rfl); generalize a1.eval = ρ at *
      skip
      go_simp <;> (intros; first | (exfalso; omega) | rfl)
    · intro vs p hI0 hp
      have hI := Roll.inw_pure (by decide) rfl hI0
      clear hI0
      have h4 : (vs 4) = .pointer (some ⟨gk, wh * 64, none⟩) := hp 4 (by simp [Lsva])
      have h5 : (vs 5) = .int .i64 (tn : Int) := hp 5 (by simp [Lsva])
      have e36 : (Roll.putD Dsva vs [4, 5] b0).eval (.tmp 36) = .pointer (some ⟨gk, wh * 64, none⟩) := (Roll.eval_new 4 rfl (by decide) (by decide) (by omega)).trans h4
      have e37 : (Roll.putD Dsva vs [4, 5] b0).eval (.tmp 37) = .int .i64 (tn : Int) := (Roll.eval_new 5 rfl (by decide) (by decide) (by omega)).trans h5
      clear hp hlv hN
      unfold Roll.Goes
      simp only [Lsva, List.getD_cons_zero, List.getD_cons_succ]
      generalize Roll.putD Dsva vs [4, 5] b0 = a1 at *
      refine Roll.goes_val (w' := p) (.slice (some ⟨gk, wh * 64, none⟩) tn 64) rfl ?_ ⟨(Roll.outw_pure (by decide) rfl), rfl⟩
      (have ec : ∀ x, a1.eval (.const x) = x := fun _ => rfl); (have ef : ∀ x, a1.eval (.func x) = .func (.func x) #[] #[] := fun _ => rfl); generalize a1.eval = ρ at *
      clear h4 h5
      go_simp <;> (intros; first | (exfalso; omega) | rfl)
    · intro vs p hI0 hp
      have hI := Roll.inw_k0 rfl hI0
      clear hI0
      have h1 : (vs 1) = .slice (some ⟨gs, 0, none⟩) tn 64 := hp 1 (by simp [Lsva])
      have h6 : (vs 6) = .slice (some ⟨gk, wh * 64, none⟩) tn 64 := hp 6 (by simp [Lsva])
      have e33 : (Roll.putD Dsva vs [1, 6] b0).eval (.tmp 33) = .slice (some ⟨gs, 0, none⟩) tn 64 := (Roll.eval_new 1 rfl (by decide) (by decide) (by omega)).trans h1
      have e38 : (Roll.putD Dsva vs [1, 6] b0).eval (.tmp 38) = .slice (some ⟨gk, wh * 64, none⟩) tn 64 := (Roll.eval_new 6 rfl (by decide) (by decide) (by omega)).trans h6
      clear hp hlv hN
      unfold Roll.Goes
      simp only [Lsva, List.getD_cons_zero, List.getD_cons_succ]
      generalize Roll.putD Dsva vs [1, 6] b0 = a1 at *
      have hg : p.heap[gs]? = some (.cells (vals sB).toArray 76 (0, 0)) := hI.heap Hgs.out (fun h => h)
      have hrun := run_copy_row (P := Tryd.prog) p 34 34 3 5 gs 0 tn 64 ⟨gk, wh * 64, none⟩ tn 64 (vals sB).toArray 76 (vals (bw.take tn)) Tryd.underlying34 (by kernel_rfl) hg (by rw [vals_len, List.length_take, Hbw.out]; have := Htn.out; simp; omega) (fun j v hv => by
        rw [Addr.add_mid]
        refine (hI.cell (p := ⟨gk, wh * 64 + j, none⟩) Hgk.out (fun h => h)).trans (Hbr.out j v ?_)
        rw [show vals (bw.take tn) = (vals bw).take tn by simp [vals, List.map_take], List.getElem?_take] at hv
        split at hv
        · exact hv
        · cases hv) (by rw [vals_len, List.length_take, List.size_toArray, vals_len, Hsb.out]; omega) (vals_one _)
      rw [HNW.out] at hrun
      have hks : Kept (fun j => j = gs) p (p.setRow gs (vals (bw.take tn ++ sB.drop tn)).toArray) := (Kept.refl (fun j => j = gs) p).setRow (fun _ => rfl) _
      refine Roll.goes_val (w' := p.setRow gs (vals (bw.take tn ++ sB.drop tn)).toArray) (goInt (vals (bw.take tn)).length) rfl ?_ ⟨Roll.outw_k0 rfl ⟨setRow_heap p gs _ _ _ _ hg, (hI.mono (fun _ _ h => h.elim)).trans hks (fun _ _ h => h)⟩ hks, trivial⟩
      unfold execOp
      simp only [resolve, invoke, builtin, Sem.run_bind, Sem.run_pure, Result.andThen_ok, List.map_toArray, List.map_cons, List.map_nil, e33, e38, hrun]
  · intro vs p hI hR
    have h0 : (vs 0) = .int .i64 (tn : Int) := hR 0 (by omega)
    have h1 : (vs 1) = .slice (some ⟨gs, 0, none⟩) tn 64 := hR 1 (by omega)
    have h2 : (vs 2) = .slice (some ⟨gk, 0, none⟩) m c := hR 2 (by omega)
    have h3 : (vs 3) = .int .i64 (wh : Int) := hR 3 (by omega)
    have h4 : (vs 4) = .pointer (some ⟨gk, wh * 64, none⟩) := hR 4 (by omega)
    have h5 : (vs 5) = .int .i64 (tn : Int) := hR 5 (by omega)
    have h6 : (vs 6) = .slice (some ⟨gk, wh * 64, none⟩) tn 64 := hR 6 (by omega)
    have h7 : True := hR 7 (by omega)
    clear hR
    simp only [List.range_succ, List.range_zero, List.nil_append, List.cons_append, Roll.putD, Act.put, List.getD_cons_zero, List.getD_cons_succ, List.setIfInBounds_toArray, List.set_cons_zero, List.set_cons_succ, List.drop_succ_cons, List.drop_zero, Dsva]
    simp only [h0, h1, h2, h3, h4, h5, h6]
    clear h0 h1 h2 h3 h4 h5 h6
    obtain ⟨hg, hK⟩ := hI
    have HGS := Lib.hid hg
    have HG6 := Lib.hid (hK.heap Hg6.out (by have := H7.out; omega))
    have HBB : Hid (Below w.heap.size w p) := Lib.hid (Hb5.out.trans (hK.below Hb5.out.size (fun j hj e => by have := H7.out; omega)))
    clear hg hK h7
    go_wp2_with (first
      | (refine wpList_load_row rfl 76 (.tmp 8) rfl gs rfl 76 _ (0, 0) _ HGS.out Tryd.underlying76 rfl (size64a HR64.out) ?_)
      | (refine wpList_store_row rfl 76 (.tmp 6) (.tmp 40) rfl g6 _ rfl rfl 76 Z64 HG6.out (size64a HR64.out) (by rw [cells64, List.size_toArray, vals_len, HR64.out]) (one64 _) ?_))
    refine bodyPost_ret (results_cell_row rfl _ _ g6 76 _ (0, 0) _ rfl (setRow_heap _ _ _ _ _ _ HG6.out) Tryd.underlying76 rfl (size64a HR64.out)) rfl ⟨by rw [HRV.out], below_setRow HBB.out H6.out _⟩
set_option maxRecDepth 100000 in
set_option maxHeartbeats 2000000 in
theorem survivor_b (w : World) (old : List UInt8) (hold : old.length = 64) (gk m c wh : Nat) (ts tw tb : Int) (hmc : m ≤ c) (hc2 : c ≤ 9223372036854775807) (tl : List (List UInt8)) (hm : tl.length = m) (h64 : ∀ b ∈ tl, b.length = 64) (hgk : gk < w.heap.size)
    (hrd : ∀ (i : Nat) (hi : i < tl.length), w.rangeAt gk (i * 64) (vals tl[i])) (W : Nat) (hmx : max tw 0 = (W : Int)) (hmn : min (W : Int) (m : Int) = (wh : Int)) (hw0 : 0 < wh) (hw1 : wh < m) :
    Calls Tryd.prog 31 #[.agg (vals old).toArray, .slice (some ⟨gk, 0, none⟩) m c, .agg #[.int .i64 ts, .int .i64 tw, .int .i64 tb]] w fun e w' => e = .returned (.agg (vals ((tl.getD wh []).take (min tb.toNat 64) ++ (tl.getD (wh - 1) []).drop (min tb.toNat 64))).toArray) ∧ Below w.heap.size w w' := by
  obtain ⟨w4, hw4⟩ : ∃ w4, w4 = ((((w.alloc (.cells (vals old).toArray 76)).alloc (.cells #[.int .i64 ts, .int .i64 tw, .int .i64 tb] 73)).alloc (.cells Z64 76)).alloc (.cells Z64 76)).setRow (w.heap.size + 1 + 1 + 1) (vals old).toArray := ⟨_, rfl⟩
  have hb4 : Below w.heap.size w w4 := by
    rw [hw4]
    exact below_setRow (((((Below.refl _ _).alloc (Nat.le_refl _) _).alloc (by simp only [size_alloc1]; omega) _).alloc (by simp only [size_alloc1]; omega) _).alloc (by simp only [size_alloc1]; omega) _) (by omega) _
  have h4s : w4.heap[w.heap.size + 1 + 1 + 1]? = some (.cells (vals old).toArray 76 (0, 0)) := by rw [hw4]; exact setRow_heap _ _ _ _ _ _ (heap_new (by simp only [size_alloc1]))
  have h46 : w4.heap[w.heap.size + 1 + 1]? = some (.cells Z64 76 (0, 0)) := by rw [hw4, setRow_other _ _ _ _ (by omega)]; exact heap_old (heap_new (by simp only [size_alloc1]))
  have h41 : w4.heap[w.heap.size + 1]? = some (.cells #[.int .i64 ts, .int .i64 tw, .int .i64 tb] 73 (0, 0)) := by rw [hw4, setRow_other _ _ _ _ (by omega)]; exact heap_old (heap_old (heap_new (by simp only [size_alloc1])))
  have c41 : w4.cell? ⟨w.heap.size + 1, 2, none⟩ = some (.int .i64 tb) := by rw [cell_of_row _ _ _ _ _ _ h41]; rfl
  have Hw4 := Lib.hid hw4
  have Hb4 := Lib.hid hb4
  have H4s := Lib.hid h4s
  have H46 := Lib.hid h46
  have Hold := Lib.hid hold
  clear hw4 hb4 h4s h46 h41 hold
  have hwm : (wh : Int) < (m : Int) := by omega
  have hbw0 : wh < tl.length := by omega
  obtain ⟨bw, hbw⟩ : ∃ bw, bw = tl.getD wh [] := ⟨_, rfl⟩
  have hbw2 : tl[wh] = bw := by rw [hbw, List.getD_eq_getElem?_getD, List.getElem?_eq_getElem hbw0]; rfl
  have Hbr0 := hrd wh hbw0
  rw [hbw2] at Hbr0
  have Hbw : Hid (bw.length = 64) := Lib.hid (by rw [← hbw2]; exact h64 _ (List.getElem_mem _))
  obtain ⟨tn, htn⟩ : ∃ tn, tn = min tb.toNat 64 := ⟨_, rfl⟩
  obtain ⟨Y, hY⟩ : ∃ Y, Y = tb.toNat := ⟨_, rfl⟩
  have hmx2 : max tb 0 = (Y : Int) := by omega
  have hmn2 : min (Y : Int) 64 = (tn : Int) := by omega
  have htn2 : tn ≤ 64 := by omega
  have htn3 : (tn : Int) ≤ 64 := by omega
  have Htn := Lib.hid htn2
  have Hgk4 : Hid (gk < w4.heap.size) := Lib.hid (Nat.lt_of_lt_of_le hgk Hb4.out.size)
  obtain ⟨sB, hsB⟩ : ∃ sB, sB = tl.getD (wh - 1) [] := ⟨_, rfl⟩
  have hwp : wh - 1 < tl.length := by omega
  have hsB2 : tl[wh - 1] = sB := by rw [hsB, List.getD_eq_getElem?_getD, List.getElem?_eq_getElem hwp]; rfl
  have Hsb : Hid (sB.length = 64) := Lib.hid (by rw [← hsB2]; exact h64 _ (List.getElem_mem _))
  have Hbp : Hid (w4.rangeAt gk ((wh - 1) * 64) (vals sB)) := Lib.hid (fun j v hv => (Hb4.out.cell (p := ⟨gk, (wh - 1) * 64 + j, none⟩) hgk).trans (hrd (wh - 1) hwp j v (by rw [hsB2]; exact hv)))
  obtain ⟨w5, hw5⟩ : ∃ w5, w5 = w4.setRow (w.heap.size + 1 + 1 + 1) (vals sB).toArray := ⟨_, rfl⟩
  have Hb5 : Hid (Below w.heap.size w w5) := Lib.hid (by rw [hw5]; exact below_setRow Hb4.out (by omega) _)
  have Hgs : Hid (w5.heap[w.heap.size + 1 + 1 + 1]? = some (.cells (vals sB).toArray 76 (0, 0))) := Lib.hid (by rw [hw5]; exact setRow_heap _ _ _ _ _ _ H4s.out)
  have Hg6 : Hid (w5.heap[w.heap.size + 1 + 1]? = some (.cells Z64 76 (0, 0))) := Lib.hid (by rw [hw5, setRow_other _ _ _ _ (by omega)]; exact H46.out)
  have c51 : w5.cell? ⟨w.heap.size + 1, 2, none⟩ = some (.int .i64 tb) := by rw [hw5]; exact ((Kept.refl (fun j => j = w.heap.size + 1 + 1 + 1) w4).setRow (fun _ => rfl) _).cell (p := ⟨w.heap.size + 1, 2, none⟩) (block_lt_of_cell c41) (by simp) |>.trans c41
  have hp1 : (0 : Int) < (wh : Int) := by omega
  have Hw5 := Lib.hid hw5
  clear hw5 hsB2
  have HRES : Hid ((vals (bw.take tn ++ sB.drop tn)).toArray = (vals ((tl.getD wh []).take (min tb.toNat 64) ++ (tl.getD (wh - 1) []).drop (min tb.toNat 64))).toArray) := Lib.hid (by rw [hbw, htn, hsB])
  have HR64 : Hid ((bw.take tn ++ sB.drop tn).length = 64) := Lib.hid (by rw [List.length_append, List.length_take, List.length_drop, Hbw.out, Hsb.out]; omega)
  have HNW : Hid (((vals sB).toArray.toList.take 0 ++ vals (bw.take tn) ++ (vals sB).toArray.toList.drop (0 + (vals (bw.take tn)).length)).toArray = (vals (bw.take tn ++ sB.drop tn)).toArray) := Lib.hid (by
    rw [vals_app, vals_len, List.length_take, Hbw.out, Nat.min_eq_left htn2]; simp [vals, List.map_drop])
  have Hbr : Hid (w5.rangeAt gk (wh * 64) (vals bw)) := Lib.hid (fun j v hv => (Hb5.out.cell (p := ⟨gk, wh * 64 + j, none⟩) hgk).trans (Hbr0 j v hv))
  have Hgk : Hid (gk < w5.heap.size) := Lib.hid (Nat.lt_of_lt_of_le hgk Hb5.out.size)
  obtain ⟨g6, hg6⟩ : ∃ g6, g6 = w.heap.size + 1 + 1 := ⟨_, rfl⟩
  obtain ⟨gs, hgs⟩ : ∃ gs, gs = w.heap.size + 1 + 1 + 1 := ⟨_, rfl⟩
  have H6 : Hid (w.heap.size ≤ g6) := Lib.hid (by omega)
  have H7 : Hid (g6 + 1 = gs ∧ w.heap.size ≤ gs) := Lib.hid (by omega)
  rw [← hgs] at Hgs
  rw [← hg6] at Hg6
  have Hgs1 := Lib.hid hgs
  have Hg61 := Lib.hid hg6
  obtain ⟨RV, hRV⟩ : ∃ RV, RV = (vals (bw.take tn ++ sB.drop tn)).toArray := ⟨_, rfl⟩
  rw [← HRES.out, ← hRV]
  have HRV := Lib.hid hRV
  clear hRV HRES hY hbw2 hbw htn hg6 hgs hsB hrd h64 hm Hbr0 hgk
  go_enter Tryd.func31, Tryd.ntmps31
  go_upto_region 3 with (first
    | (refine wpList_max0 rfl (.tmp 11) 3 3 rfl tw (W : Int) rfl hmx ?_)
    | (refine wpList_min2 rfl (.tmp 12) (.tmp 14) 3 3 rfl (W : Int) (m : Int) (wh : Int) rfl rfl hmn ?_)
    | (refine wpList_alloc_z rfl 76 rfl Z64 76 run_alloc94 ?_)
    | (refine wpList_load_mid rfl 76 (.tmp 3) rfl w.heap.size 0 rfl (vals old) _ (range_row (heap_old (heap_old (heap_new rfl)))) Tryd.underlying76 rfl (size64v Hold.out) ?_)
    | (refine wpList_store_row rfl 76 (.tmp 8) (.tmp 16) rfl _ _ rfl rfl 76 Z64 (heap_new rfl) (size64a Hold.out) (by rw [cells64, List.size_toArray, vals_len, Hold.out]) (one64 _) ?_; simp only [size_alloc1]))
  rw [← Hw4.out]
  go_upto_region 5 with (first
    | (refine wpList_load_mid rfl 76 (.tmp 22) rfl gk ((wh - 1) * 64) rfl _ _ Hbp.out Tryd.underlying76 rfl (size64v Hsb.out) ?_)
    | (refine wpList_store_row rfl 76 (.tmp 8) (.tmp 23) rfl (w.heap.size + 1 + 1 + 1) _ rfl rfl 76 _ H4s.out (size64a Hsb.out) (by rw [List.size_toArray, List.size_toArray, vals_len, vals_len, Hold.out, Hsb.out]) (one64 _) ?_))
  rw [← Hw5.out]
  go_upto_region 7 with (first | (refine wpList_max0 rfl (.tmp 29) 3 3 rfl tb (Y : Int) rfl hmx2 ?_) | (refine wpList_min2 rfl (.tmp 30) (.const (.int .i64 64)) 3 3 rfl (Y : Int) 64 (tn : Int) rfl rfl hmn2 ?_))
  rw [← Hgs1.out, ← Hg61.out]
  refine Roll.region_w 8 41 Dsvb Lsvb [(1, .slice (some ⟨gk, 0, none⟩) m c), (7, .int .i64 (wh : Int)), (8, .pointer (some ⟨gs, 0, none⟩)), (9, .int .i64 (tn : Int))] 7 [true, true, true, true, true, true, true, false] (fun p => Kept (fun _ => False) w5 p) (fun vv p => p.heap[gs]? = some (.cells (vals (bw.take tn ++ sB.drop tn)).toArray 76 (0, 0)) ∧ Kept (fun j => j = gs) w5 p) (fun p => Kept (fun j => j = gs) w5 p) (fun p p2 => Kept (fun j => j = gs) p p2) [fun vv p => (vv 0) = .int .i64 (tn : Int), fun vv p => (vv 1) = .slice (some ⟨gs, 0, none⟩) tn 64, fun vv p => (vv 2) = .slice (some ⟨gk, 0, none⟩) m c, fun vv p => (vv 3) = .int .i64 (wh : Int), fun vv p => (vv 4) = .pointer (some ⟨gk, wh * 64, none⟩), fun vv p => (vv 5) = .int .i64 (tn : Int), fun vv p => (vv 6) = .slice (some ⟨gk, wh * 64, none⟩) tn 64, fun vv p => True] (by kernel_rfl) (by kernel_rfl) rfl ⟨rfl, rfl, rfl, rfl, trivial⟩ ((Kept.refl _ _).drew) (by decide) (by kernel_rfl) (fun _ h => h.mono (fun _ _ h => h.elim)) (fun _ _ h => h.2) (fun _ => Kept.refl _ _) ?_ ?_ ?_
  · exact ⟨fun _ _ _ _ h => h, fun _ _ _ _ h => h, fun _ _ _ _ h => h, fun _ _ _ _ h => h, fun _ _ _ _ h => h, fun _ _ _ _ h => h, fun _ _ _ _ h => h, fun _ _ _ _ h => h, trivial⟩
  · intro b0 hN hlv
    refine ⟨?_, ?_, ?_, ?_, ?_, ?_, ?_, ?_, trivial⟩
    · intro vs p hI0 hp
      have hI := Roll.inw_pure (by decide) rfl hI0
      clear hI0
      have e9 : (Roll.putD Dsvb vs [] b0).eval (.tmp 9) = .int .i64 (tn : Int) := (Roll.eval_old rfl).trans (hlv.at 3 (9, .int .i64 (tn : Int)) rfl)
      clear hp hlv hN
      unfold Roll.Goes
      simp only [Lsvb, List.getD_cons_zero, List.getD_cons_succ]
      generalize Roll.putD Dsvb vs [] b0 = a1 at *
      refine Roll.goes_val (w' := p) (.int .i64 (tn : Int)) rfl ?_ ⟨(Roll.outw_pure (by decide) rfl), rfl⟩
      (have ec : ∀ x, a1.eval (.const x) = x := fun _ => rfl); (have ef : ∀ x, a1.eval (.func x) = .func (.func x) #[] #[] := fun _ => rfl); generalize a1.eval = ρ at *
      skip
      go_simp <;> (intros; first | (exfalso; omega) | rfl)
    · intro vs p hI0 hp
      have hI := Roll.inw_pure (by decide) rfl hI0
      clear hI0
      have h0 : (vs 0) = .int .i64 (tn : Int) := hp 0 (by simp [Lsvb])
      have e8 : (Roll.putD Dsvb vs [0] b0).eval (.tmp 8) = .pointer (some ⟨gs, 0, none⟩) := (Roll.eval_old rfl).trans (hlv.at 2 (8, .pointer (some ⟨gs, 0, none⟩)) rfl)
      have e32 : (Roll.putD Dsvb vs [0] b0).eval (.tmp 32) = .int .i64 (tn : Int) := (Roll.eval_new 0 rfl (by decide) (by decide) (by omega)).trans h0
      clear hp hlv hN
      unfold Roll.Goes
      simp only [Lsvb, List.getD_cons_zero, List.getD_cons_succ]
      generalize Roll.putD Dsvb vs [0] b0 = a1 at *
      refine Roll.goes_val (w' := p) (.slice (some ⟨gs, 0, none⟩) tn 64) rfl ?_ ⟨(Roll.outw_pure (by decide) rfl), rfl⟩
      (have ec : ∀ x, a1.eval (.const x) = x := fun _ => rfl); (have ef : ∀ x, a1.eval (.func x) = .func (.func x) #[] #[] := fun _ => rfl); generalize a1.eval = ρ at *
      clear h0
      go_simp <;> (intros; first | (exfalso; omega) | rfl)
    · intro vs p hI0 hp
      have hI := Roll.inw_pure (by decide) rfl hI0
      clear hI0
      have e1 : (Roll.putD Dsvb vs [] b0).eval (.tmp 1) = .slice (some ⟨gk, 0, none⟩) m c := (Roll.eval_old rfl).trans (hlv.at 0 (1, .slice (some ⟨gk, 0, none⟩) m c) rfl)
      clear hp hlv hN
      unfold Roll.Goes
      simp only [Lsvb, List.getD_cons_zero, List.getD_cons_succ]
      generalize Roll.putD Dsvb vs [] b0 = a1 at *
      refine Roll.goes_val (w' := p) (.slice (some ⟨gk, 0, none⟩) m c) rfl ?_ ⟨(Roll.outw_pure (by decide) rfl), rfl⟩
      (have ec : ∀ x, a1.eval (.const x) = x := fun _ => rfl); (have ef : ∀ x, a1.eval (.func x) = .func (.func x) #[] #[] := fun _ => rfl); generalize a1.eval = ρ at *
      skip
      go_simp <;> (intros; first | (exfalso; omega) | rfl)
    · intro vs p hI0 hp
      have hI := Roll.inw_pure (by decide) rfl hI0
      clear hI0
      have e7 : (Roll.putD Dsvb vs [] b0).eval (.tmp 7) = .int .i64 (wh : Int) := (Roll.eval_old rfl).trans (hlv.at 1 (7, .int .i64 (wh : Int)) rfl)
      clear hp hlv hN
      unfold Roll.Goes
      simp only [Lsvb, List.getD_cons_zero, List.getD_cons_succ]
      generalize Roll.putD Dsvb vs [] b0 = a1 at *
      refine Roll.goes_val (w' := p) (.int .i64 (wh : Int)) rfl ?_ ⟨(Roll.outw_pure (by decide) rfl), rfl⟩
      (have ec : ∀ x, a1.eval (.const x) = x := fun _ => rfl); (have ef : ∀ x, a1.eval (.func x) = .func (.func x) #[] #[] := fun _ => rfl); generalize a1.eval = ρ at *
      skip
      go_simp <;> (intros; first | (exfalso; omega) | rfl)
    · intro vs p hI0 hp
      have hI := Roll.inw_pure (by decide) rfl hI0
      clear hI0
      have h2 : (vs 2) = .slice (some ⟨gk, 0, none⟩) m c := hp 2 (by simp [Lsvb])
      have h3 : (vs 3) = .int .i64 (wh : Int) := hp 3 (by simp [Lsvb])
      have e34 : (Roll.putD Dsvb vs [2, 3] b0).eval (.tmp 34) = .slice (some ⟨gk, 0, none⟩) m c := (Roll.eval_new 2 rfl (by decide) (by decide) (by omega)).trans h2
      have e35 : (Roll.putD Dsvb vs [2, 3] b0).eval (.tmp 35) = .int .i64 (wh : Int) := (Roll.eval_new 3 rfl (by decide) (by decide) (by omega)).trans h3
      clear hp hlv hN
      unfold Roll.Goes
      simp only [Lsvb, List.getD_cons_zero, List.getD_cons_succ]
      generalize Roll.putD Dsvb vs [2, 3] b0 = a1 at *
      refine Roll.goes_val (w' := p) (.pointer (some ⟨gk, wh * 64, none⟩)) rfl ?_ ⟨(Roll.outw_pure (by decide) rfl), rfl⟩
      (have ec : ∀ x, a1.eval (.const x) = x := fun _ => rfl); (have ef : ∀ x, a1.eval (.func x) = .func (.func x) #[] #[] := fun _ => rfl); generalize a1.eval = ρ at *
      clear h2 h3
      go_simp <;> (intros; first | (exfalso; omega) | rfl)
    · intro vs p hI0 hp
      have hI := Roll.inw_pure (by decide) rfl hI0
      clear hI0
      have e9 : (Roll.putD Dsvb vs [] b0).eval (.tmp 9) = .int .i64 (tn : Int) := (Roll.eval_old rfl).trans (hlv.at 3 (9, .int .i64 (tn : Int)) rfl)
      clear hp hlv hN
      unfold Roll.Goes
      simp only [Lsvb, List.getD_cons_zero, List.getD_cons_succ]
      generalize Roll.putD Dsvb vs [] b0 = a1 at *
      refine Roll.goes_val (w' := p) (.int .i64 (tn : Int)) rfl ?_ ⟨(Roll.outw_pure (by decide) rfl), rfl⟩
      (have ec : ∀ x, a1.eval (.const x) = x := fun _ => rfl); (have ef : ∀ x, a1.eval (.func x) = .func (.func x) #[] #[] := fun _ => rfl); generalize a1.eval = ρ at *
      skip
      go_simp <;> (intros; first | (exfalso; omega) | rfl)
    · intro vs p hI0 hp
      have hI := Roll.inw_pure (by decide) rfl hI0
      clear hI0
      have h4 : (vs 4) = .pointer (some ⟨gk, wh * 64, none⟩) := hp 4 (by simp [Lsvb])
      have h5 : (vs 5) = .int .i64 (tn : Int) := hp 5 (by simp [Lsvb])
      have e36 : (Roll.putD Dsvb vs [4, 5] b0).eval (.tmp 36) = .pointer (some ⟨gk, wh * 64, none⟩) := (Roll.eval_new 4 rfl (by decide) (by decide) (by omega)).trans h4
      have e37 : (Roll.putD Dsvb vs [4, 5] b0).eval (.tmp 37) = .int .i64 (tn : Int) := (Roll.eval_new 5 rfl (by decide) (by decide) (by omega)).trans h5
      clear hp hlv hN
      unfold Roll.Goes
      simp only [Lsvb, List.getD_cons_zero, List.getD_cons_succ]
      generalize Roll.putD Dsvb vs [4, 5] b0 = a1 at *
      refine Roll.goes_val (w' := p) (.slice (some ⟨gk, wh * 64, none⟩) tn 64) rfl ?_ ⟨(Roll.outw_pure (by decide) rfl), rfl⟩
      (have ec : ∀ x, a1.eval (.const x) = x := fun _ => rfl); (have ef : ∀ x, a1.eval (.func x) = .func (.func x) #[] #[] := fun _ => rfl); generalize a1.eval = ρ at *
      clear h4 h5
      go_simp <;> (intros; first | (exfalso; omega) | rfl)
    · intro vs p hI0 hp
      have hI := Roll.inw_k0 rfl hI0
      clear hI0
      have h1 : (vs 1) = .slice (some ⟨gs, 0, none⟩) tn 64 := hp 1 (by simp [Lsvb])
      have h6 : (vs 6) = .slice (some ⟨gk, wh * 64, none⟩) tn 64 := hp 6 (by simp [Lsvb])
      have e33 : (Roll.putD Dsvb vs [1, 6] b0).eval (.tmp 33) = .slice (some ⟨gs, 0, none⟩) tn 64 := (Roll.eval_new 1 rfl (by decide) (by decide) (by omega)).trans h1
      have e38 : (Roll.putD Dsvb vs [1, 6] b0).eval (.tmp 38) = .slice (some ⟨gk, wh * 64, none⟩) tn 64 := (Roll.eval_new 6 rfl (by decide) (by decide) (by omega)).trans h6
      clear hp hlv hN
      unfold Roll.Goes
      simp only [Lsvb, List.getD_cons_zero, List.getD_cons_succ]
      generalize Roll.putD Dsvb vs [1, 6] b0 = a1 at *
      have hg : p.heap[gs]? = some (.cells (vals sB).toArray 76 (0, 0)) := hI.heap Hgs.out (fun h => h)
      have hrun := run_copy_row (P := Tryd.prog) p 34 34 3 5 gs 0 tn 64 ⟨gk, wh * 64, none⟩ tn 64 (vals sB).toArray 76 (vals (bw.take tn)) Tryd.underlying34 (by kernel_rfl) hg (by rw [vals_len, List.length_take, Hbw.out]; have := Htn.out; simp; omega) (fun j v hv => by
        rw [Addr.add_mid]
        refine (hI.cell (p := ⟨gk, wh * 64 + j, none⟩) Hgk.out (fun h => h)).trans (Hbr.out j v ?_)
        rw [show vals (bw.take tn) = (vals bw).take tn by simp [vals, List.map_take], List.getElem?_take] at hv
        split at hv
        · exact hv
        · cases hv) (by rw [vals_len, List.length_take, List.size_toArray, vals_len, Hsb.out]; omega) (vals_one _)
      rw [HNW.out] at hrun
      have hks : Kept (fun j => j = gs) p (p.setRow gs (vals (bw.take tn ++ sB.drop tn)).toArray) := (Kept.refl (fun j => j = gs) p).setRow (fun _ => rfl) _
      refine Roll.goes_val (w' := p.setRow gs (vals (bw.take tn ++ sB.drop tn)).toArray) (goInt (vals (bw.take tn)).length) rfl ?_ ⟨Roll.outw_k0 rfl ⟨setRow_heap p gs _ _ _ _ hg, (hI.mono (fun _ _ h => h.elim)).trans hks (fun _ _ h => h)⟩ hks, trivial⟩
      unfold execOp
      simp only [resolve, invoke, builtin, Sem.run_bind, Sem.run_pure, Result.andThen_ok, List.map_toArray, List.map_cons, List.map_nil, e33, e38, hrun]
  · intro vs p hI hR
    have h0 : (vs 0) = .int .i64 (tn : Int) := hR 0 (by omega)
    have h1 : (vs 1) = .slice (some ⟨gs, 0, none⟩) tn 64 := hR 1 (by omega)
    have h2 : (vs 2) = .slice (some ⟨gk, 0, none⟩) m c := hR 2 (by omega)
    have h3 : (vs 3) = .int .i64 (wh : Int) := hR 3 (by omega)
    have h4 : (vs 4) = .pointer (some ⟨gk, wh * 64, none⟩) := hR 4 (by omega)
    have h5 : (vs 5) = .int .i64 (tn : Int) := hR 5 (by omega)
    have h6 : (vs 6) = .slice (some ⟨gk, wh * 64, none⟩) tn 64 := hR 6 (by omega)
    have h7 : True := hR 7 (by omega)
    clear hR
    simp only [List.range_succ, List.range_zero, List.nil_append, List.cons_append, Roll.putD, Act.put, List.getD_cons_zero, List.getD_cons_succ, List.setIfInBounds_toArray, List.set_cons_zero, List.set_cons_succ, List.drop_succ_cons, List.drop_zero, Dsvb]
    simp only [h0, h1, h2, h3, h4, h5, h6]
    clear h0 h1 h2 h3 h4 h5 h6
    obtain ⟨hg, hK⟩ := hI
    have HGS := Lib.hid hg
    have HG6 := Lib.hid (hK.heap Hg6.out (by have := H7.out; omega))
    have HBB : Hid (Below w.heap.size w p) := Lib.hid (Hb5.out.trans (hK.below Hb5.out.size (fun j hj e => by have := H7.out; omega)))
    clear hg hK h7
    go_wp2_with (first
      | (refine wpList_load_row rfl 76 (.tmp 8) rfl gs rfl 76 _ (0, 0) _ HGS.out Tryd.underlying76 rfl (size64a HR64.out) ?_)
      | (refine wpList_store_row rfl 76 (.tmp 6) (.tmp 40) rfl g6 _ rfl rfl 76 Z64 HG6.out (size64a HR64.out) (by rw [cells64, List.size_toArray, vals_len, HR64.out]) (one64 _) ?_))
    refine bodyPost_ret (results_cell_row rfl _ _ g6 76 _ (0, 0) _ rfl (setRow_heap _ _ _ _ _ _ HG6.out) Tryd.underlying76 rfl (size64a HR64.out)) rfl ⟨by rw [HRV.out], below_setRow HBB.out H6.out _⟩
set_option maxRecDepth 100000 in
set_option maxHeartbeats 2000000 in
theorem survivor_c (w : World) (old : List UInt8) (hold : old.length = 64) (gk m c wh : Nat) (ts tw tb : Int) (hmc : m ≤ c) (hc2 : c ≤ 9223372036854775807) (tl : List (List UInt8)) (hm : tl.length = m) (h64 : ∀ b ∈ tl, b.length = 64) (hgk : gk < w.heap.size)
    (hrd : ∀ (i : Nat) (hi : i < tl.length), w.rangeAt gk (i * 64) (vals tl[i])) (W : Nat) (hmx : max tw 0 = (W : Int)) (hmn : min (W : Int) (m : Int) = (wh : Int)) (hw0 : 0 < wh) (hw1 : wh = m) :
    Calls Tryd.prog 31 #[.agg (vals old).toArray, .slice (some ⟨gk, 0, none⟩) m c, .agg #[.int .i64 ts, .int .i64 tw, .int .i64 tb]] w fun e w' => e = .returned (.agg (vals (tl.getD (wh - 1) [])).toArray) ∧ Below w.heap.size w w' := by
  obtain ⟨w4, hw4⟩ : ∃ w4, w4 = ((((w.alloc (.cells (vals old).toArray 76)).alloc (.cells #[.int .i64 ts, .int .i64 tw, .int .i64 tb] 73)).alloc (.cells Z64 76)).alloc (.cells Z64 76)).setRow (w.heap.size + 1 + 1 + 1) (vals old).toArray := ⟨_, rfl⟩
  have hb4 : Below w.heap.size w w4 := by
    rw [hw4]
    exact below_setRow (((((Below.refl _ _).alloc (Nat.le_refl _) _).alloc (by simp only [size_alloc1]; omega) _).alloc (by simp only [size_alloc1]; omega) _).alloc (by simp only [size_alloc1]; omega) _) (by omega) _
  have h4s : w4.heap[w.heap.size + 1 + 1 + 1]? = some (.cells (vals old).toArray 76 (0, 0)) := by rw [hw4]; exact setRow_heap _ _ _ _ _ _ (heap_new (by simp only [size_alloc1]))
  have h46 : w4.heap[w.heap.size + 1 + 1]? = some (.cells Z64 76 (0, 0)) := by rw [hw4, setRow_other _ _ _ _ (by omega)]; exact heap_old (heap_new (by simp only [size_alloc1]))
  have h41 : w4.heap[w.heap.size + 1]? = some (.cells #[.int .i64 ts, .int .i64 tw, .int .i64 tb] 73 (0, 0)) := by rw [hw4, setRow_other _ _ _ _ (by omega)]; exact heap_old (heap_old (heap_new (by simp only [size_alloc1])))
  have c41 : w4.cell? ⟨w.heap.size + 1, 2, none⟩ = some (.int .i64 tb) := by rw [cell_of_row _ _ _ _ _ _ h41]; rfl
  have Hw4 := Lib.hid hw4
  have Hb4 := Lib.hid hb4
  have H4s := Lib.hid h4s
  have H46 := Lib.hid h46
  have Hold := Lib.hid hold
  clear hw4 hb4 h4s h46 h41 hold
  obtain ⟨sB, hsB⟩ : ∃ sB, sB = tl.getD (wh - 1) [] := ⟨_, rfl⟩
  have hwp : wh - 1 < tl.length := by omega
  have hsB2 : tl[wh - 1] = sB := by rw [hsB, List.getD_eq_getElem?_getD, List.getElem?_eq_getElem hwp]; rfl
  have Hsb : Hid (sB.length = 64) := Lib.hid (by rw [← hsB2]; exact h64 _ (List.getElem_mem _))
  have Hbp : Hid (w4.rangeAt gk ((wh - 1) * 64) (vals sB)) := Lib.hid (fun j v hv => (Hb4.out.cell (p := ⟨gk, (wh - 1) * 64 + j, none⟩) hgk).trans (hrd (wh - 1) hwp j v (by rw [hsB2]; exact hv)))
  obtain ⟨w5, hw5⟩ : ∃ w5, w5 = w4.setRow (w.heap.size + 1 + 1 + 1) (vals sB).toArray := ⟨_, rfl⟩
  have Hb5 : Hid (Below w.heap.size w w5) := Lib.hid (by rw [hw5]; exact below_setRow Hb4.out (by omega) _)
  have Hgs : Hid (w5.heap[w.heap.size + 1 + 1 + 1]? = some (.cells (vals sB).toArray 76 (0, 0))) := Lib.hid (by rw [hw5]; exact setRow_heap _ _ _ _ _ _ H4s.out)
  have Hg6 : Hid (w5.heap[w.heap.size + 1 + 1]? = some (.cells Z64 76 (0, 0))) := Lib.hid (by rw [hw5, setRow_other _ _ _ _ (by omega)]; exact H46.out)
  have c51 : w5.cell? ⟨w.heap.size + 1, 2, none⟩ = some (.int .i64 tb) := by rw [hw5]; exact ((Kept.refl (fun j => j = w.heap.size + 1 + 1 + 1) w4).setRow (fun _ => rfl) _).cell (p := ⟨w.heap.size + 1, 2, none⟩) (block_lt_of_cell c41) (by simp) |>.trans c41
  have hp1 : (0 : Int) < (wh : Int) := by omega
  have Hw5 := Lib.hid hw5
  clear hw5 hsB2
  have Hgk4 : Hid (gk < w4.heap.size) := Lib.hid (Nat.lt_of_lt_of_le hgk Hb4.out.size)
  have hwm : (m : Int) ≤ (wh : Int) := by omega
  have hwm2 : (wh : Int) - 1 < (m : Int) := by omega
  obtain ⟨g6, hg6⟩ : ∃ g6, g6 = w.heap.size + 1 + 1 := ⟨_, rfl⟩
  obtain ⟨gs, hgs⟩ : ∃ gs, gs = w.heap.size + 1 + 1 + 1 := ⟨_, rfl⟩
  have H6 : Hid (w.heap.size ≤ g6) := Lib.hid (by omega)
  rw [← hgs] at Hgs
  rw [← hg6] at Hg6
  have Hgs1 := Lib.hid hgs
  have Hg61 := Lib.hid hg6
  have HR64 := Lib.hid Hsb.out
  have HGS := Lib.hid Hgs.out
  have HG6 := Lib.hid Hg6.out
  have HBB := Lib.hid Hb5.out
  have HRES : Hid ((vals sB).toArray = (vals (tl.getD (wh - 1) [])).toArray) := Lib.hid (by rw [hsB])
  obtain ⟨RV, hRV⟩ : ∃ RV, RV = (vals sB).toArray := ⟨_, rfl⟩
  rw [← HRES.out, ← hRV]
  have HRV := Lib.hid hRV
  clear hRV HRES
  have hw2 : wh = m := hw1
  clear hg6 hgs hsB hrd h64 hm hgk hw1 hw2
  go_enter Tryd.func31, Tryd.ntmps31
  go_upto_region 3 with (first
    | (refine wpList_max0 rfl (.tmp 11) 3 3 rfl tw (W : Int) rfl hmx ?_)
    | (refine wpList_min2 rfl (.tmp 12) (.tmp 14) 3 3 rfl (W : Int) (m : Int) (wh : Int) rfl rfl hmn ?_)
    | (refine wpList_alloc_z rfl 76 rfl Z64 76 run_alloc94 ?_)
    | (refine wpList_load_mid rfl 76 (.tmp 3) rfl w.heap.size 0 rfl (vals old) _ (range_row (heap_old (heap_old (heap_new rfl)))) Tryd.underlying76 rfl (size64v Hold.out) ?_)
    | (refine wpList_store_row rfl 76 (.tmp 8) (.tmp 16) rfl _ _ rfl rfl 76 Z64 (heap_new rfl) (size64a Hold.out) (by rw [cells64, List.size_toArray, vals_len, Hold.out]) (one64 _) ?_; simp only [size_alloc1]))
  rw [← Hw4.out]
  go_upto_region 5 with (first
    | (refine wpList_load_mid rfl 76 (.tmp 22) rfl gk ((wh - 1) * 64) rfl _ _ Hbp.out Tryd.underlying76 rfl (size64v Hsb.out) ?_)
    | (refine wpList_store_row rfl 76 (.tmp 8) (.tmp 23) rfl (w.heap.size + 1 + 1 + 1) _ rfl rfl 76 _ H4s.out (size64a Hsb.out) (by rw [List.size_toArray, List.size_toArray, vals_len, vals_len, Hold.out, Hsb.out]) (one64 _) ?_))
  rw [← Hw5.out]
  go_upto_region 8 with fail
  rw [← Hgs1.out, ← Hg61.out]
  go_wp2_with (first
    | (refine wpList_load_row rfl 76 (.tmp 8) rfl gs rfl 76 _ (0, 0) _ HGS.out Tryd.underlying76 rfl (size64a HR64.out) ?_)
    | (refine wpList_store_row rfl 76 (.tmp 6) (.tmp 40) rfl g6 _ rfl rfl 76 Z64 HG6.out (size64a HR64.out) (by rw [cells64, List.size_toArray, vals_len, HR64.out]) (one64 _) ?_))
  refine bodyPost_ret (results_cell_row rfl _ _ g6 76 _ (0, 0) _ rfl (setRow_heap _ _ _ _ _ _ HG6.out) Tryd.underlying76 rfl (size64a HR64.out)) rfl ⟨by rw [HRV.out], below_setRow HBB.out H6.out _⟩
end Go.Proofs.YthffegfcgmhppaaDoor
namespace Go.Proofs.YthffegfcgmhppaaDoor
open Go.RowKit
set_option linter.unusedSimpArgs false
set_option linter.unusedVariables false
theorem survivor_any (w : World) (old : List UInt8) (hold : old.length = 64) (tl : List (List UInt8)) (htl : tl ≠ []) (h64 : ∀ b ∈ tl, b.length = 64) (gk c : Nat) (t : TM) (hmc : tl.length ≤ c) (hc2 : c ≤ 9223372036854775807) (hgk : gk < w.heap.size)
    (hrd : ∀ (i : Nat) (hi : i < tl.length), w.rangeAt gk (i * 64) (vals tl[i])) :
    Calls Tryd.prog 31 #[.agg (vals old).toArray, .slice (some ⟨gk, 0, none⟩) tl.length c, .agg #[.int .i64 t.sector, .int .i64 t.writes, .int .i64 t.bytes]] w fun e w' => e = .returned (.agg (vals (surv (old :: tl) t.writes t.bytes)).toArray) ∧ Below w.heap.size w w' := by
  have hp := List.length_pos_iff.2 htl
  obtain ⟨m, hm⟩ : ∃ m, tl.length = m := ⟨_, rfl⟩
  obtain ⟨W, hW⟩ : ∃ W, W = t.writes.toNat := ⟨_, rfl⟩
  obtain ⟨wh, hwh⟩ : ∃ wh, wh = min W m := ⟨_, rfl⟩
  have hmx : max t.writes 0 = (W : Int) := by omega
  have hmn : min (W : Int) (m : Int) = (wh : Int) := by omega
  have hle : wh ≤ m := by omega
  have hS : surv (old :: tl) t.writes t.bytes = (match tl[wh]? with
      | some b => b.take (min t.bytes.toNat 64) ++ ((old :: tl).getD wh []).drop (min t.bytes.toNat 64)
      | none => (old :: tl).getD wh []) := by
    unfold surv
    rw [show min t.writes.toNat ((old :: tl).length - 1) = wh by simp only [List.length_cons, Nat.add_sub_cancel]; omega]
    simp only [List.getElem?_cons_succ]
    cases tl[wh]? <;> rfl
  rw [hm]
  by_cases h0 : wh = 0
  · have hq : tl[wh]? = some (tl.getD wh []) := by rw [List.getD_eq_getElem?_getD, List.getElem?_eq_getElem (by omega)]; rfl
    rw [hq] at hS
    have hg : (old :: tl).getD wh [] = old := by rw [h0]; rfl
    simp only [hg] at hS
    rw [hS]
    exact survivor_a w old hold gk m c wh t.sector t.writes t.bytes (by omega) hc2 tl hm h64 hgk hrd W hmx hmn h0 (by omega)
  · have hg : (old :: tl).getD wh [] = tl.getD (wh - 1) [] := by
      obtain ⟨j, rfl⟩ : ∃ j, wh = j + 1 := ⟨wh - 1, by omega⟩
      rfl
    by_cases h1 : wh < m
    · have hq : tl[wh]? = some (tl.getD wh []) := by rw [List.getD_eq_getElem?_getD, List.getElem?_eq_getElem (by omega)]; rfl
      rw [hq] at hS
      simp only [hg] at hS
      rw [hS]
      exact survivor_b w old hold gk m c wh t.sector t.writes t.bytes (by omega) hc2 tl hm h64 hgk hrd W hmx hmn (by omega) h1
    · have hq : tl[wh]? = none := List.getElem?_eq_none (by omega)
      rw [hq] at hS
      simp only [hg] at hS
      rw [hS]
      exact survivor_c w old hold gk m c wh t.sector t.writes t.bytes (by omega) hc2 tl hm h64 hgk hrd W hmx hmn (by omega) (by omega)
theorem heap_setCells_own {t : TypeId} {g : Nat} : ∀ (vs : List Value) (off : Nat) (w : World) (cur : Array Value), w.heap[g]? = some (.cells cur t (0, 0)) → off + vs.length ≤ cur.size →
    ∃ cur', (w.setCells g off vs).heap[g]? = some (.cells cur' t (0, 0)) ∧ cur'.size = cur.size ∧ cur'.toList = cur.toList.take off ++ vs ++ cur.toList.drop (off + vs.length)
  | [], off, w, cur, hg, hl => ⟨cur, hg, rfl, by simp⟩
  | v :: r, off, w, cur, hg, hl => by
    simp only [List.length_cons] at hl
    have h1 := heap_setCell_same w g off cur t v hg
    obtain ⟨cur', h2, h3, h4⟩ := heap_setCells_own r (off + 1) _ _ h1 (by simp; omega)
    refine ⟨cur', h2, by simpa using h3, ?_⟩
    rw [h4, Array.toList_setIfInBounds]
    have hlt : off < cur.toList.length := by simp; omega
    have e1 : (cur.toList.set off v).take (off + 1) = cur.toList.take off ++ [v] := by
      rw [List.take_succ_eq_append_getElem (by simpa using hlt), List.getElem_set_self, List.take_set_of_le (Nat.le_refl _)]
    have e2 : (cur.toList.set off v).drop (off + 1 + r.length) = cur.toList.drop (off + (r.length + 1)) := by
      rw [List.drop_set_of_lt (by omega), show off + 1 + r.length = off + (r.length + 1) by omega]
    rw [e1, e2]
    simp
theorem Kept.setCells {S : Nat → Prop} {g : Nat} : ∀ (vs : List Value) (off : Nat) {a w : World}, Kept S a w → (g < a.heap.size → S g) → Kept S a (w.setCells g off vs)
  | [], _, _, _, h, _ => h
  | v :: r, off, a, w, h, hp => Kept.setCells r (off + 1) (h.setCell (p := ⟨g, off, none⟩) hp v) hp
theorem take_splice {α : Type} (L vs : List α) (a m N : Nat) (hv : vs.length = m) (h1 : a + m ≤ N) (h2 : N ≤ L.length) : (L.take a ++ vs ++ L.drop (a + m)).take N = (L.take N).take a ++ vs ++ (L.take N).drop (a + m) := by
  rw [List.take_append, List.take_of_length_le (by simp; omega), List.take_take, Nat.min_eq_left (by omega), List.drop_take]
  congr 2
  simp
  omega
theorem DM.set_ok {d : DM} {N k : Nat} {b : List UInt8} (h : d.Ok N) (hk : k < d.S.length) (hb : b.length = 64) (on : Bool) (f : Nat) (hf : f ≤ 9223372036854775807) : DM.Ok ⟨d.S.set k [b], on, f⟩ N := by
  refine ⟨by simpa using h.1, by simpa using h.2.1, hf, fun s hs => ?_⟩
  simp only at hs
  rcases List.mem_or_eq_of_mem_set hs with hs | rfl
  · exact h.2.2.2 s hs
  · exact ⟨by simp, by simp, fun x hx => by rw [List.mem_singleton.1 hx]; exact hb⟩
/-- durable[k] = b; delete(unflushed, k) -/
theorem Dk.cut {w : World} {g gd gm : Nat} {row : Nat → Option Nat} {N : Nat} {d : DM} (h : Dk w g gd gm row N d) {k : Nat} (hk : k < d.S.length) {b : List UInt8} (hb : b.length = 64) {p : World} (hp : Kept (fun _ => False) (w.setCells gd (k * 64) (vals b)) p) :
    ∃ p2, (Builtin.delete_ #[56, 3] 0 #[.map (some gm), .int .i64 (k : Int)]).run Tryd.prog p = .ok (.tuple #[]) p2 ∧ Dk p2 g gd gm (rowSet row k none) N ⟨d.S.set k [b], d.on, d.fuse⟩ ∧ Kept (fun j => j = gd ∨ j = gm) w p2 ∧ Kept (fun j => j = gm) p p2 := by
  obtain ⟨n1, n2, n3, n4⟩ := h.g_ne
  obtain ⟨hok, ⟨cap, cur, h1, h2, h3, h4, h5, h6⟩, ⟨M, f, hm, hfd, hr⟩, hdom, hinj, hap⟩ := h
  have hn4 := hok.2.1
  have K1 : Kept (fun j => j = gd) w p := (Kept.setCells (vals b) (k * 64) (Kept.refl (fun j => j = gd) w) (fun _ => rfl)).trans hp (fun _ _ h => h.elim)
  obtain ⟨cur', c1, c2, c3⟩ := heap_setCells_own (vals b) (k * 64) w cur h2 (by rw [vals_len, hb, h5]; have := Nat.mul_le_mul_right 64 (show k + 1 ≤ cap by omega); omega)
  have c1 := hp.heap c1 (fun h => h)
  obtain ⟨p2, hrun, hm2, hk2, hs2⟩ := (hm.kept K1 (fun e => n3 e.symm)).del (P := Tryd.prog) Tryd.underlying56 Tryd.underlying3 (k : Int) (WalkArith.wf_i64 (by omega)) 0
  have K2 : Kept (fun j => j = gd ∨ j = gm) w p2 := (K1.mono fun j _ e => .inl e).trans hk2 (fun j _ e => .inr e)
  have h64 : ∀ x ∈ d.S.map dur, x.length = 64 := by
    intro x hx
    obtain ⟨s, hs, rfl⟩ := List.mem_map.1 hx
    obtain ⟨e1, _, e3⟩ := hok.2.2.2 s hs
    exact e3 _ (dur_mem e1)
  have hset : (d.S.set k [b]).map dur = (d.S.map dur).set k b := by rw [List.map_set]; rfl
  refine ⟨p2, hrun, ⟨DM.set_ok hok hk hb _ _ hok.2.2.1, ⟨cap, cur', ?_, ?_, ?_, h4, by rw [c2, h5], ?_⟩, ⟨_, _, hm2, ?_, ?_⟩, ?_, ?_, ?_⟩, K2, hk2⟩
  · rw [List.length_set]
    exact K2.heap h1 (fun e => by rcases e with e | e; exact n1 e; exact n2 e)
  · exact hk2.heap c1 n3
  · rw [List.length_set]; exact h3
  · rw [List.length_set, hset, c3, vals_len, hb, take_splice _ _ _ _ _ (by rw [vals_len, hb]) (by have := Nat.mul_le_mul_right 64 (show k + 1 ≤ d.S.length by omega); omega) (by rw [Array.length_toList, h5]; exact Nat.mul_le_mul_right 64 h3), h6, ← scells_set h64 k (by simpa using hk)]
  · intro j hj
    rw [List.length_set]
    by_cases e : j = (k : Int)
    · subst e; omega
    · rw [fdel_other _ e] at hj; exact hfd j hj
  · intro j hj
    have hj' : j < d.S.length := by rw [List.length_set] at hj; exact hj
    by_cases e : j = k
    · subst e
      refine .inl ⟨?_, fdel_same _ _, rowSet_same _ _ _⟩
      simp
    · have et : (d.S.set k [b])[j] = d.S[j] := List.getElem_set_ne (fun e2 => e e2.symm) _
      simp only [et, rowSet_other _ _ e, fdel_other f (show (j : Int) ≠ (k : Int) by omega)]
      rcases hr j hj' with h0 | ⟨h0, gk, v, hg, hv, hoo⟩
      · exact .inl h0
      · refine .inr ⟨h0, gk, v, hg, hv, hoo.kept K2 (fun j2 hj2 e2 => ?_)⟩
        cases hj2
        rcases e2 with e2 | e2
        · exact hap j gk hg e2
        · exact (n4 j gk hg).2 e2
  · intro i j hi
    rw [List.length_set]
    by_cases e : i = k
    · omega
    · rw [rowSet_other _ _ e] at hi; exact hdom i j hi
  · intro i j g' hi hj
    by_cases e : i = k
    · rw [e, rowSet_same] at hi; cases hi
    · by_cases e2 : j = k
      · rw [e2, rowSet_same] at hj; cases hj
      · rw [rowSet_other _ _ e] at hi
        rw [rowSet_other _ _ e2] at hj
        exact hinj i j g' hi hj
  · intro i g' hi
    by_cases e : i = k
    · rw [e, rowSet_same] at hi; cases hi
    · rw [rowSet_other _ _ e] at hi
      exact hap i g' hi
/-- clear(unflushed), all sectors having their durable bytes alone -/
theorem Dk.clear {w : World} {g gd gm : Nat} {row : Nat → Option Nat} {N : Nat} {d : DM} (h : Dk w g gd gm row N d) :
    ∃ p2, (Builtin.clear_ #[56] 0 #[.map (some gm)]).run Tryd.prog w = .ok (.tuple #[]) p2 ∧ Dk p2 g gd gm (fun _ => none) 0 ⟨d.S.map fun s => [dur s], d.on, d.fuse⟩ ∧ Kept (fun j => j = gm) w p2 ∧ p2.heap.size = w.heap.size := by
  obtain ⟨n1, n2, n3, n4⟩ := h.g_ne
  obtain ⟨hok, ⟨cap, cur, h1, h2, h3, h4, h5, h6⟩, ⟨M, f, hm, hfd, hr⟩, hdom, hinj, hap⟩ := h
  obtain ⟨p2, hrun, hm2, hk2, hs2⟩ := hm.clear (P := Tryd.prog) Tryd.underlying56 0
  have hset : (d.S.map fun s => [dur s]).map dur = d.S.map dur := by rw [List.map_map]; rfl
  refine ⟨p2, hrun, ⟨⟨by simpa using hok.1, by simpa using hok.2.1, hok.2.2.1, ?_⟩, ⟨cap, cur, ?_, ?_, ?_, h4, h5, ?_⟩, ⟨_, _, hm2, fun k h => absurd rfl h, fun j hj => .inl ⟨by simp, rfl, rfl⟩⟩, fun _ _ h => (by cases h), fun _ _ _ h => (by cases h), fun _ _ h => (by cases h)⟩, hk2, hs2⟩
  · intro s hs
    obtain ⟨s', hs', rfl⟩ := List.mem_map.1 hs
    obtain ⟨e1, _, e3⟩ := hok.2.2.2 s' hs'
    exact ⟨by simp, by simp, fun x hx => by rw [List.mem_singleton.1 hx]; exact e3 _ (dur_mem e1)⟩
  · rw [List.length_map]; exact hk2.heap h1 n2
  · exact hk2.heap h2 n3
  · rw [List.length_map]; exact h3
  · rw [List.length_map, hset]; exact h6
end Go.Proofs.YthffegfcgmhppaaDoor
namespace Go.Proofs.YthffegfcgmhppaaDoor
open Go.RowKit
set_option linter.unusedSimpArgs false
set_option linter.unusedVariables false
theorem surv_one {s : List (List UInt8)} (h : s ≠ []) (ht : s.tail = []) (wr by_ : Int) : [surv s wr by_] = s := by
  match s, h, ht with
  | [x], _, _ => simp [surv]
theorem firstOf_snoc (ts : List TM) (t : TM) (k : Nat) : firstOf (ts ++ [t]) k = (firstOf ts k).or (if t.sector = (k : Int) then some t else none) := by
  unfold firstOf
  rw [List.find?_append]
  congr 1
  by_cases h : t.sector = (k : Int)
  · simp [h]
  · simp [h]
theorem torn_get (S : List (List (List UInt8))) (ts : List TM) (k : Nat) (hk : k < S.length) (hk2 : k < (DM.torn S ts).length) : (DM.torn S ts)[k] = match firstOf ts k with | some t => [surv S[k] t.writes t.bytes] | none => S[k] := by
  simp only [DM.torn, List.getElem_mapIdx]
  cases firstOf ts k <;> rfl
theorem torn_skip {S : List (List (List UInt8))} (h0 : ∀ s ∈ S, s ≠ []) (ts : List TM) (t : TM) (h : ∀ (k : Nat) (hk : k < (DM.torn S ts).length), t.sector = (k : Int) → (DM.torn S ts)[k].tail = []) : DM.torn S (ts ++ [t]) = DM.torn S ts := by
  apply List.ext_getElem (by simp [DM.torn_len])
  intro k hk hk2
  have hkS : k < S.length := by simpa [DM.torn_len] using hk2
  rw [torn_get S _ k hkS, torn_get S ts k hkS]
  rw [firstOf_snoc]
  cases hf : firstOf ts k with
  | some t0 => simp
  | none =>
    by_cases hs : t.sector = (k : Int)
    · simp only [hs, if_true, Option.none_or]
      have := h k hk2 hs
      rw [torn_get S ts k hkS, hf] at this
      exact surv_one (h0 _ (List.getElem_mem hkS)) this _ _
    · simp [hs]
theorem torn_set {S : List (List (List UInt8))} (ts : List TM) (t : TM) (k : Nat) (hk : k < (DM.torn S ts).length) (hs : t.sector = (k : Int)) (ht : (DM.torn S ts)[k].tail ≠ []) : DM.torn S (ts ++ [t]) = (DM.torn S ts).set k [surv (DM.torn S ts)[k] t.writes t.bytes] := by
  have hkS : k < S.length := by simpa [DM.torn_len] using hk
  have hf : firstOf ts k = none := by
    cases hf : firstOf ts k with
    | none => rfl
    | some t0 => rw [torn_get S ts k hkS, hf] at ht; exact absurd rfl ht
  apply List.ext_getElem (by simp [DM.torn_len])
  intro j hj hj2
  have hjS : j < S.length := by simpa [DM.torn_len] using hj
  rw [torn_get S _ j hjS, firstOf_snoc, List.getElem_set]
  by_cases e : j = k
  · subst e
    rw [hf]
    simp only [hs, if_true, Option.none_or]
    rw [torn_get S ts j hkS, hf]
  · have e1 : ¬ t.sector = (j : Int) := by rw [hs]; omega
    have e2 : ¬ k = j := fun e2 => e e2.symm
    rw [if_neg e1, if_neg e2, Option.or_none, torn_get S ts j hjS]
theorem torn_nil (S : List (List (List UInt8))) : DM.torn S [] = S := by
  apply List.ext_getElem (by simp [DM.torn_len])
  intro k hk hk2
  rw [torn_get S [] k hk2]
  rfl
/-- elements that say what survives, in memory -/
def tcells (ts : List TM) : List Value := ts.flatMap fun t => [.int .i64 t.sector, .int .i64 t.writes, .int .i64 t.bytes]
def TOk (t : TM) : Prop := -9223372036854775808 ≤ t.sector ∧ t.sector ≤ 9223372036854775807
def Ts (D : Nat → Prop) (w : World) (a : Option Addr) (n c : Nat) (ts : List TM) : Prop := ts.length = n ∧ Sl D w a n c (tcells ts) 3 ∧ ∀ t ∈ ts, TOk t
theorem tcells_get (ts : List TM) (i j : Nat) (hi : i < ts.length) (hj : j < 3) : (tcells ts)[i * 3 + j]? = [Value.int .i64 ts[i].sector, .int .i64 ts[i].writes, .int .i64 ts[i].bytes][j]? := by
  unfold tcells
  induction ts generalizing i with
  | nil => simp at hi
  | cons t r ih =>
    rw [List.flatMap_cons]
    cases i with
    | zero =>
      rw [List.getElem?_append_left (by simpa using hj), Nat.zero_mul, Nat.zero_add]
      rfl
    | succ i =>
      rw [List.getElem?_append_right (by simp; omega), show (i + 1) * 3 + j - [Value.int .i64 t.sector, .int .i64 t.writes, .int .i64 t.bytes].length = i * 3 + j by simp; omega, ih i (by simpa using hi)]
      rfl
theorem Ts.kept {D S : Nat → Prop} {w w' : World} {a : Option Addr} {n c : Nat} {ts : List TM} (h : Ts D w a n c ts) (hk : Kept S w w') (hd : ∀ b, b < w.heap.size → D b → ¬ S b) : Ts D w' a n c ts := ⟨h.1, h.2.1.kept (by decide) hk hd, h.2.2⟩
theorem Ts.at {D : Nat → Prop} {w : World} {a : Option Addr} {n c : Nat} {ts : List TM} (h : Ts D w a n c ts) (hp : 0 < n) : ∃ b off, D b ∧ b < w.heap.size ∧ a = some ⟨b, off, none⟩ ∧ ∀ (i : Nat) (hi : i < ts.length), w.rangeAt b (off + i * 3) [.int .i64 ts[i].sector, .int .i64 ts[i].writes, .int .i64 ts[i].bytes] := by
  obtain ⟨h1, ⟨h2, h3, h4, h5, h6⟩, h7⟩ := h
  obtain ⟨b, off, hD, ha, hr⟩ := h6 hp
  refine ⟨b, off, hD, range_lt hr (by omega), ha, fun i hi j v hv => ?_⟩
  have hj : j < 3 := (List.getElem?_eq_some_iff.1 hv).1
  rw [Nat.add_assoc]
  exact hr (i * 3 + j) v (by rw [tcells_get ts i j hi hj]; exact hv)
section
variable {w : World} {g gd gm : Nat} {row : Nat → Option Nat} {N : Nat} {d : DM}
theorem Dk.lookNo (h : Dk w g gd gm row N d) (x : Int) (hx1 : -9223372036854775808 ≤ x) (hx2 : x ≤ 9223372036854775807) (hx : ∀ (k : Nat) (hk : k < d.S.length), x = (k : Int) → d.S[k].tail = []) (S : Nat → Prop) (p : World) (hS : ¬ S gm) (hK : Kept S w p) :
    (Instr.lookup 56 (.map (some gm)) (.int .i64 x) true).run Tryd.prog p = .ok (.tuple #[.slice none 0 0, .bool false]) p := by
  obtain ⟨M, f, hm, hf, hr⟩ := h.map
  have := (hm.kept hK hS).look (P := Tryd.prog) (t := 56) (kt := 3) (et := 55) (z := .slice none 0 0) Tryd.underlying56 Tryd.underlying3 (by kernel_rfl) x (WalkArith.wf_i64 (by omega)) true
  have hn : f x = none := by
    cases e : f x with
    | none => rfl
    | some v =>
      obtain ⟨h0, h1⟩ := hf x (by rw [e]; simp)
      obtain ⟨k, rfl⟩ : ∃ k : Nat, x = (k : Int) := ⟨x.toNat, by omega⟩
      rcases hr k (by omega) with ⟨_, h2, _⟩ | ⟨h2, _⟩
      · rw [h2] at e; cases e
      · exact absurd (hx k (by omega) rfl) h2
  rw [hn] at this
  exact this
theorem Dk.lookYes (h : Dk w g gd gm row N d) (k : Nat) (hk : k < d.S.length) (ht : d.S[k].tail ≠ []) : ∃ gk c, row k = some gk ∧ Own w 76 64 (some gk) (.slice (some ⟨gk, 0, none⟩) d.S[k].tail.length c) d.S[k].tail.length (scells d.S[k].tail) ∧ d.S[k].tail.length ≤ c ∧ c ≤ 9223372036854775807 ∧ ∀ (S : Nat → Prop) (p : World), ¬ S gm → Kept S w p →
    (Instr.lookup 56 (.map (some gm)) (.int .i64 (k : Int)) true).run Tryd.prog p = .ok (.tuple #[.slice (some ⟨gk, 0, none⟩) d.S[k].tail.length c, .bool true]) p := by
  obtain ⟨M, f, hm, hf, hr⟩ := h.map
  have hn4 := h.ok.2.1
  rcases hr k hk with ⟨h0, _, _⟩ | ⟨h0, gk, v, hrow, hfk, ho⟩
  · exact absurd h0 ht
  · have ho2 := ho
    obtain ⟨c, rfl, hc1, hc2, _⟩ := ho2.secs (fun b hb => (h.ok.2.2.2 _ (List.getElem_mem hk)).2.2 b (List.mem_of_mem_tail hb)) rfl
    refine ⟨gk, c, hrow, ho, hc1, hc2, fun S p hS hK => ?_⟩
    have := (hm.kept hK hS).look (P := Tryd.prog) (t := 56) (kt := 3) (et := 55) (z := .slice none 0 0) Tryd.underlying56 Tryd.underlying3 (by kernel_rfl) (k : Int) (WalkArith.wf_i64 (by omega)) true
    rw [hfk] at this
    exact this
end
end Go.Proofs.YthffegfcgmhppaaDoor

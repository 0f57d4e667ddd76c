/-
  Texts R4, LD, LG, LH, LI, LK, Q0, Q1, one behind the other.
-/
import Derived.Orders
import Derived.Tactics
import Derived.Deep.MidRow
import Derived.WalkKit
import Derived.WalkSpells
import Derived.WalkLawsBesides
import Derived.Laws.AppendOwn
import Derived.Laws.OwnMore
import Derived.Deep.AppendSrc
import Derived.Lib.Hide
import Derived.Deep.QuietTactic
import Derived.BigQuiet
import GoSem.Claim
import Derived.Maps.RangeRun
import Derived.Maps.Range
import Derived.Maps.OwnOps
import Derived.Maps.RangeWalk
import Derived.Deep.Cut
import Derived.Deep.RegionWith
import Derived.Deep.DrawnRows
import Derived.StillTailTactics
import Derived.Carry
import Derived.Laws.CopyOwn
import Derived.Lib.AppendZerosOnto
import Derived.Laws.BytesString
import Derived.Laws.AppendOwnNone
import Derived.ProofKit
import Derived.OpenShut
import Derived.Deep.Slices
import Derived.Deep.Fields
import Derived.JoinedCond
import Derived.Laws.ShiftsVarLaws
import Derived.Laws.BitsAllLaws
import Derived.Laws.ResultCell
import Derived.Test.YthffegfcgmhppaaRows
import Derived.Test.YthffegfcgmhppaaZJ105
namespace Go.Proofs.Ythffegfcgmhppaa.Roll
variable {P : Program} {ops : Array Oper} {Q : Exit → Act → World → Prop}
/-- the operations from n on come last, each behind the one before it -/
def tailOk2 (ops : Array Oper) (n : Nat) : Bool := (List.range ops.size).all fun k => decide (k < n) || match ops[k]? with | none => true | some o => ((List.range n).all fun i => (ahead o).contains i) && (decide (k ≤ n) || (ahead o).contains (k - 1))
theorem tail_ahead2 {n k : Nat} {o : Oper} (h : tailOk2 ops n = true) (ho : ops[k]? = some o) (hk : n ≤ k) : (∀ i, i < n → i ∈ ahead o) ∧ (n < k → k - 1 ∈ ahead o) := by
  have hlt : k < ops.size := (Array.getElem?_eq_some_iff.1 ho).1
  have h1 := List.all_eq_true.1 h k (List.mem_range.2 hlt)
  simp only [ho, Bool.or_eq_true, Bool.and_eq_true, decide_eq_true_eq] at h1
  have h2 := h1.resolve_left (by omega)
  refine ⟨fun i hi => by simpa using List.all_eq_true.1 h2.1 i (List.mem_range.2 hi), fun hk2 => ?_⟩
  have h3 := h2.2.resolve_left (by omega)
  simpa using h3
theorem wpAny_tail2 (hb : backOk ops = true) {n : Nat} (ht : tailOk2 ops n = true) : ∀ (fuel m : Nat) (listed : Array Bool) (a : Act) (w : World), n ≤ m → m ≤ ops.size → ops.size - m ≤ fuel → listed.size = ops.size →
    (∀ j : Nat, j < m → listed[j]? = some true) → (∀ j : Nat, m ≤ j → j < ops.size → listed[j]? = some false) → wpList P ops Q (ops.toList.drop m) a w → wpAny P .any ops Q fuel listed a w := by
  intro fuel
  induction fuel with
  | zero =>
    intro m listed a w hn hm hf hl h1 h2 h
    have : m = ops.size := by omega
    subst this
    rw [List.drop_of_length_le (by simp)] at h
    refine ⟨?_, h⟩
    cases hr : Region.ready .any ops listed with
    | nil => rfl
    | cons x r =>
      have hx : x ∈ Region.ready .any ops listed := by rw [hr]; exact List.mem_cons_self
      obtain ⟨hu, o, ho, _⟩ := mem_ready.1 hx
      have := h1 x (Array.getElem?_eq_some_iff.1 ho).1
      rw [unlisted_of_getD hu] at this
      cases this
  | succ fuel ih =>
    intro m listed a w hn hm hf hl h1 h2 h
    by_cases hms : m = ops.size
    · subst hms
      rw [List.drop_of_length_le (by simp)] at h
      refine ⟨fun _ => h, fun x hx => ?_⟩
      obtain ⟨hu, o, ho, _⟩ := mem_ready.1 hx
      have := h1 x (Array.getElem?_eq_some_iff.1 ho).1
      rw [unlisted_of_getD hu] at this
      cases this
    · have hlt : m < ops.size := by omega
      have hom : ops[m]? = some ops[m] := Array.getElem?_eq_getElem hlt
      refine ⟨fun hr => ?_, fun k hk => ?_⟩
      · have := ready_least rfl hb hl hr m hlt
        rw [h2 m (Nat.le_refl _) hlt] at this
        cases this
      · obtain ⟨hu, o, ho, hedge⟩ := mem_ready.1 hk
        have hku := unlisted_of_getD hu
        have hklt : k < ops.size := (Array.getElem?_eq_some_iff.1 ho).1
        have hkm : m ≤ k := by
          rcases Nat.lt_or_ge k m with hx | hx
          · rw [h1 k hx] at hku; cases hku
          · exact hx
        have hk : k = m := by
          rcases Nat.lt_or_ge m k with hx | hx
          · obtain ⟨e, he, hbd, hon⟩ := ahead_of_edge ((tail_ahead2 ht ho (by omega)).2 (by omega))
            have := listed_of_getD (hedge e he hbd)
            rw [hon, h2 (k - 1) (by omega) (by omega)] at this
            cases this
          · omega
        subst hk
        rw [List.drop_eq_getElem_cons (by simpa using hlt)] at h
        unfold wpList at h
        unfold wpOp
        simp only [hom]
        simp only [Array.getElem_toList] at h
        have next : ∀ a' w', wpList P ops Q (ops.toList.drop (k + 1)) a' w' → wpAny P .any ops Q fuel (listed.setIfInBounds k true) a' w' := by
          intro a' w' h'
          refine ih (k + 1) _ a' w' (by omega) hlt (by omega) (by rw [Array.size_setIfInBounds]; exact hl) ?_ ?_ h'
          · intro j hj
            rw [set_get hku]
            split
            · rfl
            · exact h1 j (by omega)
          · intro j hj hjs
            rw [set_get hku, if_neg (by omega)]
            exact h2 j (by omega) hjs
        split
        · rename_i hw
          rw [if_pos hw] at h
          exact h.imp (Oper.wp_mono next) id
        · rename_i hw
          rw [if_neg hw] at h
          exact next _ _ h
theorem wpAny_heldv (hb : backOk ops = true) (hap : apartB ops = true) {L : List (List Nat)} (hlo : looksOk ops L = true) {n : Nat} (hnle : n ≤ ops.size) (htl : tailOk2 ops n = true) {I0 : World → Prop} {I1 : Value → World → Prop} {J : World → Prop} {k0 : Nat} {PL : List Bool} {S : World → World → Prop} {R : Nat → (Nat → Value) → World → Prop} {a0 : Act}
    (hsz : ∀ j t, slot ops j = some t → t < a0.tmps.size)
    (hS : ∀ j v w w', S w w' → R j v w → R j v w') (hC : ∀ j v v' w, (∀ i, i = j ∨ i ∈ L.getD j [] → v i = v' i) → R j v w → R j v' w) (hk0 : k0 < n) (hPL : ∀ (o : Oper) (k : Nat), ops[k0]? = some o → k < n → k ≠ k0 → PL.getD k false = true ∨ aheadB ops 12 k0 k = true) (hJ0 : ∀ w, I0 w → J w) (hJ1 : ∀ u w, I1 u w → J w) (hS0 : ∀ w, S w w)
    (hop : ∀ (k : Nat) (o : Oper), k < n → ops[k]? = some o → Doesw P ops L I0 I1 J k0 PL S R a0 k o)
    (hend : ∀ (vals : Nat → Value) (w : World), I1 (vals k0) w → (∀ j : Nat, j < n → R j vals w) → wpList P ops Q (ops.toList.drop n) (putOf ops vals (List.range n) a0) w) :
    ∀ (fuel : Nat) (listed : Array Bool) (vals : Nat → Value) (a : Act) (w : World), listed.toList.count false ≤ fuel → (∀ j : Nat, n ≤ j → j < ops.size → listed[j]? = some false) → Heldw ops I0 I1 k0 R a0 vals listed a w → wpAny P .any ops Q fuel listed a w := by
  have slot_lt : ∀ {j t : Nat}, slot ops j = some t → j < ops.size := by
    intro j t hj
    unfold slot at hj
    cases hk : ops[j]? with
    | none => rw [hk] at hj; cases hj
    | some o => exact (Array.getElem?_eq_some_iff.1 hk).1
  have fin : ∀ (fuel : Nat) (listed : Array Bool) (vals : Nat → Value) (a : Act) (w : World), listed.toList.count false ≤ fuel → (∀ j : Nat, n ≤ j → j < ops.size → listed[j]? = some false) → Heldw ops I0 I1 k0 R a0 vals listed a w → (∀ j : Nat, j < n → listed[j]? = some true) → wpAny P .any ops Q fuel listed a w := by
    intro fuel listed vals a w hc hun h hall
    have e : a = putOf ops vals (List.range n) a0 := by
      have et : a.tmps = (putOf ops vals (List.range n) a0).tmps := by
        refine Array.ext_getElem? fun t => ?_
        by_cases hx : ∃ j : Nat, j < n ∧ slot ops j = some t
        · obtain ⟨j, hjn, hj⟩ := hx
          rw [h.new j t (hall j hjn) hj, putOf_mem hap vals _ _ j t (List.mem_range.2 hjn) hj (hsz j t hj)]
        · rw [h.old t (fun j hj e => ?_), putOf_other ops vals _ _ t (fun j hj e => hx ⟨j, List.mem_range.1 hj, e⟩)]
          rcases Nat.lt_or_ge j n with hjn | hjn
          · exact hx ⟨j, hjn, e⟩
          · rw [hun j hjn (slot_lt e)] at hj; cases hj
      have ed : a.defers = (putOf ops vals (List.range n) a0).defers := by rw [putOf_defers]; exact h.defers
      cases a
      generalize putOf ops vals (List.range n) a0 = b at *
      cases b
      simp_all
    have hcnt : ops.size - n ≤ fuel := by
      refine Nat.le_trans ?_ hc
      have h1 : (listed.toList.drop n).count false = ops.size - n := by
        rw [List.count_eq_length.2]
        · simp [h.len]
        · intro b hb'
          obtain ⟨i, hi, rfl⟩ := List.mem_iff_getElem.1 hb'
          simp only [List.length_drop, Array.length_toList] at hi
          have := hun (n + i) (by omega) (by rw [← h.len]; omega)
          rw [Array.getElem?_eq_getElem (by omega)] at this
          simpa using (Option.some.inj this).symm
      rw [← h1]
      exact (List.drop_sublist n _).count_le false
    exact wpAny_tail2 hb htl fuel n listed a w (Nat.le_refl _) hnle hcnt h.len hall hun (e ▸ hend vals w (h.inv.1 (hall k0 hk0)) (fun j hj => h.got j (hall j hj)))
  intro fuel
  induction fuel with
  | zero =>
    intro listed vals a w hc hun h
    refine fin 0 listed vals a w hc hun h fun j hj => ?_
    have hjl : j < listed.size := by rw [h.len]; omega
    rw [Array.getElem?_eq_getElem hjl]
    have h0 : listed.toList.count false = 0 := by omega
    have := List.count_eq_zero.1 h0
    cases hv : listed[j] with
    | true => rfl
    | false => exact (this (hv ▸ (by simp))).elim
  | succ fuel ih =>
    intro listed vals a w hc hun h
    by_cases hall : ∀ j : Nat, j < n → listed[j]? = some true
    · exact fin _ listed vals a w hc hun h hall
    refine ⟨fun hr => (hall fun j hj => ready_least rfl hb h.len hr j (by omega)).elim, fun k hk => ?_⟩
    obtain ⟨hu, o, ho, hedge⟩ := mem_ready.1 hk
    have hku := unlisted_of_getD hu
    have hklt : k < ops.size := (Array.getElem?_eq_some_iff.1 ho).1
    have hkn : k < n := by
      rcases Nat.lt_or_ge k n with hx | hx
      · exact hx
      · exact (hall fun j hj => by
          obtain ⟨e, he, hbd, hon⟩ := ahead_of_edge ((tail_ahead2 htl ho hx).1 j hj)
          exact hon ▸ listed_of_getD (hedge e he hbd)).elim
    have hah : ∀ i ∈ ahead o, listed[i]? = some true := by
      intro i hi
      obtain ⟨e, he, rfl⟩ := List.mem_map.1 hi
      obtain ⟨h1, h2⟩ := List.mem_filter.1 he
      exact listed_of_getD (hedge e (by simpa using h1) h2)
    have hlk := List.all_eq_true.1 hlo k (List.mem_range.2 hklt)
    simp only [ho, Bool.and_eq_true] at hlk
    obtain ⟨⟨hsel, hpre⟩, hlk⟩ := hlk
    have hpre' : ∀ i ∈ L.getD k [], i ∈ ahead o := fun i hi => by simpa using List.all_eq_true.1 hpre i hi
    have hsame : ∀ t ∈ o.looksAt ops, a.tmps[t]? = (putOf ops vals (L.getD k []) a0).tmps[t]? := by
      intro t ht
      have h1 := List.all_eq_true.1 hlk t ht
      by_cases hx : ∃ j : Nat, listed[j]? = some true ∧ slot ops j = some t
      · obtain ⟨j, hj, hjt⟩ := hx
        have hjlt : j < ops.size := by rw [← h.len]; exact (Array.getElem?_eq_some_iff.1 hj).1
        have h2 := List.all_eq_true.1 h1 j (List.mem_range.2 hjlt)
        have hoj : ops[j]? = some ops[j] := Array.getElem?_eq_getElem hjlt
        simp only [hoj, Bool.or_eq_true, bne_iff_ne, ne_eq, List.contains_eq_mem, decide_eq_true_eq] at h2
        have hjin : j ∈ L.getD k [] := by
          rcases h2 with (h2 | h2) | h2
          · exact (h2 hjt).elim
          · exact h2
          · have := h.closed j _ hoj hj k h2
            rw [hku] at this; cases this
        rw [h.new j t hj hjt, putOf_mem hap vals _ _ j t hjin hjt (hsz j t hjt)]
      · rw [h.old t (fun j hj e => hx ⟨j, hj, e⟩), putOf_other ops vals _ _ t (fun j hj e => hx ⟨j, hah j (hpre' j hj), e⟩)]
    have hk0l : k0 < listed.size := by rw [h.len]; omega
    have hsd := Array.getElem?_eq_getElem hk0l
    have hJ : J w := by
      cases hv : listed[k0] with
      | true => rw [hv] at hsd; exact hJ1 _ _ (h.inv.1 hsd)
      | false => rw [hv] at hsd; exact hJ0 _ (h.inv.2 hsd)
    have hph : k = k0 ∨ PL.getD k false = true ∨ listed[k0]? = some false := by
      by_cases e : k = k0
      · exact .inl e
      · have hok0 : ops[k0]? = some ops[k0] := Array.getElem?_eq_getElem (by omega)
        rcases hPL _ k hok0 hkn e with hp | hp
        · exact .inr (.inl hp)
        · refine .inr (.inr ?_)
          cases hv : listed[k0] with
          | false => rw [hsd, hv]
          | true =>
            rw [hv] at hsd
            have := closedB h.closed 12 k0 k hp hsd
            rw [hku] at this; cases this
    have hd := hop k o hkn ho vals w (by
      unfold Inw
      by_cases e : k = k0
      · rw [if_pos e]; subst e; exact h.inv.2 hku
      · rw [if_neg e]
        split
        · exact hJ
        · rename_i hnp
          rcases hph with hp | hp | hp
          · exact (e hp).elim
          · exact (hnp hp).elim
          · exact h.inv.2 hp) (fun j hj => h.got j (hah j (hpre' j hj)))
    have hdst : slot ops k = o.dst := by unfold slot; rw [ho]; rfl
    refine wpOp_mono ?_ (wpOp_of_list (Q := Q) (a := a) ho ?_ ?_ (exec_congr (fun cs c e => ?_) hsame) (wanted_congr hsame) hd)
    · rintro a' w' ⟨v, rfl, hO, hR⟩
      have hSw : S w w' := by
        unfold Outw at hO
        split at hO
        · exact hO.2
        · split at hO
          · rw [hO]; exact hS0 w
          · exact hO.2
      refine ih (listed.setIfInBounds k true) (upd vals k (if o.dst.isSome then v else undef)) _ w' (by have := count_set hku; omega) (fun j hj hjs => by rw [set_get hku, if_neg (by omega)]; exact hun j hj hjs) ?_
      refine ⟨?_, ?_, ?_, ?_, ?_, ?_, ?_, ?_⟩
      · by_cases e : k = k0
        · subst e
          unfold Outw at hO
          rw [if_pos rfl] at hO
          refine ⟨fun _ => ?_, fun hf => ?_⟩
          · rw [upd_same]; exact hO.1
          · rw [set_get hku, if_pos rfl] at hf; cases hf
        · unfold Outw at hO
          rw [if_neg e] at hO
          have e2 : k0 ≠ k := fun h => e h.symm
          refine ⟨fun ht => ?_, fun hf => ?_⟩
          · rw [set_get hku, if_neg e2] at ht
            rw [upd_other e2]
            split at hO
            · rw [hO]; exact h.inv.1 ht
            · rename_i hnp
              rcases hph with hp | hp | hp
              · exact (e hp).elim
              · exact (hnp hp).elim
              · rw [ht] at hp; cases hp
          · rw [set_get hku, if_neg e2] at hf
            split at hO
            · rw [hO]; exact h.inv.2 hf
            · exact hO.1
      · rw [Array.size_setIfInBounds]; exact h.len
      · rw [← h.defers]; cases o.dst <;> rfl
      · rw [← h.size]; cases o.dst <;> simp [Act.put]
      · intro j oj hoj hj i hi
        rw [set_get hku] at hj ⊢
        by_cases ei : i = k
        · rw [if_pos ei]
        · rw [if_neg ei]
          by_cases ej : j = k
          · subst ej
            rw [ho] at hoj; cases hoj
            exact hah i hi
          · rw [if_neg ej] at hj
            exact h.closed j oj hoj hj i hi
      · intro t ht
        have hne : o.dst ≠ some t := by rw [← hdst]; exact ht k (by rw [set_get hku, if_pos rfl])
        rw [put_get_ne hne]
        refine h.old t fun j hj => ht j ?_
        rw [set_get hku]; split <;> first | rfl | exact hj
      · intro j t hj hjt
        rw [set_get hku] at hj
        by_cases ej : j = k
        · subst ej
          rw [hdst] at hjt
          rw [hjt, put_get_eq (by rw [h.size]; exact hsz j t (by rw [hdst]; exact hjt)), upd_same]
          simp
        · rw [if_neg ej] at hj
          rw [upd_other ej]
          have hne : o.dst ≠ some t := by
            intro e
            exact ej (apart_inj hap hjt (by rw [hdst]; exact e))
          rw [put_get_ne hne]
          exact h.new j t hj hjt
      · intro j hj
        rw [set_get hku] at hj
        by_cases ej : j = k
        · subst ej
          exact hR
        · rw [if_neg ej] at hj
          have hjlt : j < ops.size := by rw [← h.len]; exact (Array.getElem?_eq_some_iff.1 hj).1
          have hoj : ops[j]? = some ops[j] := Array.getElem?_eq_getElem hjlt
          have hlj := List.all_eq_true.1 hlo j (List.mem_range.2 hjlt)
          simp only [hoj, Bool.and_eq_true] at hlj
          refine hC j vals _ w' (fun i hi => ?_) (hS j _ w w' hSw (h.got j hj))
          have hik : i ≠ k := by
            rcases hi with rfl | hi
            · exact ej
            · intro e
              have h1 : i ∈ ahead ops[j] := by simpa using List.all_eq_true.1 hlj.1.2 i hi
              have h2 := h.closed j _ hoj hj i h1
              rw [e, hku] at h2; cases h2
          rw [upd_other hik]
    · intro hnone v u w'
      unfold resg
      rw [hnone]
      exact id
    · intro t ht
      rw [putOf_size]
      exact hsz k t (by rw [hdst]; exact ht)
    · rw [e] at hsel; cases hsel
/-- the checks -/
def regOk2 (ops : Array Oper) (D : List (Option Tmp)) (L : List (List Nat)) (n N : Nat) : Bool := decide (n ≤ ops.size) && tailOk2 ops n && backOk ops && apartB ops && looksOk ops L &&
  ((List.range ops.size).all fun j => match slot ops j with | some t => decide (t < N) | none => true) && ((List.range ops.size).all fun j => slot ops j == D.getD j none) &&
  (List.range ops.size).all fun k => match (ops[k]?).bind (·.guard) with | none => true | some (g, _) => (L.getD k []).contains g && (D.getD g none).isSome
theorem region_anyv {id : Nat} {l : List Oper} {a0 : Act} {w0 : World} (n : Nat) (D : List (Option Tmp)) (L : List (List Nat)) (I0 : World → Prop) (I1 : Value → World → Prop) (J : World → Prop) (k0 : Nat) (PL : List Bool) (S : World → World → Prop) (R : Nat → (Nat → Value) → World → Prop) (hm : P.follows .mixedOrders = true)
    (hok : regOk2 l.toArray D L n a0.tmps.size = true) (h0 : I0 w0.drew) (hk0 : k0 < n) (hPL : (List.range n).all (fun k => k == k0 || PL.getD k false || aheadB l.toArray 12 k0 k) = true) (hJ0 : ∀ w, I0 w → J w) (hJ1 : ∀ u w, I1 u w → J w) (hS0 : ∀ w, S w w)
    (hS : ∀ j v w w', S w w' → R j v w → R j v w') (hC : ∀ j v v' w, (∀ i, i = j ∨ i ∈ L.getD j [] → v i = v' i) → R j v w → R j v' w)
    (hop : OwesAllw P D L I0 I1 J k0 PL S R a0 0 n l)
    (hend : ∀ (vals : Nat → Value) (w : World), I1 (vals k0) w → (∀ j : Nat, j < n → R j vals w) → wpList P l.toArray Q (l.drop n) (putD D vals (List.range n) a0) w) :
    (Code.region id l.toArray true).wp P Q a0 w0 := by
  simp only [regOk2, Bool.and_eq_true] at hok
  obtain ⟨⟨⟨⟨⟨⟨⟨hnle, htl⟩, hb⟩, hap⟩, hlo⟩, hsz⟩, hD⟩, hgd⟩ := hok
  have hnle' := of_decide_eq_true hnle
  have slot_lt : ∀ {j t : Nat}, slot l.toArray j = some t → j < l.toArray.size := by
    intro j t hj
    unfold slot at hj
    cases hk : l.toArray[j]? with
    | none => rw [hk] at hj; cases hj
    | some o => exact (Array.getElem?_eq_some_iff.1 hk).1
  have hsz' : ∀ j t, slot l.toArray j = some t → t < a0.tmps.size := by
    intro j t hj
    have h1 := List.all_eq_true.1 hsz j (List.mem_range.2 (slot_lt hj))
    simp only [hj] at h1
    exact of_decide_eq_true h1
  have hD' : ∀ j, j < l.toArray.size → slot l.toArray j = D.getD j none := fun j hj => by simpa using List.all_eq_true.1 hD j (List.mem_range.2 hj)
  refine wp_region_any hm ?_
  refine wpAny_heldv hb hap hlo hnle' htl (I0 := I0) (I1 := I1) (J := J) (k0 := k0) (PL := PL) (S := S) (R := R) (a0 := a0) hsz' hS hC hk0 (fun o k ho hk hne => ?_) hJ0 hJ1 hS0 (fun k o hk ho => ?_) (fun vals w hI hR => ?_) _ _ (fun _ => undef) a0 _ ?_ ?_ ?_
  · have h1 := List.all_eq_true.1 hPL k (List.mem_range.2 hk)
    simp only [Bool.or_eq_true, beq_iff_eq] at h1
    rcases h1 with (h1 | h1) | h1
    · exact (hne h1).elim
    · exact .inl h1
    · exact .inr h1
  · have hklt : k < l.toArray.size := (Array.getElem?_eq_some_iff.1 ho).1
    have h1 := owes_of_allw l 0 n hop k o hk (by simpa using ho)
    rw [Nat.zero_add] at h1
    have hlk := List.all_eq_true.1 hlo k (List.mem_range.2 hklt)
    simp only [ho, Bool.and_eq_true] at hlk
    refine does_of_owesw hD' (fun j hj => ?_) hap hsz' (fun g want hg => ?_) h1
    · have h2 : j ∈ ahead o := by simpa using List.all_eq_true.1 hlk.1.2 j hj
      have h3 := List.all_eq_true.1 hb k (List.mem_range.2 hklt)
      simp only [ho] at h3
      have := of_decide_eq_true (List.all_eq_true.1 h3 j h2)
      omega
    · have h2 := List.all_eq_true.1 hgd k (List.mem_range.2 hklt)
      simp only [ho, Option.bind_some, hg, Bool.and_eq_true] at h2
      have hgl : g ∈ L.getD k [] := by simpa using h2.1
      refine ⟨hgl, ?_⟩
      have h4 : g ∈ ahead o := by simpa using List.all_eq_true.1 hlk.1.2 g hgl
      have h3 := List.all_eq_true.1 hb k (List.mem_range.2 hklt)
      simp only [ho] at h3
      have := of_decide_eq_true (List.all_eq_true.1 h3 g h4)
      rw [hD' g (by omega)]; exact h2.2
  · rw [putD_eq hD' vals _ _ (fun j hj => by have := List.mem_range.1 hj; omega)]
    exact hend vals w hI hR
  · simp
  · intro j _ hj
    rw [Array.getElem?_replicate, if_pos hj]
  · refine ⟨⟨fun hf => ?_, fun _ => h0⟩, by simp, rfl, rfl, ?_, fun _ _ => rfl, ?_, ?_⟩
    · rw [Array.getElem?_replicate] at hf
      split at hf <;> simp at hf
    · intro j o _ hj
      rw [Array.getElem?_replicate] at hj
      split at hj <;> simp at hj
    · intro j t hj
      rw [Array.getElem?_replicate] at hj
      split at hj <;> simp at hj
    · intro j hj
      rw [Array.getElem?_replicate] at hj
      split at hj <;> simp at hj
/-- A REGION THAT DRAWS ITS ORDER, in which operation k0 alone writes what others may see. I0: what holds ahead of it; I1: behind it, of its result; J: throughout. -/
theorem region_v {id : Nat} {l : List Oper} {a0 : Act} {w0 : World} (n N : Nat) (D : List (Option Tmp)) (L : List (List Nat)) (LV : List (Nat × Value)) (k0 : Nat) (PL : List Bool) (I0 : World → Prop) (I1 : Value → World → Prop) (J : World → Prop) (S : World → World → Prop) (RL : List ((Nat → Value) → World → Prop)) (hm : P.follows .mixedOrders = true)
    (hok : regOk2 l.toArray D L n N = true) (hN : a0.tmps.size = N) (hLV : Lives a0 LV) (h0 : I0 w0.drew) (hk0 : k0 < n)
    (hPL : (List.range n).all (fun k => k == k0 || PL.getD k false || aheadB l.toArray 12 k0 k) = true) (hJ0 : ∀ w, I0 w → J w) (hJ1 : ∀ u w, I1 u w → J w) (hS0 : ∀ w, S w w) (hS : Stabg S RL)
    (hop : ∀ b0 : Act, b0.tmps.size = N → Lives b0 LV → OwesAllw P D L I0 I1 J k0 PL S (atg L RL) b0 0 n l)
    (hend : ∀ (vals : Nat → Value) (w : World), I1 (vals k0) w → (∀ j : Nat, j < n → atg L RL j vals w) → wpList P l.toArray Q (l.drop n) (putD D vals (List.range n) a0) w) :
    (Code.region id l.toArray true).wp P Q a0 w0 := by
  refine region_anyv n D L I0 I1 J k0 PL S (atg L RL) hm (hN ▸ hok) h0 hk0 hPL hJ0 hJ1 hS0 (fun j v w w' hs h => hS.get j _ w w' hs h) (fun j v v' w hv h => ?_) (hop a0 hN hLV) hend
  unfold atg at *
  have e : rs L j v = rs L j v' := by
    funext i
    unfold rs
    split
    · rename_i hi
      exact hv i (by simpa using hi)
    · rfl
  rw [← e]; exact h
end Go.Proofs.Ythffegfcgmhppaa.Roll
namespace Go.Proofs.Ythffegfcgmhppaa
open Go.RowKit
set_option linter.unusedSimpArgs false
set_option linter.unusedVariables false
def Dap7 : List (Option Tmp) := [some 19, some 20, some 21, some 22, some 23, some 24, some 25, some 26, some 27, some 28, some 29, none]
def Lap7 : List (List Nat) := [[], [], [1], [2], [3], [], [5], [6], [4, 7], [0], [9], [10, 8]]
/-- Append: error, log -/
def appE (m : LM) (on : Bool) (n : Nat) : Int := if 4000 < n then 2 else if roomZ m.n m.tak < n then 9 else if on then 0 else 10
def appM (m : LM) (on : Bool) (r : List UInt8) : LM := if appE m on r.length = 0 then { m with recs := m.recs ++ [r], tak := m.tak + (r.length + 12) } else m
section
variable {w0 w : World} {L : List Obj} {gl g i j : Nat} {m : LM} {d : DM}
set_option maxRecDepth 100000 in
set_option maxHeartbeats 4000000 in
theorem append_lv (h : Lv w0 w L) (hi : L[i]? = some (logO gl g m)) (hj : L[j]? = some (diskO g d)) {Z : Nat → Prop} {a : Option Addr} {n c : Nat} {r : List UInt8} (hB : Bs Z w a n c r) (hn : m.n ≤ 4096) (ht : m.tak ≤ 1000000) (hn2 : n ≤ 1000000) (hrl : m.recs.length ≤ 100000) :
    Calls Try.prog 15 #[.pointer (some ⟨gl, 0, none⟩), .slice a n c] w fun x w' => x = .returned (.int .i64 (appE m d.on n)) ∧ Lv w0 w' (L.set i (logO gl g (appM m d.on r))) := by
  have hrn := hB.1
  have hc1 := hB.2.2.1
  have hc2 : c ≤ 9223372036854775807 := hB.2.2.2.1
  obtain ⟨_, _, -, -, hg, c0, -, -, -, -, -, -, -, -⟩ := h.logFacts hi
  have HSI := Lib.hid (set_self_of hi)
  have HI := Lib.hid hi
  have HJ := Lib.hid hj
  have HMN := Lib.hid hn
  have HMT := Lib.hid ht
  have HN6 := Lib.hid hn2
  have HRL := Lib.hid hrn
  have HRLB := Lib.hid hrl
  have HIL := Lib.hid (List.getElem?_eq_some_iff.1 hi).1
  obtain ⟨E, hE⟩ : ∃ E, E = appE m d.on n := ⟨_, rfl⟩
  obtain ⟨M, hM⟩ : ∃ M, M = appM m d.on r := ⟨_, rfl⟩
  rw [← hE, ← hM]
  have hME : M = if E = 0 then { m with recs := m.recs ++ [r], tak := m.tak + (n + 12) } else m := by rw [hM, hE]; unfold appM; rw [hrn]
  have HL := Lib.hid h
  by_cases a1 : 4000 < n
  · have a1' : (4000 : Int) < (n : Int) := by omega
    have HE0 : Hid (E = 2) := Lib.hid (by rw [hE]; unfold appE; rw [if_pos a1])
    have HM0 : Hid (M = m) := Lib.hid (by rw [hME, HE0.out]; rfl)
    clear h hi hj hB hE hM hME a1
    go_enter Try.func15, Try.ntmps15
    go_wp2_with fail
    go_ret
    exact ⟨by rw [HE0.out]; rfl, by rw [HM0.out, HSI.out]; exact HL.out⟩
  · have a1' : (n : Int) ≤ 4000 := by omega
    obtain ⟨RM, hRM⟩ : ∃ RM, RM = roomZ m.n m.tak := ⟨_, rfl⟩
    by_cases a2 : RM < (n : Int)
    · have HE0 : Hid (E = 9) := Lib.hid (by rw [hE]; unfold appE; rw [if_neg a1, ← hRM, if_pos a2])
      have HM0 : Hid (M = m) := Lib.hid (by rw [hME, HE0.out]; rfl)
      have HRM := Lib.hid hRM
      clear h hi hj hB hE hM hME a1 hRM
      go_enter Try.func15, Try.ntmps15
      go_wp2_with (first
        | (have x1 := HL.out; go_at_call 29; refine (room_lv x1 HI.out HMN.out HMT.out).mono ?_; rintro e q ⟨rfl, hbq⟩; rw [← HRM.out]; have HLq := Lib.hid (HL.out.below hbq); clear x1 hbq HL))
      go_ret
      exact ⟨by rw [HE0.out]; rfl, by rw [HM0.out, HSI.out]; exact HLq.out⟩
    · have a2' : (n : Int) ≤ RM := by omega
      have HRM := Lib.hid hRM
      have HB0 := Lib.hid hB
      cases hon : d.on with
      | false =>
        have HE0 : Hid (E = 10) := Lib.hid (by rw [hE]; unfold appE; rw [if_neg a1, ← hRM, if_neg a2, hon]; rfl)
        have HM0 : Hid (M = m) := Lib.hid (by rw [hME, HE0.out]; rfl)
        have HON := Lib.hid hon
        clear h hi hj hB hE hM hME a1 hRM hon a2 c0
        go_enter Try.func15, Try.ntmps15
        go_upto_region 5 with (first
          | (have x1 := HL.out; go_at_call 29; refine (room_lv x1 HI.out HMN.out HMT.out).mono ?_; rintro e q ⟨rfl, hbq⟩; rw [← HRM.out]; have HLq := Lib.hid (HL.out.below hbq); clear x1 hbq HL))
        obtain ⟨_, _, -, -, hgq, c0, -, -, -, -, -, -, -, -⟩ := HLq.out.logFacts HI.out
        go_wp2_with (first
          | (have x1 := HLq.out; go_at_call 35; refine (on_lv x1 HJ.out).mono ?_; rintro e q2 ⟨rfl, rfl⟩; rw [HON.out]; clear x1))
        go_ret
        exact ⟨by rw [HE0.out]; rfl, by rw [HM0.out, HSI.out]; exact HLq.out⟩
      | true =>
        have HE0 : Hid (E = 0) := Lib.hid (by rw [hE]; unfold appE; rw [if_neg a1, ← hRM, if_neg a2, hon]; rfl)
        have HM0 : Hid (M = { m with recs := m.recs ++ [r], tak := m.tak + (n + 12) }) := Lib.hid (by rw [hME, HE0.out]; rfl)
        have HON := Lib.hid hon
        have HTK : Hid (m.tak + (n + 12) = m.tak + (n + 12)) := Lib.hid rfl
        have hw1 : IntKind.i64.wrap ((n : Int) + 12) = (n : Int) + 12 := i64_id _ (by omega) (by omega)
        have hw2 : IntKind.i64.wrap ((m.tak : Int) + ((n : Int) + 12)) = ((m.tak + (n + 12) : Nat) : Int) := by rw [i64_id _ (by omega) (by omega)]; omega
        clear h hi hj hB hE hM hME a1 hRM hon a2 c0
        go_enter Try.func15, Try.ntmps15
        go_upto_region 5 with (first
          | (have x1 := HL.out; go_at_call 29; refine (room_lv x1 HI.out HMN.out HMT.out).mono ?_; rintro e q ⟨rfl, hbq⟩; rw [← HRM.out]; have HLq := Lib.hid (HL.out.below hbq); have HB := Lib.hid (HB0.out.kept (Kept.of_below (fun _ => False) hbq) (fun _ _ _ h => h)); clear x1 hbq HL))
        obtain ⟨kl, Bl, vl, BL, hlg, hlB, hBlt, hset⟩ := HLq.out.log HI.out
        obtain ⟨al, cl, rfl, h1, h2, hgq, c0, -, -, -, -, c5, -, -, -⟩ := hlg.facts
        go_upto_region 7 with (first
          | (have x1 := HLq.out; go_at_call 35; refine (on_lv x1 HJ.out).mono ?_; rintro e q2 ⟨rfl, rfl⟩; rw [HON.out]; clear x1))
        obtain ⟨ys, hys, hyj⟩ := hlg.recs
        obtain ⟨rl, hrle⟩ : ∃ rl, rl = m.recs.length := ⟨_, rfl⟩
        rw [← hrle] at c5 hys HRLB hlg
        have HYS := Lib.hid hys
        have HYJ : Hid (∀ j (hj : j < m.recs.length), ∃ a c, ys[j]? = some (.slice a m.recs[j].length c) ∧ Bs Bl q a m.recs[j].length c m.recs[j]) := Lib.hid hyj
        have HLG := Lib.hid hlg
        have HRLE := Lib.hid hrle.symm
        have HBB := Lib.hid hlB
        have HSET := Lib.hid hset
        have HSELF := Lib.hid hlg.self
        have HKG := Lib.hid hlg.ap.1
        have HKL : Hid (∀ x, kl = some x → x < q.heap.size) := Lib.hid hlg.recs.lt
        have HGL : Hid (gl < q.heap.size ∧ ¬ kl = some gl) := Lib.hid ⟨hgq, hlg.ap.1⟩
        have C5 := Lib.hid c5
        clear hlg hlB hBlt hset hys hyj hrle c5 c0 h1 h2
        refine Roll.region_v 9 40 Dap7 Lap7 [(0, .pointer (some ⟨gl, 0, none⟩)), (1, .slice a n c)] 8 [true, true, true, true, true, true, false, false, false] (fun p => Below q.heap.size q p) (fun vv p => ∃ k' a3 c3, Rw p 32 k' vv (rl + 1) (ys ++ [.slice a3 n c3]) ∧ (∀ j, k' = some j → kl = some j ∨ q.heap.size ≤ j) ∧ Bs (fun y => q.heap.size ≤ y ∧ k' ≠ some y) p a3 n c3 r ∧ Kept (fun j => kl = some j) q p) (fun p => Kept (fun j => kl = some j) q p) (fun p p2 => Kept (fun j => kl = some j) p p2) [fun vv p => (vv 0) = .pointer (some ⟨gl, 0, none⟩), fun vv p => (vv 1) = .pointer (some ⟨gl, 0, none⟩), fun vv p => (vv 2) = .pointer (some ⟨gl, 0, none⟩), fun vv p => (vv 3) = .pointer (some ⟨gl, 5, none⟩), fun vv p => (vv 4) = .slice al rl cl, fun vv p => (vv 5) = .slice a n c, fun vv p => ∃ a3 c3, (vv 6) = .slice a3 n c3 ∧ Bs (fun x => q.heap.size ≤ x) p a3 n c3 r, fun vv p => ∃ x a3 c3, (vv 7) = .slice (some ⟨x, 0, none⟩) 1 1 ∧ q.heap.size ≤ x ∧ p.heap[x]? = some (.cells #[.slice a3 n c3] 32 (0, 0)) ∧ Bs (fun y => q.heap.size ≤ y ∧ y < x) p a3 n c3 r, fun vv p => True] (by kernel_rfl) (by kernel_rfl) rfl ⟨rfl, rfl, trivial⟩ ((Below.refl _ _).drew) (by decide) (by kernel_rfl) (fun _ h => Kept.of_below _ h) (fun _ _ h => by obtain ⟨_, _, _, _, _, _, h⟩ := h; exact h) (fun _ => Kept.refl _ _) ?_ ?_ ?_
        · exact ⟨fun _ _ _ _ h => h, fun _ _ _ _ h => h, fun _ _ _ _ h => h, fun _ _ _ _ h => h, fun _ _ _ _ h => h, fun _ _ _ _ h => h, fun _ _ _ hs h => by obtain ⟨a3, c3, e1, e2⟩ := h; exact ⟨a3, c3, e1, e2.kept hs (fun x _ hx e => by have := HKL.out _ e; omega)⟩, fun _ _ _ hs h => by obtain ⟨x, a3, c3, e1, e2, e3, e4⟩ := h; exact ⟨x, a3, c3, e1, e2, hs.heap e3 (fun e => by have := HKL.out _ e; omega), e4.kept hs (fun x _ hx e => by have := HKL.out _ e; omega)⟩, fun _ _ _ _ h => h, trivial⟩
        · intro b0 hN hlv
          refine ⟨?_, ?_, ?_, ?_, ?_, ?_, ?_, ?_, ?_, trivial⟩
          · intro vs p hI0 hp
            have hI := Roll.inw_pure (by decide) rfl hI0
            clear hI0
            have e0 : (Roll.putD Dap7 vs [] b0).eval (.tmp 0) = .pointer (some ⟨gl, 0, none⟩) := (Roll.eval_old rfl).trans (hlv.at 0 (0, .pointer (some ⟨gl, 0, none⟩)) rfl)
            clear hp hlv hN
            unfold Roll.Goes
            simp only [Lap7, List.getD_cons_zero, List.getD_cons_succ]
            generalize Roll.putD Dap7 vs [] b0 = a1 at *
            refine Roll.goes_val (w' := p) (.pointer (some ⟨gl, 0, none⟩)) rfl ?_ ⟨(Roll.outw_pure (by decide) rfl), rfl⟩
            (have ec : ∀ x, a1.eval (.const x) = x := fun _ => rfl); (have ef : ∀ x, a1.eval (.func x) = .func (.func x) #[] #[] := fun _ => rfl); generalize a1.eval = ρ at *
            skip
            go_simp <;> (intros; first | (exfalso; omega) | rfl)
          · intro vs p hI0 hp
            have hI := Roll.inw_pure (by decide) rfl hI0
            clear hI0
            have e0 : (Roll.putD Dap7 vs [] b0).eval (.tmp 0) = .pointer (some ⟨gl, 0, none⟩) := (Roll.eval_old rfl).trans (hlv.at 0 (0, .pointer (some ⟨gl, 0, none⟩)) rfl)
            clear hp hlv hN
            unfold Roll.Goes
            simp only [Lap7, List.getD_cons_zero, List.getD_cons_succ]
            generalize Roll.putD Dap7 vs [] b0 = a1 at *
            refine Roll.goes_val (w' := p) (.pointer (some ⟨gl, 0, none⟩)) rfl ?_ ⟨(Roll.outw_pure (by decide) rfl), rfl⟩
            (have ec : ∀ x, a1.eval (.const x) = x := fun _ => rfl); (have ef : ∀ x, a1.eval (.func x) = .func (.func x) #[] #[] := fun _ => rfl); generalize a1.eval = ρ at *
            skip
            go_simp <;> (intros; first | (exfalso; omega) | rfl)
          · intro vs p hI0 hp
            have hI := Roll.inw_pure (by decide) rfl hI0
            clear hI0
            have h1 : (vs 1) = .pointer (some ⟨gl, 0, none⟩) := hp 1 (by simp [Lap7])
            have e20 : (Roll.putD Dap7 vs [1] b0).eval (.tmp 20) = .pointer (some ⟨gl, 0, none⟩) := (Roll.eval_new 1 rfl (by decide) (by decide) (by omega)).trans h1
            clear hp hlv hN
            unfold Roll.Goes
            simp only [Lap7, List.getD_cons_zero, List.getD_cons_succ]
            generalize Roll.putD Dap7 vs [1] b0 = a1 at *
            refine Roll.goes_val (w' := p) (.pointer (some ⟨gl, 0, none⟩)) rfl ?_ ⟨(Roll.outw_pure (by decide) rfl), rfl⟩
            (have ec : ∀ x, a1.eval (.const x) = x := fun _ => rfl); (have ef : ∀ x, a1.eval (.func x) = .func (.func x) #[] #[] := fun _ => rfl); generalize a1.eval = ρ at *
            clear h1
            go_simp <;> (intros; first | (exfalso; omega) | rfl)
          · intro vs p hI0 hp
            have hI := Roll.inw_pure (by decide) rfl hI0
            clear hI0
            have h2 : (vs 2) = .pointer (some ⟨gl, 0, none⟩) := hp 2 (by simp [Lap7])
            have e21 : (Roll.putD Dap7 vs [2] b0).eval (.tmp 21) = .pointer (some ⟨gl, 0, none⟩) := (Roll.eval_new 2 rfl (by decide) (by decide) (by omega)).trans h2
            clear hp hlv hN
            unfold Roll.Goes
            simp only [Lap7, List.getD_cons_zero, List.getD_cons_succ]
            generalize Roll.putD Dap7 vs [2] b0 = a1 at *
            refine Roll.goes_val (w' := p) (.pointer (some ⟨gl, 5, none⟩)) rfl ?_ ⟨(Roll.outw_pure (by decide) rfl), rfl⟩
            (have ec : ∀ x, a1.eval (.const x) = x := fun _ => rfl); (have ef : ∀ x, a1.eval (.func x) = .func (.func x) #[] #[] := fun _ => rfl); generalize a1.eval = ρ at *
            clear h2
            go_simp <;> (intros; first | (exfalso; omega) | rfl)
          · intro vs p hI0 hp
            have hI := Roll.inw_pure (by decide) rfl hI0
            clear hI0
            have h3 : (vs 3) = .pointer (some ⟨gl, 5, none⟩) := hp 3 (by simp [Lap7])
            have e22 : (Roll.putD Dap7 vs [3] b0).eval (.tmp 22) = .pointer (some ⟨gl, 5, none⟩) := (Roll.eval_new 3 rfl (by decide) (by decide) (by omega)).trans h3
            clear hp hlv hN
            unfold Roll.Goes
            simp only [Lap7, List.getD_cons_zero, List.getD_cons_succ]
            generalize Roll.putD Dap7 vs [3] b0 = a1 at *
            have cf : p.cell? ⟨gl, 5, none⟩ = some (.slice al rl cl) := (hI.cell (p := ⟨gl, 5, none⟩) HGL.out.1 HGL.out.2).trans C5.out
            refine Roll.goes_val (w' := p) (.slice al rl cl) rfl ?_ ⟨(Roll.outw_pure (by decide) rfl), rfl⟩
            (have ec : ∀ x, a1.eval (.const x) = x := fun _ => rfl); (have ef : ∀ x, a1.eval (.func x) = .func (.func x) #[] #[] := fun _ => rfl); generalize a1.eval = ρ at *
            clear h3
            go_simp <;> (intros; first | (exfalso; omega) | rfl)
          · intro vs p hI0 hp
            have hI := Roll.inw_pure (by decide) rfl hI0
            clear hI0
            have e1 : (Roll.putD Dap7 vs [] b0).eval (.tmp 1) = .slice a n c := (Roll.eval_old rfl).trans (hlv.at 1 (1, .slice a n c) rfl)
            clear hp hlv hN
            unfold Roll.Goes
            simp only [Lap7, List.getD_cons_zero, List.getD_cons_succ]
            generalize Roll.putD Dap7 vs [] b0 = a1 at *
            refine Roll.goes_val (w' := p) (.slice a n c) rfl ?_ ⟨(Roll.outw_pure (by decide) rfl), rfl⟩
            (have ec : ∀ x, a1.eval (.const x) = x := fun _ => rfl); (have ef : ∀ x, a1.eval (.func x) = .func (.func x) #[] #[] := fun _ => rfl); generalize a1.eval = ρ at *
            skip
            go_simp <;> (intros; first | (exfalso; omega) | rfl)
          · intro vs p hI0 hp
            have hI := Roll.inw_pre (by decide) rfl hI0
            clear hI0
            have h5 : (vs 5) = .slice a n c := hp 5 (by simp [Lap7])
            have e24 : (Roll.putD Dap7 vs [5] b0).eval (.tmp 24) = .slice a n c := (Roll.eval_new 5 rfl (by decide) (by decide) (by omega)).trans h5
            clear hp hlv hN
            unfold Roll.Goes
            simp only [Lap7, List.getD_cons_zero, List.getD_cons_succ]
            generalize Roll.putD Dap7 vs [5] b0 = a1 at *
            refine Roll.goes_call 43 #[.slice a n c] p rfl (by have ec : ∀ x, a1.eval (.const x) = x := fun _ => rfl; have ef : ∀ x, a1.eval (.func x) = .func (.func x) #[] #[] := fun _ => rfl; generalize a1.eval = ρ at *; go_simp) ?_
            refine (cloneB_any _ a n c r p (HB.out.kept (Kept.of_below (fun _ => False) hI) (fun _ _ _ h => h)) HN6.out).mono ?_
            rintro y p2 ⟨v3, rfl, hm⟩
            obtain ⟨a3, c3, rfl, hb3⟩ := hm.bs
            obtain ⟨_, _, _, hbl⟩ := hm
            rw [HRL.out] at hb3 ⊢
            exact ⟨_, rfl, Roll.outw_pre (by decide) rfl (hI.trans (hbl.mono hI.size)) (Kept.of_below _ hbl), a3, c3, rfl, hb3.dom (fun x hx => Nat.le_trans hI.size hx)⟩
          · intro vs p hI0 hp
            have hI := Roll.inw_pre (by decide) rfl hI0
            clear hI0
            have h6 : ∃ a3 c3, (vs 6) = .slice a3 n c3 ∧ Bs (fun x => q.heap.size ≤ x) p a3 n c3 r := hp 6 (by simp [Lap7])
            have e25 : (Roll.putD Dap7 vs [6] b0).eval (.tmp 25) = vs 6 := (Roll.eval_new 6 rfl (by decide) (by decide) (by omega))
            clear hp hlv hN
            unfold Roll.Goes
            simp only [Lap7, List.getD_cons_zero, List.getD_cons_succ]
            generalize Roll.putD Dap7 vs [6] b0 = a1 at *
            obtain ⟨a3, c3, hv3, hb3⟩ := h6
            rw [hv3] at e25
            have hal : Below p.heap.size p (p.alloc (.cells #[.slice a3 n c3] 32)) := (Below.refl _ _).alloc (Nat.le_refl _) _
            refine Roll.goes_val (w' := p.alloc (.cells #[.slice a3 n c3] 32)) (.slice (some ⟨p.heap.size, 0, none⟩) 1 1) rfl (by have ec : ∀ x, a1.eval (.const x) = x := fun _ => rfl; have ef : ∀ x, a1.eval (.func x) = .func (.func x) #[] #[] := fun _ => rfl; have hbs := run_bs56; generalize a1.eval = ρ at *; go_simp <;> (intros; first | (exfalso; omega) | rfl)) ⟨Roll.outw_pre (by decide) rfl (hI.trans (hal.mono hI.size)) (Kept.of_below _ hal), p.heap.size, a3, c3, rfl, hI.size, heap_new rfl, hb3.small.kept (Kept.of_below (fun _ => False) hal) (fun _ _ _ h => h)⟩
          · intro vs p hI0 hp
            have hI := Roll.inw_k0 rfl hI0
            clear hI0
            have h4 : (vs 4) = .slice al rl cl := hp 4 (by simp [Lap7])
            have h7 : ∃ x a3 c3, (vs 7) = .slice (some ⟨x, 0, none⟩) 1 1 ∧ q.heap.size ≤ x ∧ p.heap[x]? = some (.cells #[.slice a3 n c3] 32 (0, 0)) ∧ Bs (fun y => q.heap.size ≤ y ∧ y < x) p a3 n c3 r := hp 7 (by simp [Lap7])
            have e23 : (Roll.putD Dap7 vs [4, 7] b0).eval (.tmp 23) = .slice al rl cl := (Roll.eval_new 4 rfl (by decide) (by decide) (by omega)).trans h4
            have e26 : (Roll.putD Dap7 vs [4, 7] b0).eval (.tmp 26) = vs 7 := (Roll.eval_new 7 rfl (by decide) (by decide) (by omega))
            clear hp hlv hN
            unfold Roll.Goes
            simp only [Lap7, List.getD_cons_zero, List.getD_cons_succ]
            generalize Roll.putD Dap7 vs [4, 7] b0 = a1 at *
            obtain ⟨x3, a3, c3, hv3, hxq, hhx, hb3⟩ := h7
            rw [hv3] at e26
            obtain ⟨i0, ji, jz0, jz1, jz2⟩ := info_parts info32'
            have hxl := heap_lt hhx
            refine goes_append_rw rfl (.tmp 23) (.tmp 26) 30 30 rfl 32 i0 (.slice none 0 0) 24 Try.underlying30 ji jz0 jz1 jz2 rfl kl (.slice al rl cl) rl ys e23 (HYS.out.kept (Kept.of_below (fun _ => False) hI) (fun _ _ h => h)) _ e26 1 [.slice a3 n c3] (src_one Try.underlying30 hhx) (by have := HRLB.out; unfold maxLen; omega) (by have := HRLB.out; omega) ?_
            intro k' v' w' g1 g2 g3
            have hgr : ∀ x, q.heap.size ≤ x → x < p.heap.size → k' ≠ some x := fun x hx hx2 e => by
              rcases g2 x e with e | e
              · have := HKL.out x e; omega
              · omega
            exact ⟨Roll.outw_k0 rfl ⟨k', a3, c3, g1, fun j hj => (g2 j hj).imp id (fun e => Nat.le_trans hI.size e), (hb3.kept g3 (fun x _ hx e => by have := HKL.out x e; omega)).dom (fun x hx => ⟨hx.1, hgr x hx.1 (by omega)⟩), ((Kept.of_below (fun j => kl = some j) hI).trans g3 (fun _ _ h => h))⟩ g3, trivial⟩
        · intro vs p hI hR
          have h0 : (vs 0) = .pointer (some ⟨gl, 0, none⟩) := hR 0 (by omega)
          have h1 : (vs 1) = .pointer (some ⟨gl, 0, none⟩) := hR 1 (by omega)
          have h2 : (vs 2) = .pointer (some ⟨gl, 0, none⟩) := hR 2 (by omega)
          have h3 : (vs 3) = .pointer (some ⟨gl, 5, none⟩) := hR 3 (by omega)
          have h4 : (vs 4) = .slice al rl cl := hR 4 (by omega)
          have h5 : (vs 5) = .slice a n c := hR 5 (by omega)
          have h6 : ∃ a3 c3, (vs 6) = .slice a3 n c3 ∧ Bs (fun x => q.heap.size ≤ x) p a3 n c3 r := hR 6 (by omega)
          have h7 : ∃ x a3 c3, (vs 7) = .slice (some ⟨x, 0, none⟩) 1 1 ∧ q.heap.size ≤ x ∧ p.heap[x]? = some (.cells #[.slice a3 n c3] 32 (0, 0)) ∧ Bs (fun y => q.heap.size ≤ y ∧ y < x) p a3 n c3 r := hR 7 (by omega)
          have h8 : True := hR 8 (by omega)
          clear hR
          simp only [List.range_succ, List.range_zero, List.nil_append, List.cons_append, Roll.putD, Act.put, List.getD_cons_zero, List.getD_cons_succ, List.setIfInBounds_toArray, List.set_cons_zero, List.set_cons_succ, List.drop_succ_cons, List.drop_zero, Dap7]
          simp only [h0, h1, h2, h3, h4, h5]
          clear h0 h1 h2 h3 h4 h5
          clear h6 h7 h8
          generalize vs 6 = v6 at *; generalize vs 7 = v7 at *; generalize vs 8 = v8 at *
          obtain ⟨k', a3, c3, g1, g2, g3, gK⟩ := hI
          obtain ⟨a8, c8, rfl, -, -⟩ := g1.shape
          have hself2 := gK.heap HSELF.out HKG.out
          have c5p : p.cell? ⟨gl, 5, none⟩ = some (.slice al rl cl) := (gK.cell (p := ⟨gl, 5, none⟩) HGL.out.1 HGL.out.2).trans C5.out
          have f5p : p.frozen? ⟨gl, 5, none⟩ = false := frozen_of_row p gl 5 _ _ hself2
          have HP : Hid (Lv w0 (p.setCell ⟨gl, 5, none⟩ (.slice a8 (rl + 1) c8)) (L.set i (logO gl g { m with recs := m.recs ++ [r] }))) := Lib.hid (by
            have hkg : k' ≠ some gl := fun e => by
              rcases g2 _ e with e | e
              · exact HKG.out e
              · have := HGL.out.1; omega
            have hks : Kept (fun j => j = gl) p (p.setCell ⟨gl, 5, none⟩ (.slice a8 (rl + 1) c8)) := (Kept.refl (fun j => j = gl) p).setCell (fun _ => rfl) _
            have hks2 : Kept (fun j => j = gl ∨ kl = some j) q (p.setCell ⟨gl, 5, none⟩ (.slice a8 (rl + 1) c8)) := (gK.mono (fun _ _ h => .inr h)).trans hks (fun _ _ h => .inl h)
            have hlg := HLG.out
            refine HSET.out _ k' (fun x => Bl x ∨ (q.heap.size ≤ x ∧ x < p.heap.size ∧ k' ≠ some x)) (.slice a8 (rl + 1) c8) _ ⟨?_, ⟨ys ++ [.slice a3 n c3], ?_, fun j hj => ?_⟩, ⟨hkg, ?_, ?_⟩, ?_⟩ (hks2.mono ?_) ?_
            · rw [heap_setCell_same p gl 5 _ _ _ hself2]; rfl
            · rw [List.length_append, List.length_singleton, HRLE.out]
              exact g1.kept hks (fun j hj e => hkg (by rw [← e]; exact hj))
            · have hyl : ys.length = rl := HYS.out.1
              have hRE := HRLE.out
              by_cases e : j < rl
              · obtain ⟨a4, c4, e1, e2⟩ := HYJ.out j (by omega)
                refine ⟨a4, c4, ?_, ?_⟩
                · rw [List.getElem?_append_left (by omega), e1]; simp only [List.getElem_append_left (show j < m.recs.length by omega)]
                · simp only [List.getElem_append_left (show j < m.recs.length by omega)]
                  exact ((e2.kept hks2 (fun x hx hb e => by
                    rcases e with e | e
                    · exact hlg.ap.2.1 (by rw [← e]; exact hb)
                    · exact hlg.ap.2.2 x e hb)).dom (fun x hx => .inl hx))
              · have hj2 : j = rl := by rw [List.length_append, List.length_singleton] at hj; omega
                have e3 : (m.recs ++ [r])[j]'hj = r := by
                  rw [List.getElem_append_right (by omega)]
                  simp
                refine ⟨a3, c3, ?_, ?_⟩
                · rw [List.getElem?_append_right (by omega), hyl, show j - rl = 0 by omega]; rw [show (m.recs ++ [r])[j]'hj = r from e3, HRL.out]; rfl
                · rw [show (m.recs ++ [r])[j]'hj = r from e3, HRL.out]
                  exact ((g3.small.kept hks (fun x _ hx e => by subst e; have := HGL.out.1; omega)).dom (fun x hx => .inr ⟨hx.1.1, hx.2, hx.1.2⟩))
            · rintro (h | h)
              · exact hlg.ap.2.1 h
              · have := HGL.out.1; omega
            · rintro x hx (h | h)
              · rcases g2 x hx with e | e
                · exact hlg.ap.2.2 x e h
                · have := hlg.lt x h; omega
              · exact h.2.2 hx
            · rintro x (h | h)
              · exact Nat.lt_of_lt_of_le (hlg.lt x h) (Nat.le_trans gK.size hks.size)
              · exact Nat.lt_of_lt_of_le h.2.1 hks.size
            · rintro j - (e | e)
              · exact HBB.out j (.inl e)
              · exact HBB.out j (.inr (.inl e))
            · rintro x (e | e | e | e)
              · exact .inl (HBB.out x (.inl e))
              · exact (g2 x e).imp (fun e => HBB.out x (.inr (.inl e))) id
              · exact .inl (HBB.out x (.inr (.inr e)))
              · exact .inr e.1)
          clear g1 g2 g3 gK hself2
          go_upto_region 8 with fail
          have hi2 : (L.set i (logO gl g { m with recs := m.recs ++ [r] }))[i]? = some (logO gl g { m with recs := m.recs ++ [r] }) := List.getElem?_set_self HIL.out
          obtain ⟨_, _, -, -, hgl8, -, -, -, -, -, -, -, t7, fz⟩ := HP.out.logFacts hi2
          simp only at t7
          have z7 := fz 7
          have HP2 := Lib.hid (HP.out.logTak hi2 (m.tak + (n + 12)))
          obtain ⟨w8, hw8⟩ : ∃ w8, w8 = p.setCell ⟨gl, 5, none⟩ (.slice a8 (rl + 1) c8) := ⟨_, rfl⟩
          rw [← hw8] at t7 hgl8 z7 HP2 ⊢
          clear hw8 c5p f5p HP fz hi2
          go_wp2_with fail
          go_ret
          refine ⟨by rw [HE0.out]; rfl, ?_⟩
          rw [HM0.out]
          have := HP2.out
          rwa [List.set_set] at this
end
end Go.Proofs.Ythffegfcgmhppaa
namespace Go.Proofs.Ythffegfcgmhppaa
open Go.RowKit
set_option linter.unusedSimpArgs false
set_option linter.unusedVariables false
/-- what records count for -/
def takR (rs : List (List UInt8)) : Nat := (rs.map fun r => r.length + 12).sum
theorem takR_snoc (rs : List (List UInt8)) (r : List UInt8) : takR (rs ++ [r]) = takR rs + (r.length + 12) := by simp [takR]
theorem takR_take (rs : List (List UInt8)) (i : Nat) : takR (rs.take i) ≤ takR rs := by
  induction rs generalizing i with
  | nil => simp [takR]
  | cons r rs ih =>
    cases i with
    | zero => simp [takR]
    | succ i =>
      have := ih i
      simp only [takR, List.take_succ_cons, List.map_cons, List.sum_cons] at this ⊢
      omega
set_option maxRecDepth 100000 in
set_option maxHeartbeats 2000000 in
theorem left_any (D : Nat → Prop) (a : Option Addr) (n c k : Nat) (rs : List (List UInt8)) (w : World) (hR : RdR D w a n c rs) (hk : k ≤ 1000000) (ht : takR rs ≤ 1000000000) (hn : n ≤ 1000000) (hl : ∀ r ∈ rs, r.length ≤ 1000000) :
    Calls Try.prog 52 #[.int .i64 (k : Int), .slice a n c] w fun x w' => x = .returned (.int .i64 (64 * ((k : Int) - 2) - (takR rs : Int))) ∧ w = w' := by
  obtain ⟨hn1, hc1, hc2, hlk⟩ := hR
  have HLK := Lib.hid hlk
  have HN := Lib.hid hn1
  have HT := Lib.hid ht
  have HL := Lib.hid hl
  have hw1 : IntKind.i64.wrap ((k : Int) - 2) = (k : Int) - 2 := i64_id _ (by omega) (by omega)
  have hw2 : IntKind.i64.wrap (64 * ((k : Int) - 2)) = 64 * ((k : Int) - 2) := i64_id _ (by omega) (by omega)
  clear hlk ht hl hn1
  go_enter Try.func52, Try.ntmps52
  go_wp2_with fail
  go_loopw [5, 6] (fun u t wr => ∃ i : Nat, i ≤ n ∧ u = .int .i64 (64 * ((k : Int) - 2) - (takR (rs.take i) : Int)) ∧ t = .int .i64 (i : Int) ∧ wr = w) (fun _ t _ => n - (intOf t).toNat)
  case atStart => exact ⟨0, Nat.zero_le _, by simp [takR], rfl, rfl⟩
  case round =>
    obtain ⟨i, hi9, rfl, rfl, rfl⟩ := hrel
    by_cases hlt : i < n
    · have hn2 : (i : Int) < (n : Int) := by omega
      have hw3 : IntKind.i64.wrap ((i : Int) + 1) = (i : Int) + 1 := i64_id _ (by omega) (by omega)
      have hlr : i < rs.length := by rw [HN.out]; exact hlt
      obtain ⟨r, hr⟩ : ∃ r, r = rs[i]'hlr := ⟨_, rfl⟩
      obtain ⟨g, off, b, cb, -, rfl, hg, hcell, hbs⟩ := HLK.out i hlr
      rw [← hr] at hcell hbs
      have hrb : r.length ≤ 1000000 := HL.out r (by rw [hr]; exact List.getElem_mem _)
      have HTK : Hid (takR (rs.take (i + 1)) = takR (rs.take i) + (r.length + 12)) := Lib.hid (by rw [List.take_succ_eq_append_getElem hlr, takR_snoc, hr])
      have hti : takR (rs.take i) ≤ 1000000000 := Nat.le_trans (takR_take rs i) HT.out
      obtain ⟨T, hT⟩ : ∃ T, T = takR (rs.take i) := ⟨_, rfl⟩
      rw [← hT] at HTK hti ⊢
      obtain ⟨rl, hrl⟩ : ∃ rl, rl = r.length := ⟨_, rfl⟩
      rw [← hrl] at hcell hrb HTK
      have hw4 : IntKind.i64.wrap (64 * ((k : Int) - 2) - (T : Int) - (rl : Int)) = 64 * ((k : Int) - 2) - (T : Int) - (rl : Int) := i64_id _ (by omega) (by omega)
      have hw5 : IntKind.i64.wrap (64 * ((k : Int) - 2) - (T : Int) - (rl : Int) - 12) = 64 * ((k : Int) - 2) - (T : Int) - (rl : Int) - 12 := i64_id _ (by omega) (by omega)
      clear hbs hr hg hT hrl
      go_wp2_with fail
      go_roundw
      case rel => exact ⟨i + 1, by omega, by rw [HTK.out]; exact congrArg _ (by omega), by go_num, trivial⟩
      case measure => simp [intOf]; omega
    · obtain rfl : i = n := by omega
      have HTE : Hid (takR (rs.take i) = takR rs) := Lib.hid (by rw [List.take_of_length_le (by rw [HN.out]; exact Nat.le_refl _)])
      go_wp2
      go_ret
      exact ⟨by rw [HTE.out]; rfl, rfl⟩
set_option maxRecDepth 100000 in
set_option maxHeartbeats 2000000 in
theorem rroom_any (D : Nat → Prop) (a : Option Addr) (n c k : Nat) (rs : List (List UInt8)) (w : World) (hR : RdR D w a n c rs) (hk : k ≤ 1000000) (ht : takR rs ≤ 1000000000) (hn : n ≤ 1000000) (hl : ∀ r ∈ rs, r.length ≤ 1000000) :
    Calls Try.prog 30 #[.int .i64 (k : Int), .slice a n c] w fun x w' => x = .returned (.int .i64 (roomZ k (takR rs))) ∧ w = w' := by
  have HC := Lib.hid (left_any D a n c k rs w hR hk ht hn hl)
  obtain ⟨T, hT⟩ : ∃ T, T = takR rs := ⟨_, rfl⟩
  rw [← hT] at HC ht ⊢
  obtain ⟨X, hX⟩ : ∃ X : Int, X = 64 * ((k : Int) - 2) - (T : Int) := ⟨_, rfl⟩
  rw [← hX] at HC
  obtain ⟨M, hM⟩ : ∃ M, M = min 4000 (X - 12) := ⟨_, rfl⟩
  obtain ⟨Z, hZ⟩ : ∃ Z, Z = max (-1) M := ⟨_, rfl⟩
  have HE : Hid (roomZ k (T : Int) = Z) := Lib.hid (by rw [hZ, hM, hX]; unfold roomZ; omega)
  have hw1 : IntKind.i64.wrap (X - 12) = X - 12 := i64_id _ (by omega) (by omega)
  have HM := Lib.hid hM.symm
  have HZ := Lib.hid hZ.symm
  clear hT hX hM hZ hR hl
  go_enter Try.func30, Try.ntmps30
  go_wp2_with (first
    | (go_at_call 52; refine HC.out.mono ?_; rintro e w2 ⟨rfl, rfl⟩)
    | (refine wpList_min2 rfl (.const (.int .i64 4000)) (.tmp 8) 3 3 rfl 4000 _ M rfl rfl HM.out ?_)
    | (refine wpList_max2 rfl (.const (.int .i64 (-1))) (.tmp 9) 3 3 rfl (-1) M Z rfl rfl HZ.out ?_))
  go_ret
  exact ⟨by rw [HE.out]; rfl, rfl⟩
def rappE (k : Nat) (rs : List (List UInt8)) (n : Nat) : Int := if 4000 < n then 2 else if roomZ k (takR rs) < n then 9 else 0
set_option maxRecDepth 100000 in
set_option maxHeartbeats 2000000 in
theorem rappend_any (D : Nat → Prop) (a : Option Addr) (n c k : Nat) (rs : List (List UInt8)) (ra : Option Addr) (rn rc : Nat) (hrn : rn ≤ 1000000) (w : World) (hR : RdR D w a n c rs) (hk : k ≤ 1000000) (ht : takR rs ≤ 1000000000) (hn : n ≤ 1000000) (hl : ∀ r ∈ rs, r.length ≤ 1000000) :
    Calls Try.prog 14 #[.int .i64 (k : Int), .slice a n c, .slice ra rn rc] w fun x w' => x = .returned (.int .i64 (rappE k rs rn)) ∧ w = w' := by
  have HC := Lib.hid (rroom_any D a n c k rs w hR hk ht hn hl)
  obtain ⟨E, hE⟩ : ∃ E, E = rappE k rs rn := ⟨_, rfl⟩
  rw [← hE]
  unfold rappE at hE
  obtain ⟨RM, hRM⟩ : ∃ RM, RM = roomZ k (takR rs) := ⟨_, rfl⟩
  rw [← hRM] at HC hE
  clear hR hl hRM
  by_cases a1 : 4000 < rn
  · have a1' : (4000 : Int) < (rn : Int) := by omega
    have HE : Hid (E = 2) := Lib.hid (by rw [hE, if_pos a1])
    clear hE a1
    go_enter Try.func14, Try.ntmps14
    go_wp2_with fail
    go_ret
    exact ⟨by rw [HE.out]; rfl, rfl⟩
  · have a1' : (rn : Int) ≤ 4000 := by omega
    by_cases a2 : RM < (rn : Int)
    · have HE : Hid (E = 9) := Lib.hid (by rw [hE, if_neg a1, if_pos a2])
      clear hE a1
      go_enter Try.func14, Try.ntmps14
      go_wp2_with (go_at_call 30; refine HC.out.mono ?_; rintro e w2 ⟨rfl, rfl⟩)
      go_ret
      exact ⟨by rw [HE.out]; rfl, rfl⟩
    · have a2' : (rn : Int) ≤ RM := by omega
      have HE : Hid (E = 0) := Lib.hid (by rw [hE, if_neg a1, if_neg a2])
      clear hE a1 a2
      go_enter Try.func14, Try.ntmps14
      go_wp2_with (go_at_call 30; refine HC.out.mono ?_; rintro e w2 ⟨rfl, rfl⟩)
      go_ret
      exact ⟨by rw [HE.out]; rfl, rfl⟩
set_option maxRecDepth 100000 in
set_option maxHeartbeats 2000000 in
theorem same_any (D1 D2 : Nat → Prop) (a b : Option Addr) (n c k e : Nat) (rs qs : List (List UInt8)) (w : World) (h1 : RdR D1 w a n c rs) (h2 : RdR D2 w b k e qs) (hn : n ≤ 1000000) :
    Calls Try.prog 32 #[.slice a n c, .slice b k e] w fun x w' => x = .returned (.bool (rs == qs)) ∧ Below w.heap.size w w' := by
  obtain ⟨hn1, hc1, hc2, hlk1⟩ := h1
  obtain ⟨hk1, he1, he2, hlk2⟩ := h2
  obtain ⟨S, hS⟩ : ∃ S, S = (rs == qs) := ⟨_, rfl⟩
  rw [← hS]
  have HS := Lib.hid hS
  have HN := Lib.hid hn1
  have HK := Lib.hid hk1
  have H1 : Hid (RdR D1 w a n c rs) := Lib.hid ⟨hn1, hc1, hc2, hlk1⟩
  have H2 : Hid (RdR D2 w b k e qs) := Lib.hid ⟨hk1, he1, he2, hlk2⟩
  clear hlk1 hlk2 hS hn1 hk1
  by_cases hne : n = k
  · subst hne
    go_enter Try.func32, Try.ntmps32
    go_wp2_with fail
    go_loopw [5] (fun t wr => ∃ i : Nat, i ≤ n ∧ t = .int .i64 (i : Int) ∧ rs.take i = qs.take i ∧ Below w.heap.size w wr) (fun t _ => n - (intOf t).toNat)
    case atStart => exact ⟨0, Nat.zero_le _, rfl, rfl, Below.refl _ _⟩
    case round =>
      obtain ⟨i, hi9, rfl, heq, hbl⟩ := hrel
      by_cases hlt : i < n
      · have hn2 : (i : Int) < (n : Int) := by omega
        have hw3 : IntKind.i64.wrap ((i : Int) + 1) = (i : Int) + 1 := i64_id _ (by omega) (by omega)
        have hlr : i < rs.length := by rw [HN.out]; exact hlt
        have hlq : i < qs.length := by rw [HK.out]; exact hlt
        obtain ⟨g, off, b1, cb1, -, rfl, hg, hcell, hbs⟩ := (H1.out.below hbl).2.2.2 i hlr
        obtain ⟨g', off', b2, cb2, -, rfl, hg', hcell', hbs'⟩ := (H2.out.below hbl).2.2.2 i hlq
        obtain ⟨r, hr⟩ : ∃ r, r = rs[i]'hlr := ⟨_, rfl⟩
        obtain ⟨q, hq⟩ : ∃ q, q = qs[i]'hlq := ⟨_, rfl⟩
        rw [← hr] at hcell hbs
        rw [← hq] at hcell' hbs'
        have HB1 := Lib.hid hbs
        have HB2 := Lib.hid hbs'
        have HBL := Lib.hid hbl
        have HEQ := Lib.hid heq
        have HR := Lib.hid hr
        have HQ := Lib.hid hq
        clear hbs hbs' hbl heq hr hq
        by_cases hrq : r = q
        · subst hrq
          have hbq : (r == r) = true := beq_self_eq_true r
          have HTK : Hid (rs.take (i + 1) = qs.take (i + 1)) := Lib.hid (by
            rw [List.take_succ_eq_append_getElem hlr, List.take_succ_eq_append_getElem hlq, HEQ.out, ← HR.out, ← HQ.out])
          go_wp2_with fail
          go_still_tail 8, (by kernel_rfl)
          change wpList _ _ _ _ _ wr.drew
          go_wp2_with (go_at_call 38; refine (sameBytes_any _ _ _ _ _ _ _ _ _ _ _ (HB1.out.kept (Kept.of_below (fun _ => False) (Below.refl _ _).drew) (fun _ _ _ h => h)) (HB2.out.kept (Kept.of_below (fun _ => False) (Below.refl _ _).drew) (fun _ _ _ h => h))).mono ?_; rintro e w2 ⟨rfl, rfl⟩; rw [hbq])
          go_roundw
          case rel => exact ⟨i + 1, by omega, by go_num, HTK.out, HBL.out.drew⟩
          case measure => simp [intOf]; omega
        · have hbq : (r == q) = false := beq_eq_false_iff_ne.2 hrq
          have HF : Hid (S = false) := Lib.hid (by
            rw [HS.out, beq_eq_false_iff_ne]
            intro e
            apply hrq
            rw [HR.out, HQ.out]
            simp only [e])
          have hlen : rs.length = rs.length := rfl
          clear hrq
          go_wp2_with fail
          go_still_tail 8, (by kernel_rfl)
          change wpList _ _ _ _ _ wr.drew
          go_wp2_with (go_at_call 38; refine (sameBytes_any _ _ _ _ _ _ _ _ _ _ _ (HB1.out.kept (Kept.of_below (fun _ => False) (Below.refl _ _).drew) (fun _ _ _ h => h)) (HB2.out.kept (Kept.of_below (fun _ => False) (Below.refl _ _).drew) (fun _ _ _ h => h))).mono ?_; rintro e w2 ⟨rfl, rfl⟩; rw [hbq])
          go_ret
          exact ⟨by rw [HF.out]; rfl, HBL.out.drew⟩
      · obtain rfl : i = n := by omega
        have HF : Hid (S = true) := Lib.hid (by
          rw [HS.out, beq_iff_eq]
          have e1 : rs.take i = rs := List.take_of_length_le (by rw [HN.out]; exact Nat.le_refl _)
          have e2 : qs.take i = qs := List.take_of_length_le (by rw [HK.out]; exact Nat.le_refl _)
          rw [e1, e2] at heq
          exact heq)
        have HBL := Lib.hid hbl
        clear heq hbl hlt
        go_wp2
        go_ret
        exact ⟨by rw [HF.out]; rfl, HBL.out⟩
  · have hne2 : ¬ ((n : Int) = (k : Int)) := by omega
    have HF : Hid (S = false) := Lib.hid (by
      rw [HS.out]
      rw [beq_eq_false_iff_ne]
      intro e
      apply hne
      rw [← HN.out, ← HK.out, e])
    clear hne
    go_enter Try.func32, Try.ntmps32
    go_wp2_with fail
    go_ret
    exact ⟨by rw [HF.out]; rfl, Below.refl _ _⟩
end Go.Proofs.Ythffegfcgmhppaa
namespace Go.Proofs.Ythffegfcgmhppaa
open Go.RowKit
set_option linter.unusedSimpArgs false
set_option linter.unusedVariables false
def Dop7 : List (Option Tmp) := [some 36, some 37, some 38, some 39, some 40, some 35, some 41, some 42, some 11, none, some 12]
def Lop7 : List (List Nat) := [[], [0], [], [2], [1, 3], [4], [5], [5], [], [8, 6], [7]]
/-- what may be done to a block that is being made -/
def SZ (rr ee : Nat) (p p2 : World) : Prop := (∀ x : Nat, p.heap[x]? = some (.cells #[.int .u8 0, .int .i64 0] 76 (0, 0)) → p2.heap[x]? = some (.cells #[.int .u8 0, .int .i64 0] 76 (0, 0)) ∨ p2.heap[x]? = some (.cells #[.int .u8 (rr : Int), .int .i64 (ee : Int)] 76 (0, 0))) ∧ ∀ x : Nat, p.heap[x]? = some (.cells #[.int .u8 (rr : Int), .int .i64 (ee : Int)] 76 (0, 0)) → p2.heap[x]? = some (.cells #[.int .u8 (rr : Int), .int .i64 (ee : Int)] 76 (0, 0))
theorem SZ.refl (rr ee : Nat) (p : World) : SZ rr ee p p := ⟨fun _ h => .inl h, fun _ h => h⟩
theorem SZ.of_below {rr ee : Nat} {p p2 : World} (h : Below p.heap.size p p2) : SZ rr ee p p2 := ⟨fun x hx => .inl ((Kept.of_below (fun _ => False) h).heap hx (fun h => h)), fun x hx => (Kept.of_below (fun _ => False) h).heap hx (fun h => h)⟩
theorem SZ.of_set {rr ee : Nat} {p : World} {x : Nat} {old : Array Value} (h : p.heap[x]? = some (.cells old 76 (0, 0))) : SZ rr ee p (p.setRow x #[.int .u8 (rr : Int), .int .i64 (ee : Int)]) := by
  have hk : Kept (fun y => y = x) p (p.setRow x #[.int .u8 (rr : Int), .int .i64 (ee : Int)]) := (Kept.refl (fun y => y = x) p).setRow (fun _ => rfl) _
  refine ⟨fun y hy => ?_, fun y hy => ?_⟩
  · by_cases e : y = x
    · rw [e]; exact .inr (setRow_heap _ _ _ _ _ _ h)
    · exact .inl (hk.heap hy e)
  · by_cases e : y = x
    · rw [e]; exact setRow_heap _ _ _ _ _ _ h
    · exact hk.heap hy e
section
variable {w0 w : World} {L : List Obj} {g j : Nat} {d : DM}
set_option maxRecDepth 100000 in
set_option maxHeartbeats 2000000 in
theorem open_bad (h : Lv w0 w L) (hj : L[j]? = some (diskO g d)) (f n : Int) (f1 : -9223372036854775808 ≤ f) (f2 : f ≤ 9223372036854775807) (n1 : -9223372036854775808 ≤ n) (n2 : n ≤ 9223372036854775807) (hv : validB d.S.length f n = false) :
    Calls Try.prog 18 #[.pointer (some ⟨g, 0, none⟩), .int .i64 f, .int .i64 n] w fun x w' => x = .returned (.tuple #[.pointer none, .int .i64 5]) ∧ w = w' := by
  have HC := Lib.hid (valid_lv h hj f n f1 f2 n1 n2)
  rw [hv] at HC
  clear h hj hv
  go_enter Try.func18, Try.ntmps18
  go_wp2_with (go_at_call 40; refine HC.out.mono ?_; rintro e w2 ⟨rfl, rfl⟩)
  go_ret2
  exact ⟨rfl, rfl⟩
set_option maxRecDepth 100000 in
set_option maxHeartbeats 2000000 in
theorem open_off (h : Lv w0 w L) (hj : L[j]? = some (diskO g d)) (f n : Nat) (hf : f ≤ 4096) (hn : n ≤ 4096) (hv : validB d.S.length f n = true) (ho : d.on = false) :
    Calls Try.prog 18 #[.pointer (some ⟨g, 0, none⟩), .int .i64 (f : Int), .int .i64 (n : Int)] w fun x w' => x = .returned (.tuple #[.pointer none, .int .i64 10]) ∧ Lv w0 w' L := by
  have hd1 : 4 ≤ (n : Int) ∧ 0 ≤ (f : Int) ∧ (n : Int) ≤ (d.S.length : Int) - (f : Int) := by unfold validB at hv; exact of_decide_eq_true hv
  have HC := Lib.hid (valid_lv h hj f n (by omega) (by omega) (by omega) (by omega))
  rw [hv] at HC
  obtain ⟨w1, hw1⟩ : ∃ w1, w1 = w.alloc (.cells #[.pointer (some ⟨g, 0, none⟩), .int .i64 (f : Int), .int .i64 (n : Int), .int .u8 0, .int .i64 0, .slice none 0 0, .int .i64 0, .int .i64 0] 78) := ⟨_, rfl⟩
  obtain ⟨gl, hgl⟩ : ∃ gl, gl = w.heap.size := ⟨_, rfl⟩
  have HL1 : Hid (Lv w0 w1 (logO gl g (LM.new f n) :: L)) := Lib.hid (by rw [hw1, hgl]; exact h.logNew g f n)
  have hbl := run_buildL g f n
  have HW1 := Lib.hid hw1
  have HGL := Lib.hid hgl
  have HJ := Lib.hid hj
  have HON := Lib.hid ho
  have HFN : Hid (f + n ≤ d.S.length ∧ 4 ≤ n ∧ d.S.length ≤ 4096) := Lib.hid ⟨by omega, by omega, (h.ok hj).2.1⟩
  have HRD0 : Hid (Calls Try.prog 46 #[.pointer (some ⟨gl, 0, none⟩), .int .i64 0, .int .i64 128] w1 fun x w' => x = .returned (.tuple #[.slice none 0 0, .int .i64 10]) ∧ Lv w0 w' (logO gl g (LM.new f n) :: L)) := Lib.hid (read_log_off HL1.out (ii := 0) (j := j + 1) rfl (by simpa using hj) 128 (by omega) (by omega) (show f < d.S.length by omega) ho)
  clear h hj hv ho hw1 hgl hd1
  go_enter Try.func18, Try.ntmps18
  go_upto_region 4 with (go_at_call 40; refine HC.out.mono ?_; rintro e w2 ⟨rfl, rfl⟩; clear HC)
  rw [← HW1.out, ← HGL.out]
  go_wp2_with (go_at_call 46; refine HRD0.out.mono ?_; rintro x q ⟨rfl, hl2⟩; have HL2 := Lib.hid hl2; clear hl2 HRD0)
  go_ret2
  exact ⟨rfl, HL2.out.tail⟩
set_option maxRecDepth 100000 in
set_option maxHeartbeats 4000000 in
theorem open_form (h : Lv w0 w L) (hj : L[j]? = some (diskO g d)) (f n : Nat) (hf : f ≤ 4096) (hn : n ≤ 4096) (hv : validB d.S.length f n = true) (ho : d.on = true) (hbad : newOk (lastB (d.S.getD f [])) (lastB (d.S.getD (f + 1) [])) = false ∨ n * 64 < endF (newS (lastB (d.S.getD f [])) (lastB (d.S.getD (f + 1) [])))) :
    Calls Try.prog 18 #[.pointer (some ⟨g, 0, none⟩), .int .i64 (f : Int), .int .i64 (n : Int)] w fun x w' => x = .returned (.tuple #[.pointer none, .int .i64 7]) ∧ Lv w0 w' L := by
  have hd1 : 4 ≤ (n : Int) ∧ 0 ≤ (f : Int) ∧ (n : Int) ≤ (d.S.length : Int) - (f : Int) := by unfold validB at hv; exact of_decide_eq_true hv
  have HC := Lib.hid (valid_lv h hj f n (by omega) (by omega) (by omega) (by omega))
  rw [hv] at HC
  obtain ⟨w1, hw1⟩ : ∃ w1, w1 = w.alloc (.cells #[.pointer (some ⟨g, 0, none⟩), .int .i64 (f : Int), .int .i64 (n : Int), .int .u8 0, .int .i64 0, .slice none 0 0, .int .i64 0, .int .i64 0] 78) := ⟨_, rfl⟩
  obtain ⟨gl, hgl⟩ : ∃ gl, gl = w.heap.size := ⟨_, rfl⟩
  have HL1 : Hid (Lv w0 w1 (logO gl g (LM.new f n) :: L)) := Lib.hid (by rw [hw1, hgl]; exact h.logNew g f n)
  have hbl := run_buildL g f n
  have HW1 := Lib.hid hw1
  have HGL := Lib.hid hgl
  have HJ := Lib.hid hj
  have HON := Lib.hid ho
  have HFN : Hid (f + n ≤ d.S.length ∧ 4 ≤ n ∧ d.S.length ≤ 4096) := Lib.hid ⟨by omega, by omega, (h.ok hj).2.1⟩
  have h64 := (h.ok hj).2.2.2
  have h6 : ∀ k, k < d.S.length → (lastB (d.S.getD k [])).length = 64 := fun k hk => by
    rw [List.getD_eq_getElem?_getD, List.getElem?_eq_getElem hk, Option.getD_some]
    have := h64 _ (List.getElem_mem hk)
    exact this.2 _ (lastB_mem this.1)
  obtain ⟨f0, hf0⟩ : ∃ f0, f0 = lastB (d.S.getD f []) := ⟨_, rfl⟩
  obtain ⟨s0, hs0⟩ : ∃ s0, s0 = lastB (d.S.getD (f + 1) []) := ⟨_, rfl⟩
  have hf0l : f0.length = 64 := by rw [hf0]; exact h6 _ (by omega)
  have hs0l : s0.length = 64 := by rw [hs0]; exact h6 _ (by omega)
  obtain ⟨hd, hhd⟩ : ∃ hd, hd = f0 ++ s0 := ⟨_, rfl⟩
  have hsec : (secsB d (f + 0) 2).take (128 - 0 * 64) = hd := by
    have e1 : secsB d (f + 0) 2 = hd := by rw [hhd, hf0, hs0]; simp [secsB, List.range_succ]
    rw [e1]
    exact List.take_of_length_le (by rw [hhd, List.length_append, hf0l, hs0l]; omega)
  rw [← hf0, ← hs0] at hbad
  obtain ⟨rr, hrr⟩ : ∃ rr, rr = bN (newS f0 s0) 0 := ⟨_, rfl⟩
  obtain ⟨ee, hee⟩ : ∃ ee, ee = endF (newS f0 s0) := ⟨_, rfl⟩
  obtain ⟨nk, hnk⟩ : ∃ nk, nk = newOk f0 s0 := ⟨_, rfl⟩
  have HRR := Lib.hid hrr.symm
  have HEE := Lib.hid hee.symm
  have HNK := Lib.hid hnk.symm
  have hrrb : rr < 256 := by rw [hrr]; exact bN_lt _ _
  have heeb : ee < 16777216 := by
    rw [hee]; unfold endF
    have e1 := bN_lt (newS f0 s0) 1
    have e2 := bN_lt (newS f0 s0) 2
    have e3 := bN_lt (newS f0 s0) 3
    omega
  have hwn : IntKind.i64.wrap ((n : Int) * 64) = (n : Int) * 64 := i64_id _ (by omega) (by omega)
  have HRD0 : Hid (Calls Try.prog 46 #[.pointer (some ⟨gl, 0, none⟩), .int .i64 0, .int .i64 128] w1 fun x w' => ∃ v, x = .returned (.tuple #[v, .int .i64 0]) ∧ Lv w0 w' (bytesO v hd :: logO gl g (LM.new f n) :: L)) := Lib.hid (by
    have := read_log HL1.out (ii := 0) (j := j + 1) rfl (by simpa using hj) 0 128 2 (by omega) (by omega) (by omega) (by omega) (show f + 0 + 2 ≤ d.S.length by omega) ho
    rw [show (secsB d ((LM.new f n).frm + 0) 2).take (128 - 0 * 64) = hd from hsec] at this
    exact this)
  have hhl : hd.length = 128 := by rw [hhd, List.length_append, hf0l, hs0l]
  have HHD : Hid (hd.take 64 = f0 ∧ hd.drop 64 = s0) := Lib.hid ⟨by rw [hhd, ← hf0l, List.take_left], by rw [hhd, ← hf0l, List.drop_left]⟩
  have HHL := Lib.hid hhl
  have HBAD : Hid (nk = false ∨ n * 64 < ee) := Lib.hid (by rw [hnk, hee]; exact hbad)
  clear h hj hv ho hw1 hgl hd1 h64 h6 hf0 hs0 hf0l hs0l hhd hsec hbad hrr hee hnk hhl
  go_enter Try.func18, Try.ntmps18
  go_upto_region 4 with (go_at_call 40; refine HC.out.mono ?_; rintro e w2 ⟨rfl, rfl⟩; clear HC)
  rw [← HW1.out, ← HGL.out]
  go_upto_region 5 with (go_at_call 46; refine HRD0.out.mono ?_; rintro x q ⟨v, rfl, hl2⟩; have HL2 := Lib.hid hl2; clear hl2 HRD0)
  obtain ⟨BB, ⟨ah, hc, e9, hbs⟩, -, -, -⟩ := HL2.out.get (i := 0) rfl
  rw [HHL.out] at e9 hbs
  subst e9
  obtain ⟨hb, ho, -, -, rfl, -⟩ := hbs.cells (by omega)
  have hc1 : 128 ≤ hc := hbs.2.2.1
  have hc2 : hc ≤ 9223372036854775807 := hbs.2.2.2.1
  have HB1 : Hid (Bs BB q (some ⟨hb, ho, none⟩) 64 hc f0) := Lib.hid (by have := hbs.upto 64 (by omega); rwa [HHD.out.1] at this)
  have HB2 : Hid (Bs BB q (some ⟨hb, ho + 64, none⟩) 64 (hc - 64) s0) := Lib.hid (by have := hbs.past 64 (by omega); rwa [HHD.out.2] at this)
  have HHC : Hid (¬ hc = 64 ∧ (64 : Int) ≤ (hc : Int)) := Lib.hid ⟨by omega, by omega⟩
  clear hbs
  go_wp2_with fail
  refine Roll.region_w 11 100 Dop7 Lop7 [(9, .slice (some ⟨hb, ho, none⟩) 128 hc)] 9 [true, true, true, true, false, true, true, true, false, false, true] (fun p => Below q.heap.size q p) (fun vv p => Below q.heap.size q p) (fun p => Below q.heap.size q p) (SZ rr ee) [fun vv p => (vv 0) = .slice (some ⟨hb, ho, none⟩) 128 hc, fun vv p => (vv 1) = .slice (some ⟨hb, ho, none⟩) 64 hc, fun vv p => (vv 2) = .slice (some ⟨hb, ho, none⟩) 128 hc, fun vv p => (vv 3) = .slice (some ⟨hb, ho + 64, none⟩) 64 (hc - 64), fun vv p => (vv 4) = .tuple #[.agg #[.int .u8 (rr : Int), .int .i64 (ee : Int)], .bool nk], fun vv p => (vv 5) = .tuple #[.agg #[.int .u8 (rr : Int), .int .i64 (ee : Int)], .bool nk], fun vv p => (vv 6) = .agg #[.int .u8 (rr : Int), .int .i64 (ee : Int)], fun vv p => (vv 7) = .bool nk, fun vv p => ∃ x, (vv 8) = .pointer (some ⟨x, 0, none⟩) ∧ q.heap.size ≤ x ∧ (p.heap[x]? = some (.cells #[.int .u8 0, .int .i64 0] 76 (0, 0)) ∨ p.heap[x]? = some (.cells #[.int .u8 (rr : Int), .int .i64 (ee : Int)] 76 (0, 0))), fun vv p => ∃ x, (vv 8) = .pointer (some ⟨x, 0, none⟩) ∧ q.heap.size ≤ x ∧ p.heap[x]? = some (.cells #[.int .u8 (rr : Int), .int .i64 (ee : Int)] 76 (0, 0)), fun vv p => (vv 10) = .bool nk] (by kernel_rfl) (by kernel_rfl) rfl ⟨rfl, trivial⟩ ((Below.refl _ _).drew) (by decide) (by kernel_rfl) (fun _ h => h) (fun _ _ h => h) (fun _ => SZ.refl _ _ _) ?_ ?_ ?_
  · exact ⟨fun _ _ _ _ h => h, fun _ _ _ _ h => h, fun _ _ _ _ h => h, fun _ _ _ _ h => h, fun _ _ _ _ h => h, fun _ _ _ _ h => h, fun _ _ _ _ h => h, fun _ _ _ _ h => h, fun _ _ _ hs h => by obtain ⟨x, e1, e2, e3⟩ := h; exact ⟨x, e1, e2, e3.elim (hs.1 x) (fun h => .inr (hs.2 x h))⟩, fun _ _ _ hs h => by obtain ⟨x, e1, e2, e3⟩ := h; exact ⟨x, e1, e2, hs.2 x e3⟩, fun _ _ _ _ h => h, trivial⟩
  · intro b0 hN hlv
    refine ⟨?_, ?_, ?_, ?_, ?_, ?_, ?_, ?_, ?_, ?_, ?_, trivial⟩
    · intro vs p hI0 hp
      have hI := Roll.inw_pure (by decide) rfl hI0
      clear hI0
      have e9 : (Roll.putD Dop7 vs [] b0).eval (.tmp 9) = .slice (some ⟨hb, ho, none⟩) 128 hc := (Roll.eval_old rfl).trans (hlv.at 0 (9, .slice (some ⟨hb, ho, none⟩) 128 hc) rfl)
      clear hp hlv hN
      unfold Roll.Goes
      simp only [Lop7, List.getD_cons_zero, List.getD_cons_succ]
      generalize Roll.putD Dop7 vs [] b0 = a1 at *
      refine Roll.goes_val (w' := p) (.slice (some ⟨hb, ho, none⟩) 128 hc) rfl ?_ ⟨(Roll.outw_pure (by decide) rfl), rfl⟩
      (have ec : ∀ x, a1.eval (.const x) = x := fun _ => rfl); (have ef : ∀ x, a1.eval (.func x) = .func (.func x) #[] #[] := fun _ => rfl); generalize a1.eval = ρ at *
      skip
      go_simp <;> (intros; first | (exfalso; omega) | rfl)
    · intro vs p hI0 hp
      have hI := Roll.inw_pure (by decide) rfl hI0
      clear hI0
      have h0 : (vs 0) = .slice (some ⟨hb, ho, none⟩) 128 hc := hp 0 (by simp [Lop7])
      have e36 : (Roll.putD Dop7 vs [0] b0).eval (.tmp 36) = .slice (some ⟨hb, ho, none⟩) 128 hc := (Roll.eval_new 0 rfl (by decide) (by decide) (by omega)).trans h0
      clear hp hlv hN
      unfold Roll.Goes
      simp only [Lop7, List.getD_cons_zero, List.getD_cons_succ]
      generalize Roll.putD Dop7 vs [0] b0 = a1 at *
      have hh := HHC.out.1
      refine Roll.goes_val (w' := p) (.slice (some ⟨hb, ho, none⟩) 64 hc) rfl ?_ ⟨(Roll.outw_pure (by decide) rfl), rfl⟩
      (have ec : ∀ x, a1.eval (.const x) = x := fun _ => rfl); (have ef : ∀ x, a1.eval (.func x) = .func (.func x) #[] #[] := fun _ => rfl); generalize a1.eval = ρ at *
      clear h0
      go_simp <;> (intros; first | (exfalso; omega) | rfl)
    · intro vs p hI0 hp
      have hI := Roll.inw_pure (by decide) rfl hI0
      clear hI0
      have e9 : (Roll.putD Dop7 vs [] b0).eval (.tmp 9) = .slice (some ⟨hb, ho, none⟩) 128 hc := (Roll.eval_old rfl).trans (hlv.at 0 (9, .slice (some ⟨hb, ho, none⟩) 128 hc) rfl)
      clear hp hlv hN
      unfold Roll.Goes
      simp only [Lop7, List.getD_cons_zero, List.getD_cons_succ]
      generalize Roll.putD Dop7 vs [] b0 = a1 at *
      refine Roll.goes_val (w' := p) (.slice (some ⟨hb, ho, none⟩) 128 hc) rfl ?_ ⟨(Roll.outw_pure (by decide) rfl), rfl⟩
      (have ec : ∀ x, a1.eval (.const x) = x := fun _ => rfl); (have ef : ∀ x, a1.eval (.func x) = .func (.func x) #[] #[] := fun _ => rfl); generalize a1.eval = ρ at *
      skip
      go_simp <;> (intros; first | (exfalso; omega) | rfl)
    · intro vs p hI0 hp
      have hI := Roll.inw_pure (by decide) rfl hI0
      clear hI0
      have h2 : (vs 2) = .slice (some ⟨hb, ho, none⟩) 128 hc := hp 2 (by simp [Lop7])
      have e38 : (Roll.putD Dop7 vs [2] b0).eval (.tmp 38) = .slice (some ⟨hb, ho, none⟩) 128 hc := (Roll.eval_new 2 rfl (by decide) (by decide) (by omega)).trans h2
      clear hp hlv hN
      unfold Roll.Goes
      simp only [Lop7, List.getD_cons_zero, List.getD_cons_succ]
      generalize Roll.putD Dop7 vs [2] b0 = a1 at *
      have hh := HHC.out.1
      have hh2 := HHC.out.2
      refine Roll.goes_val (w' := p) (.slice (some ⟨hb, ho + 64, none⟩) 64 (hc - 64)) rfl ?_ ⟨(Roll.outw_pure (by decide) rfl), rfl⟩
      (have ec : ∀ x, a1.eval (.const x) = x := fun _ => rfl); (have ef : ∀ x, a1.eval (.func x) = .func (.func x) #[] #[] := fun _ => rfl); generalize a1.eval = ρ at *
      clear h2
      go_simp <;> (intros; first | (exfalso; omega) | rfl)
    · intro vs p hI0 hp
      have hI := Roll.inw_pre (by decide) rfl hI0
      clear hI0
      have h1 : (vs 1) = .slice (some ⟨hb, ho, none⟩) 64 hc := hp 1 (by simp [Lop7])
      have h3 : (vs 3) = .slice (some ⟨hb, ho + 64, none⟩) 64 (hc - 64) := hp 3 (by simp [Lop7])
      have e37 : (Roll.putD Dop7 vs [1, 3] b0).eval (.tmp 37) = .slice (some ⟨hb, ho, none⟩) 64 hc := (Roll.eval_new 1 rfl (by decide) (by decide) (by omega)).trans h1
      have e39 : (Roll.putD Dop7 vs [1, 3] b0).eval (.tmp 39) = .slice (some ⟨hb, ho + 64, none⟩) 64 (hc - 64) := (Roll.eval_new 3 rfl (by decide) (by decide) (by omega)).trans h3
      clear hp hlv hN
      unfold Roll.Goes
      simp only [Lop7, List.getD_cons_zero, List.getD_cons_succ]
      generalize Roll.putD Dop7 vs [1, 3] b0 = a1 at *
      refine Roll.goes_call 47 #[.slice (some ⟨hb, ho, none⟩) 64 hc, .slice (some ⟨hb, ho + 64, none⟩) 64 (hc - 64)] p rfl (by have ec : ∀ x, a1.eval (.const x) = x := fun _ => rfl; have ef : ∀ x, a1.eval (.func x) = .func (.func x) #[] #[] := fun _ => rfl; generalize a1.eval = ρ at *; go_simp) ?_
      refine (newest_any _ _ _ _ _ _ f0 s0 p (HB1.out.kept (Kept.of_below (fun _ => False) hI) (fun _ _ _ h => h)) (HB2.out.kept (Kept.of_below (fun _ => False) hI) (fun _ _ _ h => h))).mono ?_
      rintro y p2 ⟨rfl, hbl⟩
      exact ⟨_, rfl, Roll.outw_pre (by decide) rfl (hI.trans (hbl.mono hI.size)) (SZ.of_below hbl), by show Value.tuple _ = Value.tuple _; rw [HRR.out, HEE.out, HNK.out]⟩
    · intro vs p hI0 hp
      have hI := Roll.inw_pure (by decide) rfl hI0
      clear hI0
      have h4 : (vs 4) = .tuple #[.agg #[.int .u8 (rr : Int), .int .i64 (ee : Int)], .bool nk] := hp 4 (by simp [Lop7])
      have e40 : (Roll.putD Dop7 vs [4] b0).eval (.tmp 40) = .tuple #[.agg #[.int .u8 (rr : Int), .int .i64 (ee : Int)], .bool nk] := (Roll.eval_new 4 rfl (by decide) (by decide) (by omega)).trans h4
      clear hp hlv hN
      unfold Roll.Goes
      simp only [Lop7, List.getD_cons_zero, List.getD_cons_succ]
      generalize Roll.putD Dop7 vs [4] b0 = a1 at *
      refine Roll.goes_val (w' := p) (.tuple #[.agg #[.int .u8 (rr : Int), .int .i64 (ee : Int)], .bool nk]) rfl ?_ ⟨(Roll.outw_pure (by decide) rfl), rfl⟩
      (have ec : ∀ x, a1.eval (.const x) = x := fun _ => rfl); (have ef : ∀ x, a1.eval (.func x) = .func (.func x) #[] #[] := fun _ => rfl); generalize a1.eval = ρ at *
      clear h4
      go_simp <;> (intros; first | (exfalso; omega) | rfl)
    · intro vs p hI0 hp
      have hI := Roll.inw_pure (by decide) rfl hI0
      clear hI0
      have h5 : (vs 5) = .tuple #[.agg #[.int .u8 (rr : Int), .int .i64 (ee : Int)], .bool nk] := hp 5 (by simp [Lop7])
      have e35 : (Roll.putD Dop7 vs [5] b0).eval (.tmp 35) = .tuple #[.agg #[.int .u8 (rr : Int), .int .i64 (ee : Int)], .bool nk] := (Roll.eval_new 5 rfl (by decide) (by decide) (by omega)).trans h5
      clear hp hlv hN
      unfold Roll.Goes
      simp only [Lop7, List.getD_cons_zero, List.getD_cons_succ]
      generalize Roll.putD Dop7 vs [5] b0 = a1 at *
      refine Roll.goes_val (w' := p) (.agg #[.int .u8 (rr : Int), .int .i64 (ee : Int)]) rfl ?_ ⟨(Roll.outw_pure (by decide) rfl), rfl⟩
      (have ec : ∀ x, a1.eval (.const x) = x := fun _ => rfl); (have ef : ∀ x, a1.eval (.func x) = .func (.func x) #[] #[] := fun _ => rfl); generalize a1.eval = ρ at *
      clear h5
      go_simp <;> (intros; first | (exfalso; omega) | rfl)
    · intro vs p hI0 hp
      have hI := Roll.inw_pure (by decide) rfl hI0
      clear hI0
      have h5 : (vs 5) = .tuple #[.agg #[.int .u8 (rr : Int), .int .i64 (ee : Int)], .bool nk] := hp 5 (by simp [Lop7])
      have e35 : (Roll.putD Dop7 vs [5] b0).eval (.tmp 35) = .tuple #[.agg #[.int .u8 (rr : Int), .int .i64 (ee : Int)], .bool nk] := (Roll.eval_new 5 rfl (by decide) (by decide) (by omega)).trans h5
      clear hp hlv hN
      unfold Roll.Goes
      simp only [Lop7, List.getD_cons_zero, List.getD_cons_succ]
      generalize Roll.putD Dop7 vs [5] b0 = a1 at *
      refine Roll.goes_val (w' := p) (.bool nk) rfl ?_ ⟨(Roll.outw_pure (by decide) rfl), rfl⟩
      (have ec : ∀ x, a1.eval (.const x) = x := fun _ => rfl); (have ef : ∀ x, a1.eval (.func x) = .func (.func x) #[] #[] := fun _ => rfl); generalize a1.eval = ρ at *
      clear h5
      go_simp <;> (intros; first | (exfalso; omega) | rfl)
    · intro vs p hI0 hp
      have hI := Roll.inw_pre (by decide) rfl hI0
      clear hI0
      clear hp hlv hN
      unfold Roll.Goes
      simp only [Lop7, List.getD_cons_zero, List.getD_cons_succ]
      generalize Roll.putD Dop7 vs [] b0 = a1 at *
      have hal : Below p.heap.size p (p.alloc (.cells #[.int .u8 0, .int .i64 0] 76)) := (Below.refl _ _).alloc (Nat.le_refl _) _
      refine Roll.goes_val (w' := p.alloc (.cells #[.int .u8 0, .int .i64 0] 76)) (.pointer (some ⟨p.heap.size, 0, none⟩)) rfl (by have ec : ∀ x, a1.eval (.const x) = x := fun _ => rfl; have ef : ∀ x, a1.eval (.func x) = .func (.func x) #[] #[] := fun _ => rfl; have hbs := run_allocS; generalize a1.eval = ρ at *; go_simp <;> (intros; first | (exfalso; omega) | rfl)) ⟨Roll.outw_pre (by decide) rfl (hI.trans (hal.mono hI.size)) (SZ.of_below hal), p.heap.size, rfl, hI.size, .inl (heap_new rfl)⟩
    · intro vs p hI0 hp
      have hI := Roll.inw_k0 rfl hI0
      clear hI0
      have h8 : ∃ x, (vs 8) = .pointer (some ⟨x, 0, none⟩) ∧ q.heap.size ≤ x ∧ (p.heap[x]? = some (.cells #[.int .u8 0, .int .i64 0] 76 (0, 0)) ∨ p.heap[x]? = some (.cells #[.int .u8 (rr : Int), .int .i64 (ee : Int)] 76 (0, 0))) := hp 8 (by simp [Lop7])
      have h6 : (vs 6) = .agg #[.int .u8 (rr : Int), .int .i64 (ee : Int)] := hp 6 (by simp [Lop7])
      have e11 : (Roll.putD Dop7 vs [8, 6] b0).eval (.tmp 11) = vs 8 := (Roll.eval_new 8 rfl (by decide) (by decide) (by omega))
      have e41 : (Roll.putD Dop7 vs [8, 6] b0).eval (.tmp 41) = .agg #[.int .u8 (rr : Int), .int .i64 (ee : Int)] := (Roll.eval_new 6 rfl (by decide) (by decide) (by omega)).trans h6
      clear hp hlv hN
      unfold Roll.Goes
      simp only [Lop7, List.getD_cons_zero, List.getD_cons_succ]
      generalize Roll.putD Dop7 vs [8, 6] b0 = a1 at *
      obtain ⟨x, hv8, hx, hz⟩ := h8
      rw [hv8] at e11
      rcases hz with hz | hz <;>
        (refine Roll.goes_store_row rfl 76 (.tmp 11) (.tmp 41) rfl x _ e11 e41 76 _ hz (sizeS _ _) rfl (oneS _ _) ?_
         exact ⟨Roll.outw_k0 rfl (below_setRow hI hx _) (SZ.of_set hz), x, hv8, hx, setRow_heap _ _ _ _ _ _ hz⟩)
    · intro vs p hI0 hp
      have hI := Roll.inw_pure (by decide) rfl hI0
      clear hI0
      have h7 : (vs 7) = .bool nk := hp 7 (by simp [Lop7])
      have e42 : (Roll.putD Dop7 vs [7] b0).eval (.tmp 42) = .bool nk := (Roll.eval_new 7 rfl (by decide) (by decide) (by omega)).trans h7
      clear hp hlv hN
      unfold Roll.Goes
      simp only [Lop7, List.getD_cons_zero, List.getD_cons_succ]
      generalize Roll.putD Dop7 vs [7] b0 = a1 at *
      refine Roll.goes_val (w' := p) (.bool nk) rfl ?_ ⟨(Roll.outw_pure (by decide) rfl), rfl⟩
      (have ec : ∀ x, a1.eval (.const x) = x := fun _ => rfl); (have ef : ∀ x, a1.eval (.func x) = .func (.func x) #[] #[] := fun _ => rfl); generalize a1.eval = ρ at *
      clear h7
      go_simp <;> (intros; first | (exfalso; omega) | rfl)
  · intro vs p hI hR
    have h0 : (vs 0) = .slice (some ⟨hb, ho, none⟩) 128 hc := hR 0 (by omega)
    have h1 : (vs 1) = .slice (some ⟨hb, ho, none⟩) 64 hc := hR 1 (by omega)
    have h2 : (vs 2) = .slice (some ⟨hb, ho, none⟩) 128 hc := hR 2 (by omega)
    have h3 : (vs 3) = .slice (some ⟨hb, ho + 64, none⟩) 64 (hc - 64) := hR 3 (by omega)
    have h4 : (vs 4) = .tuple #[.agg #[.int .u8 (rr : Int), .int .i64 (ee : Int)], .bool nk] := hR 4 (by omega)
    have h5 : (vs 5) = .tuple #[.agg #[.int .u8 (rr : Int), .int .i64 (ee : Int)], .bool nk] := hR 5 (by omega)
    have h6 : (vs 6) = .agg #[.int .u8 (rr : Int), .int .i64 (ee : Int)] := hR 6 (by omega)
    have h7 : (vs 7) = .bool nk := hR 7 (by omega)
    have h8 : ∃ x, (vs 8) = .pointer (some ⟨x, 0, none⟩) ∧ q.heap.size ≤ x ∧ (p.heap[x]? = some (.cells #[.int .u8 0, .int .i64 0] 76 (0, 0)) ∨ p.heap[x]? = some (.cells #[.int .u8 (rr : Int), .int .i64 (ee : Int)] 76 (0, 0))) := hR 8 (by omega)
    have h9 : ∃ x, (vs 8) = .pointer (some ⟨x, 0, none⟩) ∧ q.heap.size ≤ x ∧ p.heap[x]? = some (.cells #[.int .u8 (rr : Int), .int .i64 (ee : Int)] 76 (0, 0)) := hR 9 (by omega)
    have h10 : (vs 10) = .bool nk := hR 10 (by omega)
    clear hR
    simp only [List.range_succ, List.range_zero, List.nil_append, List.cons_append, Roll.putD, Act.put, List.getD_cons_zero, List.getD_cons_succ, List.setIfInBounds_toArray, List.set_cons_zero, List.set_cons_succ, List.drop_succ_cons, List.drop_zero, Dop7]
    simp only [h0, h1, h2, h3, h4, h5, h6, h7, h10]
    clear h0 h1 h2 h3 h4 h5 h6 h7 h10
    clear h8
    generalize vs 8 = v8 at *
    obtain ⟨g11, rfl, hg11, hz11⟩ := h9
    have HBp := Lib.hid hI
    have HL3 := Lib.hid (HL2.out.cons hI (o := stateO g11 rr ee) (B := fun x => x = g11) ⟨hz11, rfl⟩ (fun x hx => by subst hx; exact ⟨hg11, (Array.getElem?_eq_some_iff.1 hz11).1⟩))
    have HZ11 := Lib.hid hz11
    have HG11 := Lib.hid hg11
    have c111 : p.cell? ⟨g11, 1, none⟩ = some (.int .i64 (ee : Int)) := by rw [cell_of_row p g11 1 _ _ _ hz11]; rfl
    clear hI hz11 hg11 HL2
    rcases HBAD.out with hb | hb
    · subst hb
      go_wp2_with fail
      go_ret2
      exact ⟨rfl, HL3.out.tail.tail.tail⟩
    · cases nk with
      | false =>
        go_wp2_with fail
        go_ret2
        exact ⟨rfl, HL3.out.tail.tail.tail⟩
      | true =>
        have hb1 : ((n * 64 : Nat) : Int) < (ee : Int) := by omega
        have hb2 : (n : Int) * 64 < (ee : Int) := by omega
        go_wp2_with fail
        go_ret2
        exact ⟨rfl, HL3.out.tail.tail.tail⟩
set_option maxRecDepth 100000 in
set_option maxHeartbeats 8000000 in
theorem open_ok (h : Lv w0 w L) (hj : L[j]? = some (diskO g d)) (f n : Nat) (hf : f ≤ 4096) (hn : n ≤ 4096) (hv : validB d.S.length f n = true) (ho : d.on = true) (rs : List (List UInt8)) (cnt : Nat) (hgood : newOk (lastB (d.S.getD f [])) (lastB (d.S.getD (f + 1) [])) = true ∧ endF (newS (lastB (d.S.getD f [])) (lastB (d.S.getD (f + 1) []))) = 128 + lenB rs) (hen : 128 + lenB rs ≤ n * 64) (hcn : lenB rs ≤ cnt * 64 ∧ cnt * 64 < lenB rs + 64) (hjb : (secsB d (f + 2) cnt).take (lenB rs) = joinB rs) (h64 : ∀ r ∈ rs, r.length < 65536) (htk : takR rs ≤ 1000000000) (hrlb : rs.length ≤ 1000000) :
    Calls Try.prog 18 #[.pointer (some ⟨g, 0, none⟩), .int .i64 (f : Int), .int .i64 (n : Int)] w fun x w' => ∃ gl, x = .returned (.tuple #[.pointer (some ⟨gl, 0, none⟩), .int .i64 0]) ∧ Lv w0 w' (logO gl g ⟨f, n, bN (newS (lastB (d.S.getD f [])) (lastB (d.S.getD (f + 1) []))) 0, 128 + lenB rs, rs, rs.length, takR rs⟩ :: L) := by
  have H64 := Lib.hid h64
  clear h64
  have hd1 : 4 ≤ (n : Int) ∧ 0 ≤ (f : Int) ∧ (n : Int) ≤ (d.S.length : Int) - (f : Int) := by unfold validB at hv; exact of_decide_eq_true hv
  have HC := Lib.hid (valid_lv h hj f n (by omega) (by omega) (by omega) (by omega))
  rw [hv] at HC
  obtain ⟨w1, hw1⟩ : ∃ w1, w1 = w.alloc (.cells #[.pointer (some ⟨g, 0, none⟩), .int .i64 (f : Int), .int .i64 (n : Int), .int .u8 0, .int .i64 0, .slice none 0 0, .int .i64 0, .int .i64 0] 78) := ⟨_, rfl⟩
  obtain ⟨gl, hgl⟩ : ∃ gl, gl = w.heap.size := ⟨_, rfl⟩
  have HL1 : Hid (Lv w0 w1 (logO gl g (LM.new f n) :: L)) := Lib.hid (by rw [hw1, hgl]; exact h.logNew g f n)
  have hbl := run_buildL g f n
  have HW1 := Lib.hid hw1
  have HGL := Lib.hid hgl
  have HJ := Lib.hid hj
  have HON := Lib.hid ho
  have HFN : Hid (f + n ≤ d.S.length ∧ 4 ≤ n ∧ d.S.length ≤ 4096) := Lib.hid ⟨by omega, by omega, (h.ok hj).2.1⟩
  have h64 := (h.ok hj).2.2.2
  have h6 : ∀ k, k < d.S.length → (lastB (d.S.getD k [])).length = 64 := fun k hk => by
    rw [List.getD_eq_getElem?_getD, List.getElem?_eq_getElem hk, Option.getD_some]
    have := h64 _ (List.getElem_mem hk)
    exact this.2 _ (lastB_mem this.1)
  obtain ⟨f0, hf0⟩ : ∃ f0, f0 = lastB (d.S.getD f []) := ⟨_, rfl⟩
  obtain ⟨s0, hs0⟩ : ∃ s0, s0 = lastB (d.S.getD (f + 1) []) := ⟨_, rfl⟩
  have hf0l : f0.length = 64 := by rw [hf0]; exact h6 _ (by omega)
  have hs0l : s0.length = 64 := by rw [hs0]; exact h6 _ (by omega)
  obtain ⟨hd, hhd⟩ : ∃ hd, hd = f0 ++ s0 := ⟨_, rfl⟩
  have hsec : (secsB d (f + 0) 2).take (128 - 0 * 64) = hd := by
    have e1 : secsB d (f + 0) 2 = hd := by rw [hhd, hf0, hs0]; simp [secsB, List.range_succ]
    rw [e1]
    exact List.take_of_length_le (by rw [hhd, List.length_append, hf0l, hs0l]; omega)
  rw [← hf0, ← hs0] at hgood ⊢
  obtain ⟨rr, hrr⟩ : ∃ rr, rr = bN (newS f0 s0) 0 := ⟨_, rfl⟩
  obtain ⟨ee, hee⟩ : ∃ ee, ee = endF (newS f0 s0) := ⟨_, rfl⟩
  obtain ⟨nk, hnk⟩ : ∃ nk, nk = newOk f0 s0 := ⟨_, rfl⟩
  have HRR := Lib.hid hrr.symm
  have HEE := Lib.hid hee.symm
  have HNK := Lib.hid hnk.symm
  have hrrb : rr < 256 := by rw [hrr]; exact bN_lt _ _
  have heeb : ee < 16777216 := by
    rw [hee]; unfold endF
    have e1 := bN_lt (newS f0 s0) 1
    have e2 := bN_lt (newS f0 s0) 2
    have e3 := bN_lt (newS f0 s0) 3
    omega
  have hwn : IntKind.i64.wrap ((n : Int) * 64) = (n : Int) * 64 := i64_id _ (by omega) (by omega)
  have HRD0 : Hid (Calls Try.prog 46 #[.pointer (some ⟨gl, 0, none⟩), .int .i64 0, .int .i64 128] w1 fun x w' => ∃ v, x = .returned (.tuple #[v, .int .i64 0]) ∧ Lv w0 w' (bytesO v hd :: logO gl g (LM.new f n) :: L)) := Lib.hid (by
    have := read_log HL1.out (ii := 0) (j := j + 1) rfl (by simpa using hj) 0 128 2 (by omega) (by omega) (by omega) (by omega) (show f + 0 + 2 ≤ d.S.length by omega) ho
    rw [show (secsB d ((LM.new f n).frm + 0) 2).take (128 - 0 * 64) = hd from hsec] at this
    exact this)
  have hhl : hd.length = 128 := by rw [hhd, List.length_append, hf0l, hs0l]
  have HHD : Hid (hd.take 64 = f0 ∧ hd.drop 64 = s0) := Lib.hid ⟨by rw [hhd, ← hf0l, List.take_left], by rw [hhd, ← hf0l, List.drop_left]⟩
  have HHL := Lib.hid hhl
  rw [← hrr]
  have hk1 : nk = true := by rw [hnk]; exact hgood.1
  have hee2 : ee = 128 + lenB rs := by rw [hee]; exact hgood.2
  rw [← hee2]
  have HEN : Hid (128 ≤ ee ∧ ee ≤ n * 64) := Lib.hid (by omega)
  have HCNT : Hid (ee - 128 ≤ cnt * 64 ∧ cnt * 64 < ee - 128 + 64) := Lib.hid (by omega)
  have HJB : Hid ((secsB d (f + 2) cnt).take (ee - 2 * 64) = joinB rs) := Lib.hid (by rw [show ee - 2 * 64 = lenB rs by omega]; exact hjb)
  have HLB : Hid (lenB rs ≤ 1000000) := Lib.hid (by omega)
  have HTAK := Lib.hid htk
  have HRLB := Lib.hid hrlb
  clear h hj hv ho hw1 hgl hd1 h64 h6 hf0 hs0 hf0l hs0l hhd hsec hgood hrr hee hnk hhl hee2 hen hcn hjb htk hrlb
  subst hk1
  go_enter Try.func18, Try.ntmps18
  go_upto_region 4 with (go_at_call 40; refine HC.out.mono ?_; rintro e w2 ⟨rfl, rfl⟩; clear HC)
  rw [← HW1.out, ← HGL.out]
  go_upto_region 5 with (go_at_call 46; refine HRD0.out.mono ?_; rintro x q ⟨v, rfl, hl2⟩; have HL2 := Lib.hid hl2; clear hl2 HRD0)
  obtain ⟨BB, ⟨ah, hc, e9, hbs⟩, -, -, -⟩ := HL2.out.get (i := 0) rfl
  rw [HHL.out] at e9 hbs
  subst e9
  obtain ⟨hb, ho, -, -, rfl, -⟩ := hbs.cells (by omega)
  have hc1 : 128 ≤ hc := hbs.2.2.1
  have hc2 : hc ≤ 9223372036854775807 := hbs.2.2.2.1
  have HB1 : Hid (Bs BB q (some ⟨hb, ho, none⟩) 64 hc f0) := Lib.hid (by have := hbs.upto 64 (by omega); rwa [HHD.out.1] at this)
  have HB2 : Hid (Bs BB q (some ⟨hb, ho + 64, none⟩) 64 (hc - 64) s0) := Lib.hid (by have := hbs.past 64 (by omega); rwa [HHD.out.2] at this)
  have HHC : Hid (¬ hc = 64 ∧ (64 : Int) ≤ (hc : Int)) := Lib.hid ⟨by omega, by omega⟩
  clear hbs
  go_wp2_with fail
  refine Roll.region_w 11 100 Dop7 Lop7 [(9, .slice (some ⟨hb, ho, none⟩) 128 hc)] 9 [true, true, true, true, false, true, true, true, false, false, true] (fun p => Below q.heap.size q p) (fun vv p => Below q.heap.size q p) (fun p => Below q.heap.size q p) (SZ rr ee) [fun vv p => (vv 0) = .slice (some ⟨hb, ho, none⟩) 128 hc, fun vv p => (vv 1) = .slice (some ⟨hb, ho, none⟩) 64 hc, fun vv p => (vv 2) = .slice (some ⟨hb, ho, none⟩) 128 hc, fun vv p => (vv 3) = .slice (some ⟨hb, ho + 64, none⟩) 64 (hc - 64), fun vv p => (vv 4) = .tuple #[.agg #[.int .u8 (rr : Int), .int .i64 (ee : Int)], .bool true], fun vv p => (vv 5) = .tuple #[.agg #[.int .u8 (rr : Int), .int .i64 (ee : Int)], .bool true], fun vv p => (vv 6) = .agg #[.int .u8 (rr : Int), .int .i64 (ee : Int)], fun vv p => (vv 7) = .bool true, fun vv p => ∃ x, (vv 8) = .pointer (some ⟨x, 0, none⟩) ∧ q.heap.size ≤ x ∧ (p.heap[x]? = some (.cells #[.int .u8 0, .int .i64 0] 76 (0, 0)) ∨ p.heap[x]? = some (.cells #[.int .u8 (rr : Int), .int .i64 (ee : Int)] 76 (0, 0))), fun vv p => ∃ x, (vv 8) = .pointer (some ⟨x, 0, none⟩) ∧ q.heap.size ≤ x ∧ p.heap[x]? = some (.cells #[.int .u8 (rr : Int), .int .i64 (ee : Int)] 76 (0, 0)), fun vv p => (vv 10) = .bool true] (by kernel_rfl) (by kernel_rfl) rfl ⟨rfl, trivial⟩ ((Below.refl _ _).drew) (by decide) (by kernel_rfl) (fun _ h => h) (fun _ _ h => h) (fun _ => SZ.refl _ _ _) ?_ ?_ ?_
  · exact ⟨fun _ _ _ _ h => h, fun _ _ _ _ h => h, fun _ _ _ _ h => h, fun _ _ _ _ h => h, fun _ _ _ _ h => h, fun _ _ _ _ h => h, fun _ _ _ _ h => h, fun _ _ _ _ h => h, fun _ _ _ hs h => by obtain ⟨x, e1, e2, e3⟩ := h; exact ⟨x, e1, e2, e3.elim (hs.1 x) (fun h => .inr (hs.2 x h))⟩, fun _ _ _ hs h => by obtain ⟨x, e1, e2, e3⟩ := h; exact ⟨x, e1, e2, hs.2 x e3⟩, fun _ _ _ _ h => h, trivial⟩
  · intro b0 hN hlv
    refine ⟨?_, ?_, ?_, ?_, ?_, ?_, ?_, ?_, ?_, ?_, ?_, trivial⟩
    · intro vs p hI0 hp
      have hI := Roll.inw_pure (by decide) rfl hI0
      clear hI0
      have e9 : (Roll.putD Dop7 vs [] b0).eval (.tmp 9) = .slice (some ⟨hb, ho, none⟩) 128 hc := (Roll.eval_old rfl).trans (hlv.at 0 (9, .slice (some ⟨hb, ho, none⟩) 128 hc) rfl)
      clear hp hlv hN
      unfold Roll.Goes
      simp only [Lop7, List.getD_cons_zero, List.getD_cons_succ]
      generalize Roll.putD Dop7 vs [] b0 = a1 at *
      refine Roll.goes_val (w' := p) (.slice (some ⟨hb, ho, none⟩) 128 hc) rfl ?_ ⟨(Roll.outw_pure (by decide) rfl), rfl⟩
      (have ec : ∀ x, a1.eval (.const x) = x := fun _ => rfl); (have ef : ∀ x, a1.eval (.func x) = .func (.func x) #[] #[] := fun _ => rfl); generalize a1.eval = ρ at *
      skip
      go_simp <;> (intros; first | (exfalso; omega) | rfl)
    · intro vs p hI0 hp
      have hI := Roll.inw_pure (by decide) rfl hI0
      clear hI0
      have h0 : (vs 0) = .slice (some ⟨hb, ho, none⟩) 128 hc := hp 0 (by simp [Lop7])
      have e36 : (Roll.putD Dop7 vs [0] b0).eval (.tmp 36) = .slice (some ⟨hb, ho, none⟩) 128 hc := (Roll.eval_new 0 rfl (by decide) (by decide) (by omega)).trans h0
      clear hp hlv hN
      unfold Roll.Goes
      simp only [Lop7, List.getD_cons_zero, List.getD_cons_succ]
      generalize Roll.putD Dop7 vs [0] b0 = a1 at *
      have hh := HHC.out.1
      refine Roll.goes_val (w' := p) (.slice (some ⟨hb, ho, none⟩) 64 hc) rfl ?_ ⟨(Roll.outw_pure (by decide) rfl), rfl⟩
      (have ec : ∀ x, a1.eval (.const x) = x := fun _ => rfl); (have ef : ∀ x, a1.eval (.func x) = .func (.func x) #[] #[] := fun _ => rfl); generalize a1.eval = ρ at *
      clear h0
      go_simp <;> (intros; first | (exfalso; omega) | rfl)
    · intro vs p hI0 hp
      have hI := Roll.inw_pure (by decide) rfl hI0
      clear hI0
      have e9 : (Roll.putD Dop7 vs [] b0).eval (.tmp 9) = .slice (some ⟨hb, ho, none⟩) 128 hc := (Roll.eval_old rfl).trans (hlv.at 0 (9, .slice (some ⟨hb, ho, none⟩) 128 hc) rfl)
      clear hp hlv hN
      unfold Roll.Goes
      simp only [Lop7, List.getD_cons_zero, List.getD_cons_succ]
      generalize Roll.putD Dop7 vs [] b0 = a1 at *
      refine Roll.goes_val (w' := p) (.slice (some ⟨hb, ho, none⟩) 128 hc) rfl ?_ ⟨(Roll.outw_pure (by decide) rfl), rfl⟩
      (have ec : ∀ x, a1.eval (.const x) = x := fun _ => rfl); (have ef : ∀ x, a1.eval (.func x) = .func (.func x) #[] #[] := fun _ => rfl); generalize a1.eval = ρ at *
      skip
      go_simp <;> (intros; first | (exfalso; omega) | rfl)
    · intro vs p hI0 hp
      have hI := Roll.inw_pure (by decide) rfl hI0
      clear hI0
      have h2 : (vs 2) = .slice (some ⟨hb, ho, none⟩) 128 hc := hp 2 (by simp [Lop7])
      have e38 : (Roll.putD Dop7 vs [2] b0).eval (.tmp 38) = .slice (some ⟨hb, ho, none⟩) 128 hc := (Roll.eval_new 2 rfl (by decide) (by decide) (by omega)).trans h2
      clear hp hlv hN
      unfold Roll.Goes
      simp only [Lop7, List.getD_cons_zero, List.getD_cons_succ]
      generalize Roll.putD Dop7 vs [2] b0 = a1 at *
      have hh := HHC.out.1
      have hh2 := HHC.out.2
      refine Roll.goes_val (w' := p) (.slice (some ⟨hb, ho + 64, none⟩) 64 (hc - 64)) rfl ?_ ⟨(Roll.outw_pure (by decide) rfl), rfl⟩
      (have ec : ∀ x, a1.eval (.const x) = x := fun _ => rfl); (have ef : ∀ x, a1.eval (.func x) = .func (.func x) #[] #[] := fun _ => rfl); generalize a1.eval = ρ at *
      clear h2
      go_simp <;> (intros; first | (exfalso; omega) | rfl)
    · intro vs p hI0 hp
      have hI := Roll.inw_pre (by decide) rfl hI0
      clear hI0
      have h1 : (vs 1) = .slice (some ⟨hb, ho, none⟩) 64 hc := hp 1 (by simp [Lop7])
      have h3 : (vs 3) = .slice (some ⟨hb, ho + 64, none⟩) 64 (hc - 64) := hp 3 (by simp [Lop7])
      have e37 : (Roll.putD Dop7 vs [1, 3] b0).eval (.tmp 37) = .slice (some ⟨hb, ho, none⟩) 64 hc := (Roll.eval_new 1 rfl (by decide) (by decide) (by omega)).trans h1
      have e39 : (Roll.putD Dop7 vs [1, 3] b0).eval (.tmp 39) = .slice (some ⟨hb, ho + 64, none⟩) 64 (hc - 64) := (Roll.eval_new 3 rfl (by decide) (by decide) (by omega)).trans h3
      clear hp hlv hN
      unfold Roll.Goes
      simp only [Lop7, List.getD_cons_zero, List.getD_cons_succ]
      generalize Roll.putD Dop7 vs [1, 3] b0 = a1 at *
      refine Roll.goes_call 47 #[.slice (some ⟨hb, ho, none⟩) 64 hc, .slice (some ⟨hb, ho + 64, none⟩) 64 (hc - 64)] p rfl (by have ec : ∀ x, a1.eval (.const x) = x := fun _ => rfl; have ef : ∀ x, a1.eval (.func x) = .func (.func x) #[] #[] := fun _ => rfl; generalize a1.eval = ρ at *; go_simp) ?_
      refine (newest_any _ _ _ _ _ _ f0 s0 p (HB1.out.kept (Kept.of_below (fun _ => False) hI) (fun _ _ _ h => h)) (HB2.out.kept (Kept.of_below (fun _ => False) hI) (fun _ _ _ h => h))).mono ?_
      rintro y p2 ⟨rfl, hbl⟩
      exact ⟨_, rfl, Roll.outw_pre (by decide) rfl (hI.trans (hbl.mono hI.size)) (SZ.of_below hbl), by show Value.tuple _ = Value.tuple _; rw [HRR.out, HEE.out, HNK.out]⟩
    · intro vs p hI0 hp
      have hI := Roll.inw_pure (by decide) rfl hI0
      clear hI0
      have h4 : (vs 4) = .tuple #[.agg #[.int .u8 (rr : Int), .int .i64 (ee : Int)], .bool true] := hp 4 (by simp [Lop7])
      have e40 : (Roll.putD Dop7 vs [4] b0).eval (.tmp 40) = .tuple #[.agg #[.int .u8 (rr : Int), .int .i64 (ee : Int)], .bool true] := (Roll.eval_new 4 rfl (by decide) (by decide) (by omega)).trans h4
      clear hp hlv hN
      unfold Roll.Goes
      simp only [Lop7, List.getD_cons_zero, List.getD_cons_succ]
      generalize Roll.putD Dop7 vs [4] b0 = a1 at *
      refine Roll.goes_val (w' := p) (.tuple #[.agg #[.int .u8 (rr : Int), .int .i64 (ee : Int)], .bool true]) rfl ?_ ⟨(Roll.outw_pure (by decide) rfl), rfl⟩
      (have ec : ∀ x, a1.eval (.const x) = x := fun _ => rfl); (have ef : ∀ x, a1.eval (.func x) = .func (.func x) #[] #[] := fun _ => rfl); generalize a1.eval = ρ at *
      clear h4
      go_simp <;> (intros; first | (exfalso; omega) | rfl)
    · intro vs p hI0 hp
      have hI := Roll.inw_pure (by decide) rfl hI0
      clear hI0
      have h5 : (vs 5) = .tuple #[.agg #[.int .u8 (rr : Int), .int .i64 (ee : Int)], .bool true] := hp 5 (by simp [Lop7])
      have e35 : (Roll.putD Dop7 vs [5] b0).eval (.tmp 35) = .tuple #[.agg #[.int .u8 (rr : Int), .int .i64 (ee : Int)], .bool true] := (Roll.eval_new 5 rfl (by decide) (by decide) (by omega)).trans h5
      clear hp hlv hN
      unfold Roll.Goes
      simp only [Lop7, List.getD_cons_zero, List.getD_cons_succ]
      generalize Roll.putD Dop7 vs [5] b0 = a1 at *
      refine Roll.goes_val (w' := p) (.agg #[.int .u8 (rr : Int), .int .i64 (ee : Int)]) rfl ?_ ⟨(Roll.outw_pure (by decide) rfl), rfl⟩
      (have ec : ∀ x, a1.eval (.const x) = x := fun _ => rfl); (have ef : ∀ x, a1.eval (.func x) = .func (.func x) #[] #[] := fun _ => rfl); generalize a1.eval = ρ at *
      clear h5
      go_simp <;> (intros; first | (exfalso; omega) | rfl)
    · intro vs p hI0 hp
      have hI := Roll.inw_pure (by decide) rfl hI0
      clear hI0
      have h5 : (vs 5) = .tuple #[.agg #[.int .u8 (rr : Int), .int .i64 (ee : Int)], .bool true] := hp 5 (by simp [Lop7])
      have e35 : (Roll.putD Dop7 vs [5] b0).eval (.tmp 35) = .tuple #[.agg #[.int .u8 (rr : Int), .int .i64 (ee : Int)], .bool true] := (Roll.eval_new 5 rfl (by decide) (by decide) (by omega)).trans h5
      clear hp hlv hN
      unfold Roll.Goes
      simp only [Lop7, List.getD_cons_zero, List.getD_cons_succ]
      generalize Roll.putD Dop7 vs [5] b0 = a1 at *
      refine Roll.goes_val (w' := p) (.bool true) rfl ?_ ⟨(Roll.outw_pure (by decide) rfl), rfl⟩
      (have ec : ∀ x, a1.eval (.const x) = x := fun _ => rfl); (have ef : ∀ x, a1.eval (.func x) = .func (.func x) #[] #[] := fun _ => rfl); generalize a1.eval = ρ at *
      clear h5
      go_simp <;> (intros; first | (exfalso; omega) | rfl)
    · intro vs p hI0 hp
      have hI := Roll.inw_pre (by decide) rfl hI0
      clear hI0
      clear hp hlv hN
      unfold Roll.Goes
      simp only [Lop7, List.getD_cons_zero, List.getD_cons_succ]
      generalize Roll.putD Dop7 vs [] b0 = a1 at *
      have hal : Below p.heap.size p (p.alloc (.cells #[.int .u8 0, .int .i64 0] 76)) := (Below.refl _ _).alloc (Nat.le_refl _) _
      refine Roll.goes_val (w' := p.alloc (.cells #[.int .u8 0, .int .i64 0] 76)) (.pointer (some ⟨p.heap.size, 0, none⟩)) rfl (by have ec : ∀ x, a1.eval (.const x) = x := fun _ => rfl; have ef : ∀ x, a1.eval (.func x) = .func (.func x) #[] #[] := fun _ => rfl; have hbs := run_allocS; generalize a1.eval = ρ at *; go_simp <;> (intros; first | (exfalso; omega) | rfl)) ⟨Roll.outw_pre (by decide) rfl (hI.trans (hal.mono hI.size)) (SZ.of_below hal), p.heap.size, rfl, hI.size, .inl (heap_new rfl)⟩
    · intro vs p hI0 hp
      have hI := Roll.inw_k0 rfl hI0
      clear hI0
      have h8 : ∃ x, (vs 8) = .pointer (some ⟨x, 0, none⟩) ∧ q.heap.size ≤ x ∧ (p.heap[x]? = some (.cells #[.int .u8 0, .int .i64 0] 76 (0, 0)) ∨ p.heap[x]? = some (.cells #[.int .u8 (rr : Int), .int .i64 (ee : Int)] 76 (0, 0))) := hp 8 (by simp [Lop7])
      have h6 : (vs 6) = .agg #[.int .u8 (rr : Int), .int .i64 (ee : Int)] := hp 6 (by simp [Lop7])
      have e11 : (Roll.putD Dop7 vs [8, 6] b0).eval (.tmp 11) = vs 8 := (Roll.eval_new 8 rfl (by decide) (by decide) (by omega))
      have e41 : (Roll.putD Dop7 vs [8, 6] b0).eval (.tmp 41) = .agg #[.int .u8 (rr : Int), .int .i64 (ee : Int)] := (Roll.eval_new 6 rfl (by decide) (by decide) (by omega)).trans h6
      clear hp hlv hN
      unfold Roll.Goes
      simp only [Lop7, List.getD_cons_zero, List.getD_cons_succ]
      generalize Roll.putD Dop7 vs [8, 6] b0 = a1 at *
      obtain ⟨x, hv8, hx, hz⟩ := h8
      rw [hv8] at e11
      rcases hz with hz | hz <;>
        (refine Roll.goes_store_row rfl 76 (.tmp 11) (.tmp 41) rfl x _ e11 e41 76 _ hz (sizeS _ _) rfl (oneS _ _) ?_
         exact ⟨Roll.outw_k0 rfl (below_setRow hI hx _) (SZ.of_set hz), x, hv8, hx, setRow_heap _ _ _ _ _ _ hz⟩)
    · intro vs p hI0 hp
      have hI := Roll.inw_pure (by decide) rfl hI0
      clear hI0
      have h7 : (vs 7) = .bool true := hp 7 (by simp [Lop7])
      have e42 : (Roll.putD Dop7 vs [7] b0).eval (.tmp 42) = .bool true := (Roll.eval_new 7 rfl (by decide) (by decide) (by omega)).trans h7
      clear hp hlv hN
      unfold Roll.Goes
      simp only [Lop7, List.getD_cons_zero, List.getD_cons_succ]
      generalize Roll.putD Dop7 vs [7] b0 = a1 at *
      refine Roll.goes_val (w' := p) (.bool true) rfl ?_ ⟨(Roll.outw_pure (by decide) rfl), rfl⟩
      (have ec : ∀ x, a1.eval (.const x) = x := fun _ => rfl); (have ef : ∀ x, a1.eval (.func x) = .func (.func x) #[] #[] := fun _ => rfl); generalize a1.eval = ρ at *
      clear h7
      go_simp <;> (intros; first | (exfalso; omega) | rfl)
  · intro vs p hI hR
    have h0 : (vs 0) = .slice (some ⟨hb, ho, none⟩) 128 hc := hR 0 (by omega)
    have h1 : (vs 1) = .slice (some ⟨hb, ho, none⟩) 64 hc := hR 1 (by omega)
    have h2 : (vs 2) = .slice (some ⟨hb, ho, none⟩) 128 hc := hR 2 (by omega)
    have h3 : (vs 3) = .slice (some ⟨hb, ho + 64, none⟩) 64 (hc - 64) := hR 3 (by omega)
    have h4 : (vs 4) = .tuple #[.agg #[.int .u8 (rr : Int), .int .i64 (ee : Int)], .bool true] := hR 4 (by omega)
    have h5 : (vs 5) = .tuple #[.agg #[.int .u8 (rr : Int), .int .i64 (ee : Int)], .bool true] := hR 5 (by omega)
    have h6 : (vs 6) = .agg #[.int .u8 (rr : Int), .int .i64 (ee : Int)] := hR 6 (by omega)
    have h7 : (vs 7) = .bool true := hR 7 (by omega)
    have h8 : ∃ x, (vs 8) = .pointer (some ⟨x, 0, none⟩) ∧ q.heap.size ≤ x ∧ (p.heap[x]? = some (.cells #[.int .u8 0, .int .i64 0] 76 (0, 0)) ∨ p.heap[x]? = some (.cells #[.int .u8 (rr : Int), .int .i64 (ee : Int)] 76 (0, 0))) := hR 8 (by omega)
    have h9 : ∃ x, (vs 8) = .pointer (some ⟨x, 0, none⟩) ∧ q.heap.size ≤ x ∧ p.heap[x]? = some (.cells #[.int .u8 (rr : Int), .int .i64 (ee : Int)] 76 (0, 0)) := hR 9 (by omega)
    have h10 : (vs 10) = .bool true := hR 10 (by omega)
    clear hR
    simp only [List.range_succ, List.range_zero, List.nil_append, List.cons_append, Roll.putD, Act.put, List.getD_cons_zero, List.getD_cons_succ, List.setIfInBounds_toArray, List.set_cons_zero, List.set_cons_succ, List.drop_succ_cons, List.drop_zero, Dop7]
    simp only [h0, h1, h2, h3, h4, h5, h6, h7, h10]
    clear h0 h1 h2 h3 h4 h5 h6 h7 h10
    clear h8
    generalize vs 8 = v8 at *
    obtain ⟨g11, rfl, hg11, hz11⟩ := h9
    have HBp := Lib.hid hI
    have HL3 := Lib.hid (HL2.out.cons hI (o := stateO g11 rr ee) (B := fun x => x = g11) ⟨hz11, rfl⟩ (fun x hx => by subst hx; exact ⟨hg11, (Array.getElem?_eq_some_iff.1 hz11).1⟩))
    have HZ11 := Lib.hid hz11
    have HG11 := Lib.hid hg11
    have c111 : p.cell? ⟨g11, 1, none⟩ = some (.int .i64 (ee : Int)) := by rw [cell_of_row p g11 1 _ _ _ hz11]; rfl
    clear hI hz11 hg11 HL2
    have hb2 : (ee : Int) ≤ (n : Int) * 64 := by have := HEN.out; omega
    go_upto_region 10 with fail
    have hi3 : (stateO g11 rr ee :: bytesO (.slice (some ⟨hb, ho, none⟩) 128 hc) hd :: logO gl g (LM.new f n) :: L)[2]? = some (logO gl g (LM.new f n)) := rfl
    have hj3 : (stateO g11 rr ee :: bytesO (.slice (some ⟨hb, ho, none⟩) 128 hc) hd :: logO gl g (LM.new f n) :: L)[j + 3]? = some (diskO g d) := by simpa using HJ.out
    have HRD : Hid (Calls Try.prog 46 #[.pointer (some ⟨gl, 0, none⟩), .int .i64 128, .int .i64 (ee : Int)] p fun x w' => ∃ v, x = .returned (.tuple #[v, .int .i64 0]) ∧ Lv w0 w' (bytesO v (joinB rs) :: stateO g11 rr ee :: bytesO (.slice (some ⟨hb, ho, none⟩) 128 hc) hd :: logO gl g (LM.new f n) :: L)) := Lib.hid (by
      have hh := HEN.out
      have hf := HFN.out
      have hcc := HCNT.out
      have := read_log HL3.out hi3 hj3 2 ee cnt (by omega) (by omega) (by omega) (by omega) (show f + 2 + cnt ≤ d.S.length by omega) HON.out
      rw [show (secsB d ((LM.new f n).frm + 2) cnt).take (ee - 2 * 64) = joinB rs from HJB.out] at this
      exact this)
    clear hi3 hj3
    go_upto_region 11 with (go_at_call 46; refine HRD.out.mono ?_; rintro x w3 ⟨v3, rfl, hl4⟩; have HL4 := Lib.hid hl4; clear hl4 HRD)
    have hj4 := HL4.out.join (i := 3) (j := 0) (by omega) rfl rfl
    obtain ⟨B, ⟨B1, B2, ⟨kl, Bl, vl, hlg, hlB⟩, ⟨a3, c3, e3, hbs⟩, hdis, hs1, hs2⟩, hblt, _, hset⟩ := hj4.get (i := 3) rfl
    subst e3
    have hglw : gl < w3.heap.size := hlg.blk_lt gl (.inl rfl)
    have hB2gl : ¬ B2 gl := hdis gl (hlB gl (.inl rfl))
    have HSET := Lib.hid hset
    have HLG := Lib.hid hlg
    have HBGL : Hid (B gl) := Lib.hid (hs1 gl (hlB gl (.inl rfl)))
    have HB2B := Lib.hid hs2
    have HBS := Lib.hid hbs
    have HB2GL := Lib.hid hB2gl
    have HGLW := Lib.hid hglw
    clear hj4 hlg hlB hbs hdis hs1 hs2 hblt hset hB2gl hglw
    go_upto_region 14 with (go_at_call 48; refine (split_any B2 _ _ _ rs _ HBS.out H64.out HLB.out).mono ?_; rintro x w4 ⟨v5, k5, rfl, hrc, hk5, hb4⟩; have HRC := Lib.hid hrc; have HK5 := Lib.hid hk5; have HB4 := Lib.hid hb4; have HL5 := Lib.hid (HL4.out.below hb4); clear hrc hk5 hb4 HL4)
    obtain ⟨a5, c5, rfl, hc51, hc52⟩ := HRC.out.shape
    obtain ⟨rl, hrl⟩ : ∃ rl, rl = rs.length := ⟨_, rfl⟩
    rw [← hrl] at hc51 HRC
    rw [← hrl]
    have HRLE := Lib.hid hrl
    clear hrl
    go_upto_region 16 with fail
    obtain ⟨_, ⟨hz5, -⟩, -, -, -⟩ := HL5.out.get (i := 1) rfl
    have hself4 := (Kept.of_below (fun _ => False) HB4.out).heap HLG.out.self (fun h => h)
    have hl4 : Lg w4 gl g kl Bl vl (LM.new f n) := HLG.out.kept (Kept.of_below (fun _ => False) HB4.out) (fun _ _ h => h)
    obtain ⟨al4, cl4, rfl, -, -, hgl4, -, -, -, d3, d4, d5, d6, d7, fz⟩ := hl4.facts
    have HTH : Hid (w4.there gl 3 2) := Lib.hid (fun j hj => by
      have : j = 0 ∨ j = 1 := by omega
      rcases this with rfl | rfl
      · exact ⟨by rw [d3]; rfl, fz _⟩
      · exact ⟨by rw [d4]; rfl, fz _⟩)
    obtain ⟨w5, hw5⟩ : ∃ w5, w5 = w4.setCells gl 3 [.int .u8 (rr : Int), .int .i64 (ee : Int)] := ⟨_, rfl⟩
    have hs5 : w5.heap[gl]? = some (.cells #[.pointer (some ⟨g, 0, none⟩), .int .i64 (f : Int), .int .i64 (n : Int), .int .u8 (rr : Int), .int .i64 (ee : Int), .slice al4 0 cl4, .int .i64 0, .int .i64 0] 78 (0, 0)) := by
      rw [hw5]
      show ((w4.setCell ⟨gl, 3, none⟩ _).setCell ⟨gl, 4, none⟩ _).heap[gl]? = _
      rw [heap_setCell_same _ gl 4 _ _ _ (heap_setCell_same w4 gl 3 _ _ _ hl4.self)]
      rfl
    have hk5 : Kept (fun x => x = gl) w4 w5 := by rw [hw5]; exact (Kept.refl _ _).setCells _ _ (fun _ => rfl)
    have e5 : w5.cell? ⟨gl, 5, none⟩ = some (.slice al4 0 cl4) := by rw [cell_of_row w5 gl 5 _ _ _ hs5]; rfl
    have e6 : w5.cell? ⟨gl, 6, none⟩ = some (.int .i64 0) := by rw [cell_of_row w5 gl 6 _ _ _ hs5]; rfl
    have z5 : w5.frozen? ⟨gl, 5, none⟩ = false := frozen_of_row w5 gl 5 _ _ hs5
    have z6 : w5.frozen? ⟨gl, 6, none⟩ = false := frozen_of_row w5 gl 6 _ _ hs5
    have HZ5w := Lib.hid hz5
    have HW5 := Lib.hid hw5
    have HS5 := Lib.hid hs5
    have HK45 := Lib.hid hk5
    clear hz5 hself4 hl4 d3 d4 d5 d6 d7 fz hgl4 hw5 hs5 hk5
    go_upto_region 17 with (first
      | (refine wpList_load_row rfl 76 (.tmp 11) rfl g11 rfl 76 _ (0, 0) _ HZ5w.out Try.underlying76 rfl (sizeS _ _) ?_)
      | (refine wpList_store_mid rfl 76 (.tmp 77) (.tmp 72) rfl gl 3 _ rfl rfl HTH.out (sizeS _ _) (oneS _ _) ?_; show wpList _ _ _ _ _ (w4.setCells gl 3 [.int .u8 (rr : Int), .int .i64 (ee : Int)]); rw [← HW5.out]))
    obtain ⟨w6, hw6⟩ : ∃ w6, w6 = (w5.setCell ⟨gl, 5, none⟩ (.slice a5 rl c5)).setCell ⟨gl, 6, none⟩ (.int .i64 (rl : Int)) := ⟨_, rfl⟩
    rw [← hw6]
    have hk6 : Kept (fun x => x = gl) w4 w6 := by rw [hw6]; exact (HK45.out.setCell (p := ⟨gl, 5, none⟩) (fun _ => rfl) _).setCell (p := ⟨gl, 6, none⟩) (fun _ => rfl) _
    have hs6 : w6.heap[gl]? = some (.cells (LM.cells g ⟨f, n, rr, ee, rs, rl, 0⟩ (.slice a5 rl c5)).toArray 78 (0, 0)) := by
      rw [hw6, heap_setCell_same _ gl 6 _ _ _ (heap_setCell_same w5 gl 5 _ _ _ HS5.out)]
      rfl
    have hkg : k5 ≠ some gl := fun e => by have := HK5.out gl e; have := HGLW.out; omega
    have hR6 : Recs w6 k5 (fun x => B2 x ∧ x < w3.heap.size) (.slice a5 rl c5) rs := HRC.out.kept hk6 (fun x hx e => hkg (by rw [hx, e])) (fun x _ hx e => HB2GL.out (by rw [← e]; exact hx.1))
    have hLg6 : Lg w6 gl g k5 (fun x => B2 x ∧ x < w3.heap.size) (.slice a5 rl c5) ⟨f, n, rr, ee, rs, rl, 0⟩ := ⟨hs6, hR6, ⟨hkg, fun h => HB2GL.out h.1, fun x hx hb => by have := HK5.out x hx; omega⟩, fun x hx => Nat.lt_of_lt_of_le hx.2 (Nat.le_trans HB4.out.size hk6.size)⟩
    have hL6 := HSET.out w6 (logO gl g ⟨f, n, rr, ee, rs, rl, 0⟩) (LBlk gl k5 (fun x => B2 x ∧ x < w3.heap.size)) ⟨k5, _, _, hLg6, fun _ h => h⟩ ((Kept.of_below B HB4.out).trans (hk6.mono (fun x _ hx => by rw [hx]; exact HBGL.out)) (fun _ _ h => h)) (by
      rintro x (h | h | h)
      · rw [h]; exact .inl HBGL.out
      · exact .inr (HK5.out x h)
      · exact .inl (HB2B.out x h.1)) (fun x hx => hLg6.blk_lt x hx)
    have HL6 : Hid (Lv w0 w6 (noO :: stateO g11 rr ee :: bytesO (.slice (some ⟨hb, ho, none⟩) 128 hc) hd :: logO gl g ⟨f, n, rr, ee, rs, rl, 0⟩ :: L)) := Lib.hid hL6
    have HRD6 : Hid (RdR (fun x => k5 = some x ∨ (B2 x ∧ x < w3.heap.size)) w6 a5 rl c5 rs) := Lib.hid (hR6.rd (fun x hx => .inl hx) (fun x hx => .inr hx))
    have HDG : Hid (¬ (k5 = some gl ∨ (B2 gl ∧ gl < w3.heap.size))) := Lib.hid (fun h => h.elim hkg (fun h => HB2GL.out h.1))
    have HTR := HTAK
    clear hw6 hk6 hs6 hkg hR6 hLg6 hL6 HSET HLG HBGL HB2B HBS HB2GL HGLW HRC HK5 HB4 HL5 HZ5w HW5 HS5 HK45 e5 e6 z5 z6 HTH
    obtain ⟨D6, hD6⟩ : ∃ D6 : Nat → Prop, D6 = fun x => k5 = some x ∨ (B2 x ∧ x < w3.heap.size) := ⟨_, rfl⟩
    rw [← hD6] at HRD6
    have HDG2 : Hid (¬ D6 gl) := Lib.hid (by rw [hD6]; exact HDG.out)
    clear hD6 HDG
    go_wp2_with fail
    go_loopw [84] (fun t wr => ∃ i : Nat, i ≤ rl ∧ t = .int .i64 (i : Int) ∧ Lv w0 wr (noO :: stateO g11 rr ee :: bytesO (.slice (some ⟨hb, ho, none⟩) 128 hc) hd :: logO gl g ⟨f, n, rr, ee, rs, rl, takR (rs.take i)⟩ :: L) ∧ RdR D6 wr a5 rl c5 rs) (fun t _ => rl - (intOf t).toNat)
    case atStart => exact ⟨0, Nat.zero_le _, rfl, HL6.out, HRD6.out⟩
    case round =>
      obtain ⟨i, hi9, rfl, hL, hRd⟩ := hrel
      by_cases hlt : i < rl
      · have hn2 : (i : Int) < (rl : Int) := by omega
        have hlr : i < rs.length := by rw [← HRLE.out]; exact hlt
        obtain ⟨r, hr⟩ : ∃ r, r = rs[i]'hlr := ⟨_, rfl⟩
        have HTK : Hid (takR (rs.take (i + 1)) = takR (rs.take i) + (r.length + 12)) := Lib.hid (by rw [List.take_succ_eq_append_getElem hlr, takR_snoc, hr])
        have hti : takR (rs.take (i + 1)) ≤ 1000000000 := Nat.le_trans (takR_take rs _) HTR.out
        rw [HTK.out] at hti
        obtain ⟨T, hT⟩ : ∃ T, T = takR (rs.take i) := ⟨_, rfl⟩
        rw [← hT] at HTK hti hL
        obtain ⟨g8, off8, b8, cb8, -, rfl, hg8, hcell, -⟩ := hRd.2.2.2 i hlr
        rw [← hr] at hcell
        obtain ⟨_, _, -, -, hgl8, -, -, -, -, -, -, -, q7, fz⟩ := hL.logFacts (i := 3) rfl
        simp only at q7
        have z7 := fz 7
        obtain ⟨rn, hrn⟩ : ∃ rn, rn = r.length := ⟨_, rfl⟩
        rw [← hrn] at hcell HTK hti
        have hrlb := HRLB.out
        rw [← HRLE.out] at hrlb
        have hw1 : IntKind.i64.wrap ((i : Int) + 1) = (i : Int) + 1 := i64_id _ (by omega) (by omega)
        have hw2 : IntKind.i64.wrap ((rn : Int) + 12) = (rn : Int) + 12 := i64_id _ (by omega) (by omega)
        have hw3 : IntKind.i64.wrap ((T : Int) + ((rn : Int) + 12)) = ((T + (rn + 12) : Nat) : Int) := by rw [i64_id _ (by omega) (by omega)]; omega
        have HLt := Lib.hid (hL.logTak (i := 3) rfl (T + (rn + 12)))
        have HRd2 : Hid (RdR D6 (wr.setCell ⟨gl, 7, none⟩ (.int .i64 ((T + (rn + 12) : Nat) : Int))) (some ⟨g8, off8, none⟩) rl c5 rs) := Lib.hid (hRd.kept ((Kept.refl (fun x => x = gl) wr).setCell (p := ⟨gl, 7, none⟩) (fun _ => rfl) _) (fun x _ hx e => HDG2.out (by rw [← e]; exact hx)))
        clear hL hRd hr hT hrn hg8 fz hti
        go_wp2_with fail
        go_roundw
        case rel => exact ⟨i + 1, by omega, by go_num, by rw [HTK.out]; exact HLt.out, HRd2.out⟩
        case measure => simp [intOf]; omega
      · obtain rfl : i = rl := by omega
        have e1 : rs.take i = rs := List.take_of_length_le (by rw [HRLE.out]; exact Nat.le_refl _)
        rw [e1] at hL
        have HF := Lib.hid hL.tail.tail.tail
        clear hL hRd e1 hlt
        go_wp2_with fail
        go_ret2
        exact ⟨gl, rfl, by rw [← HRLE.out]; exact HF.out⟩
end
end Go.Proofs.Ythffegfcgmhppaa
namespace Go.Proofs.Ythffegfcgmhppaa
open Go.RowKit
set_option linter.unusedSimpArgs false
set_option linter.unusedVariables false
section
variable {w0 w : World} {L : List Obj}
theorem made4_lv (h : Lv w0 w L) (n : Nat) (h1 : 1 ≤ n) (h2 : n ≤ 4096) :
    Calls Try.prog 10 #[.int .i64 (n : Int)] w fun e w' => ∃ g, e = .returned (.pointer (some ⟨g, 0, none⟩)) ∧ Lv w0 w' (diskO g (DM.new n) :: L) := by
  have HL := Lib.hid h
  clear h
  go_enter Try.func10, Try.ntmps10
  go_wp2_with (go_at_call 39; refine (new_lv HL.out n h1 h2).mono ?_; rintro e w3 ⟨g, rfl, hl⟩; have HL2 := Lib.hid hl; clear hl)
  go_ret
  exact ⟨_, rfl, HL2.out⟩
theorem between_any (D1 D2 : Nat → Prop) (a b : Option Addr) (n c k e s : Nat) (rs qs : List (List UInt8)) (h1 : RdR D1 w a n c rs) (h2 : RdR D2 w b k e qs) (hn : n ≤ 1000000) (hs : s ≤ 1000000) :
    Calls Try.prog 36 #[.slice a n c, .int .i64 (s : Int), .slice b k e] w fun x w' => x = .returned (.bool (decide (s ≤ n ∧ n ≤ k) && (rs == qs.take n))) ∧ Below w.heap.size w w' := by
  have hc1 : n ≤ c := h1.2.1
  have he1 : k ≤ e := h2.2.1
  have he2 : e ≤ 9223372036854775807 := h2.2.2.1
  obtain ⟨B, hB⟩ : ∃ B, B = (decide (s ≤ n ∧ n ≤ k) && (rs == qs.take n)) := ⟨_, rfl⟩
  rw [← hB]
  have HB := Lib.hid hB
  clear hB
  by_cases a1 : s ≤ n
  · have a1' : (s : Int) ≤ (n : Int) := by omega
    by_cases a2 : n ≤ k
    · have a2' : (n : Int) ≤ (k : Int) := by omega
      have a3' : (n : Int) ≤ (e : Int) := by omega
      have HC := Lib.hid (same_any D1 D2 a b n c n e rs (qs.take n) w h1 (h2.upto n a2) hn)
      have HT : Hid (B = (rs == qs.take n)) := Lib.hid (by rw [HB.out, decide_eq_true ⟨a1, a2⟩, Bool.true_and])
      clear h1 h2 a1 a2
      go_enter Try.func36, Try.ntmps36
      go_wp2_with (go_at_call 32; refine HC.out.mono ?_; rintro x w2 ⟨rfl, hb⟩; rw [← HT.out]; have HBL := Lib.hid hb; clear hb)
      go_ret
      exact ⟨rfl, HBL.out⟩
    · have a2' : (k : Int) < (n : Int) := by omega
      have HT : Hid (B = false) := Lib.hid (by rw [HB.out, decide_eq_false (fun h => a2 h.2), Bool.false_and])
      clear h1 h2 a1 a2
      go_enter Try.func36, Try.ntmps36
      go_wp2
      go_ret
      exact ⟨by rw [HT.out]; rfl, Below.refl _ _⟩
  · have a1' : (n : Int) < (s : Int) := by omega
    have HT : Hid (B = false) := Lib.hid (by rw [HB.out, decide_eq_false (fun h => a1 h.1), Bool.false_and])
    clear h1 h2 a1
    go_enter Try.func36, Try.ntmps36
    go_wp2
    go_ret
    exact ⟨by rw [HT.out]; rfl, Below.refl _ _⟩
/-- the bytes of a record of an act -/
def recB (n : Nat) (data : List UInt8) : List UInt8 := (List.range n).map fun i => if data.length = 0 then UInt8.ofNat i else data.getD (i % data.length) 0
theorem recB_len (n : Nat) (data : List UInt8) : (recB n data).length = n := by simp [recB]
theorem recB_succ (n : Nat) (data : List UInt8) : recB (n + 1) data = recB n data ++ [if data.length = 0 then UInt8.ofNat n else data.getD (n % data.length) 0] := by simp [recB, List.range_succ]
end
end Go.Proofs.Ythffegfcgmhppaa
namespace Go.Proofs.Ythffegfcgmhppaa
open Go.RowKit
set_option linter.unusedSimpArgs false
set_option linter.unusedVariables false
theorem run_mkB (n : Nat) (hn : n ≤ 1000000) (W : World) :
    (Instr.makeSlice 32 (.int .i64 (n : Int)) (.int .i64 (n : Int))).run Try.prog W = .ok (.slice (some ⟨W.heap.size, 0, none⟩) n n) (W.alloc (.cells (madeCells #[.int .u8 0] n) 5)) := by
  obtain ⟨i0, hi, hz0, hz1, hz2⟩ := info_parts info5
  have h := run_make (P := Try.prog) W 32 5 i0 (.int .u8 0) Try.underlying32 hi hz0 .i64 .i64 (n : Int) (n : Int) (by omega) (Int.le_refl _) (by rw [hz2]; omega) (by omega)
  rw [h, hz1]
  simp [Value.cells]
theorem madeB_vals (n : Nat) : madeCells #[.int .u8 0] n = (vals (List.replicate n 0)).toArray := by
  apply Array.ext
  · rw [size_madeCells, List.size_toArray, vals_len, List.length_replicate]
  · intro i h1 h2
    simp [madeCells, vals, Nat.mod_one]
theorem Bs.made {w : World} (n : Nat) (hn : n ≤ 1000000) : Bs (fun b => b = w.heap.size) (w.alloc (.cells (madeCells #[.int .u8 0] n) 5)) (some ⟨w.heap.size, 0, none⟩) n n (List.replicate n 0) := by
  have h := bs_block (w := w.alloc (.cells (madeCells #[.int .u8 0] n) 5)) (g := w.heap.size) (l := List.replicate n 0) (t := 5) (by rw [← madeB_vals]; exact heap_new rfl) (by rw [List.length_replicate]; unfold maxLen; omega)
  rwa [List.length_replicate] at h
def lf0 : DM := DM.new 104
def lf1 : DM := (fmtR 0 4 lf0).2.2
def lf2 : DM := (fmtR 4 100 lf1).2.2
theorem lf1_e : (fmtR 0 4 lf0).1 = 0 := by kernel_rfl
theorem lf1_m : (fmtR 0 4 lf0).2.1 = ⟨0, 4, 2, 128, [], 0, 0⟩ := by kernel_rfl
theorem lf1_on : lf1.on = true := by kernel_rfl
theorem lf1_len : lf1.S.length = 104 := by kernel_rfl
theorem lf2_e : (fmtR 4 100 lf1).1 = 0 := by kernel_rfl
theorem lf2_m : (fmtR 4 100 lf1).2.1 = ⟨4, 100, 2, 128, [], 0, 0⟩ := by kernel_rfl
theorem lf2_on : lf2.on = true := by kernel_rfl
theorem lf1_bad : newOk (lastB (lf1.S.getD 4 [])) (lastB (lf1.S.getD 5 [])) = false := by kernel_rfl
theorem lf2_len : lf2.S.length = 104 := by kernel_rfl
theorem fmtR_ok (f n : Nat) (d : DM) (h : d.Ok 0) (he : (fmtR f n d).1 = 0) : (fmtR f n d).2.2.Ok 0 := by
  have key : ∀ (m : LM) (d : DM) (e : Nat), d.Ok 0 → (desR m d e).1 = 0 → (desR m d e).2.2.Ok 0 := by
    intro m d e hd h0
    unfold desR at *
    split at h0
    · split at h0
      · rename_i a b; rw [if_pos a, if_pos b]; exact DM.flush_ok (DM.write_ok hd (desB_len _ _))
      · simp at h0
    · simp at h0
  unfold fmtR at *
  split at he
  · rename_i a
    rw [if_pos a]
    exact key _ _ _ (key _ _ _ h a) he
  · rename_i a; exact absurd he a
theorem lf1_ok : lf1.Ok 0 := fmtR_ok _ _ _ (DM.new_ok (by omega) (by omega)) lf1_e
theorem room1 : roomZ 4 ((0 : Nat) : Int) = 116 := by decide
theorem room2 : roomZ 100 ((0 : Nat) : Int) = 4000 := by decide
theorem room3 : roomZ 4 ((112 : Nat) : Int) = 4 := by decide
theorem room4 : roomZ 4 ((128 : Nat) : Int) = -1 := by decide
def lr1 : List UInt8 := List.replicate 100 0
def lr2 : List UInt8 := List.replicate 4 0
def lm0 : LM := ⟨0, 4, 2, 128, [], 0, 0⟩
def lm1 : LM := ⟨0, 4, 2, 128, [lr1], 0, 112⟩
def lm2 : LM := ⟨0, 4, 2, 128, [lr1, lr2], 0, 128⟩
def ln0 : LM := ⟨4, 100, 2, 128, [], 0, 0⟩
theorem lm2_small : ∀ r ∈ lm2.recs, r.length ≤ 1000000 := by
  intro r hr
  have hr : r = lr1 ∨ r = lr2 := by simpa [lm2] using hr
  rcases hr with rfl | rfl <;> simp [lr1, lr2]
theorem lap1 : appE lm0 true 100 = 0 ∧ appM lm0 true lr1 = lm1 := ⟨by decide, by kernel_rfl⟩
theorem lap2 : appE lm1 true 4 = 0 ∧ appM lm1 true lr2 = lm2 := ⟨by decide, by kernel_rfl⟩
theorem lap3 : appE lm2 true 0 = 9 ∧ appM lm2 true [] = lm2 := ⟨by decide, by kernel_rfl⟩
set_option maxRecDepth 100000 in
set_option maxHeartbeats 8000000 in
theorem lives4_any (w : World) : Calls Try.prog 19 #[] w fun e w' => e = .returned (.bool true) ∧ Below w.heap.size w w' := by
  have HL0 := Lib.hid (Lv.refl w)
  have hm1 : ∀ W : World, (Instr.makeSlice 32 (.int .i64 100) (.int .i64 100)).run Try.prog W = .ok (.slice (some ⟨W.heap.size, 0, none⟩) 100 100) (W.alloc (.cells (madeCells #[.int .u8 0] 100) 5)) := run_mkB 100 (by omega)
  have hm2 : ∀ W : World, (Instr.makeSlice 32 (.int .i64 4) (.int .i64 4)).run Try.prog W = .ok (.slice (some ⟨W.heap.size, 0, none⟩) 4 4) (W.alloc (.cells (madeCells #[.int .u8 0] 4) 5)) := run_mkB 4 (by omega)
  have hv1 : validB lf0.S.length ((0 : Nat) : Int) ((4 : Nat) : Int) = true := by decide
  have hv2 : validB lf1.S.length ((4 : Nat) : Int) ((100 : Nat) : Int) = true := by rw [lf1_len]; decide
  have hv3 : validB lf2.S.length ((0 : Nat) : Int) ((3 : Nat) : Int) = false := by rw [lf2_len]; decide
  have HF1 : Hid (∀ u g, Lv w u [diskO g lf0] → Calls Try.prog 11 #[.pointer (some ⟨g, 0, none⟩), .int .i64 0, .int .i64 4] u fun x w' => ∃ gl, x = .returned (.tuple #[.pointer (some ⟨gl, 0, none⟩), .int .i64 0]) ∧ Lv w w' [logO gl g lm0, diskO g lf1]) := Lib.hid (fun u g hl => by
    refine (format_ok hl (j := 0) rfl 0 4 (by omega) (by omega) hv1 ((DM.new_ok (by omega) (by omega)).mono (by omega))).mono ?_
    rintro x w' (⟨-, gl, hx, hl2⟩ | ⟨he, -⟩)
    · rw [lf1_m] at hl2; exact ⟨gl, hx, hl2⟩
    · rw [lf1_e] at he; exact absurd he (by omega))
  have HO1 : Hid (∀ u g gl, Lv w u [logO gl g lm0, diskO g lf1] → Calls Try.prog 18 #[.pointer (some ⟨g, 0, none⟩), .int .i64 4, .int .i64 100] u fun x w' => x = .returned (.tuple #[.pointer none, .int .i64 7]) ∧ Lv w w' [logO gl g lm0, diskO g lf1]) := Lib.hid (fun u g gl hl => open_form hl (j := 1) rfl 4 100 (by omega) (by omega) hv2 lf1_on (.inl lf1_bad))
  have HF2 : Hid (∀ u g gl, Lv w u [logO gl g lm0, diskO g lf1] → Calls Try.prog 11 #[.pointer (some ⟨g, 0, none⟩), .int .i64 4, .int .i64 100] u fun x w' => ∃ gn, x = .returned (.tuple #[.pointer (some ⟨gn, 0, none⟩), .int .i64 0]) ∧ Lv w w' [logO gn g ln0, logO gl g lm0, diskO g lf2]) := Lib.hid (fun u g gl hl => by
    refine (format_ok hl (j := 1) rfl 4 100 (by omega) (by omega) hv2 (lf1_ok.mono (by omega))).mono ?_
    rintro x w' (⟨-, gn, hx, hl2⟩ | ⟨he, -⟩)
    · rw [lf2_m] at hl2; exact ⟨gn, hx, hl2⟩
    · rw [lf2_e] at he; exact absurd he (by omega))
  have HF3 : Hid (∀ u g gl gn, Lv w u [logO gn g ln0, logO gl g lm0, diskO g lf2] → Calls Try.prog 11 #[.pointer (some ⟨g, 0, none⟩), .int .i64 0, .int .i64 3] u fun x w' => x = .returned (.tuple #[.pointer none, .int .i64 5]) ∧ u = w') := Lib.hid (fun u g gl gn hl => format_bad hl (j := 2) rfl 0 3 (by omega) (by omega) (by omega) (by omega) hv3)
  clear hv1 hv2 hv3
  go_enter Try.func19, Try.ntmps19
  go_upto_region 10 with (first
    | (have x1 := HL0.out; go_at_call 10; refine (made4_lv x1 104 (by omega) (by omega)).mono ?_; rintro e w1 ⟨g, rfl, hl⟩; have HL1 := Lib.hid hl; clear hl x1 HL0)
    | (have x1 := HL1.out; go_at_call 11; refine (HF1.out _ _ x1).mono ?_; rintro e w2 ⟨gl, rfl, hl⟩; have HL2 := Lib.hid hl; clear hl x1 HL1)
    | (have x1 := HL2.out; go_at_call 18; refine (HO1.out _ _ _ x1).mono ?_; rintro e w3 ⟨rfl, hl⟩; have HL3 := Lib.hid hl; clear hl x1 HL2)
    | (have x1 := HL3.out; go_at_call 11; refine (HF2.out _ _ _ x1).mono ?_; rintro e w4 ⟨gn, rfl, hl⟩; have HL4 := Lib.hid hl; have HG4 : Hid True := Lib.hid trivial; clear hl x1 HL3)
    | (have x1 := HG4; go_at_call 11; refine (HF3.out _ _ _ _ HL4.out).mono ?_; rintro e w5 ⟨rfl, rfl⟩; clear x1 HG4))
  clear HF1 HO1 HF2 HF3
  have HG1 : Hid True := Lib.hid trivial
  go_upto_region 11 with (first
    | (have x1 := HG1; go_at_call 29; refine (room_lv HL4.out (i := 1) (m := lm0) rfl (show 4 ≤ 4096 by omega) (show 0 ≤ 1000000 by omega)).mono ?_; rintro e w6 ⟨rfl, hb⟩; rw [show roomZ lm0.n lm0.tak = 116 from room1]; have HL5 := Lib.hid (HL4.out.below hb); clear hb x1 HG1)
    | (have x1 := HL5.out; go_at_call 29; refine (room_lv x1 (i := 0) (m := ln0) rfl (show 100 ≤ 4096 by omega) (show 0 ≤ 1000000 by omega)).mono ?_; rintro e w7 ⟨rfl, hb⟩; rw [show roomZ ln0.n ln0.tak = 4000 from room2]; have HL6 := Lib.hid (x1.below hb); clear hb x1 HL5))
  have HL7 : Hid (Lv w (w7.alloc (.cells (madeCells #[.int .u8 0] 100) 5)) [logO gn g ln0, logO gl g lm0, diskO g lf2]) := Lib.hid (HL6.out.below ((Below.refl _ _).alloc (Nat.le_refl _) _))
  have HG2 : Hid True := Lib.hid trivial
  have HG3 : Hid True := Lib.hid trivial
  clear HL6 HL4
  go_upto_region 12 with (first
    | (have x1 := HG2; go_at_call 15; refine (append_lv HL7.out (i := 1) (j := 2) (m := lm0) (d := lf2) (r := lr1) rfl rfl (Bs.made 100 (by omega)) (show 4 ≤ 4096 by omega) (show 0 ≤ 1000000 by omega) (by omega) (show 0 ≤ 100000 by omega)).mono ?_; rintro e w8 ⟨rfl, hl⟩; rw [lf2_on] at hl ⊢; rw [lap1.2] at hl; rw [lap1.1]; have HL8 := Lib.hid hl; clear hl x1 HG2 HL7)
    | (have x1 := HL8.out; go_at_call 29; refine (room_lv x1 (i := 1) (m := lm1) rfl (show 4 ≤ 4096 by omega) (show 112 ≤ 1000000 by omega)).mono ?_; rintro e w9 ⟨rfl, hb⟩; rw [show roomZ lm1.n lm1.tak = 4 from room3]; have HL9 := Lib.hid ((HL8.out.below hb).below ((Below.refl _ _).alloc (Nat.le_refl _) (.cells (madeCells #[.int .u8 0] 4) 5))); clear hb x1 HL8)
    | (have x1 := HG3; go_at_call 15; refine (append_lv HL9.out (i := 1) (j := 2) (m := lm1) (d := lf2) (r := lr2) rfl rfl (Bs.made 4 (by omega)) (show 4 ≤ 4096 by omega) (show 112 ≤ 1000000 by omega) (by omega) (show 1 ≤ 100000 by omega)).mono ?_; rintro e w10 ⟨rfl, hl⟩; rw [lf2_on] at hl ⊢; rw [lap2.2] at hl; rw [lap2.1]; have HL10 := Lib.hid hl; clear hl x1 HG3 HL9)
    | (have x1 := HL10.out; go_at_call 29; refine (room_lv x1 (i := 1) (m := lm2) rfl (show 4 ≤ 4096 by omega) (show 128 ≤ 1000000 by omega)).mono ?_; rintro e w11 ⟨rfl, hb⟩; rw [show roomZ lm2.n lm2.tak = -1 from room4]; have HL11 := Lib.hid (x1.below hb); clear hb x1 HL10))
  go_wp2_with (first
    | (have x1 := HL11.out; go_at_call 15; refine (append_lv x1 (i := 1) (j := 2) (m := lm2) (d := lf2) (r := []) rfl rfl (Bs.empty (fun _ => False) _ none 0 (by unfold maxLen; omega) (fun _ => rfl)) (show 4 ≤ 4096 by omega) (show 128 ≤ 1000000 by omega) (by omega) (show 2 ≤ 100000 by omega)).mono ?_; rintro e w12 ⟨rfl, hl⟩; rw [lf2_on] at hl ⊢; rw [lap3.2] at hl; rw [lap3.1]; have HL12 := Lib.hid hl; clear hl x1 HL11)
    | (have x1 := HL12.out; go_at_call 27; refine (records_lv x1 (ii := 1) (m := lm2) rfl (show 2 ≤ 100000 by omega) lm2_small).mono ?_; rintro e w13 ⟨ra, rc, rfl, hl⟩; rw [show lm2.recs.length = 2 from rfl]; have HL13 := Lib.hid hl; clear hl x1 HL12)
    | (have x1 := HL13.out; go_at_call 42; refine (synced_lv x1 (i := 2) (m := lm2) rfl).mono ?_; rintro e w14 ⟨rfl, rfl⟩; rw [show ((lm2.syn : Nat) : Int) = 0 from rfl]; clear x1))
  go_ret
  exact ⟨rfl, HL13.out.args⟩
end Go.Proofs.Ythffegfcgmhppaa
namespace Go.Proofs.Ythffegfcgmhppaa
open Go.RowKit
theorem nf_write {d : DM} {k : Nat} {b : List UInt8} (h : d.fuse = 0) : (d.write k b).on = d.on ∧ (d.write k b).fuse = 0 := ⟨write_on h, (write_fuse h).trans h⟩
theorem nf_flush {d : DM} (h : d.fuse = 0) : d.flush.on = d.on ∧ d.flush.fuse = 0 := ⟨flush_on h, (flush_fuse h).trans h⟩
theorem desR_nf (m : LM) (d : DM) (e : Nat) (h : d.on = true) (hf : d.fuse = 0) : (desR m d e).1 = 0 ∧ (desR m d e).2.1 = { m with rnd := (m.rnd + 1) % 256, en := e } ∧ (desR m d e).2.2 = (d.write (m.frm + (m.rnd + 1) % 256 % 2) (desB ((m.rnd + 1) % 256) e)).flush ∧ (desR m d e).2.2.on = true ∧ (desR m d e).2.2.fuse = 0 := by
  have hw := nf_write (k := m.frm + (m.rnd + 1) % 256 % 2) (b := desB ((m.rnd + 1) % 256) e) hf
  have hw1 := hw.1.trans h
  have hfl := nf_flush hw.2
  unfold desR
  rw [if_pos h, if_pos hw1]
  exact ⟨rfl, rfl, rfl, hfl.1.trans hw1, hfl.2⟩
theorem desR_off (m : LM) (d : DM) (e : Nat) (h : d.on = false) : desR m d e = (10, m, d) := by
  unfold desR
  rw [if_neg (by rw [h]; decide)]
theorem fmtR_off (f n : Nat) (d : DM) (h : d.on = false) : (fmtR f n d).1 = 10 ∧ (fmtR f n d).2.2 = d := by
  unfold fmtR fmt1
  rw [desR_off _ _ _ h]
  exact ⟨rfl, rfl⟩
theorem fmtR_on (f n : Nat) (d : DM) (h : d.on = true) (hf : d.fuse = 0) : (fmtR f n d).1 = 0 ∧ (fmtR f n d).2.1 = ⟨f, n, 2, 128, [], 0, 0⟩ ∧ (fmtR f n d).2.2 = ((((d.write (f + 1) (desB 1 128)).flush).write f (desB 2 128)).flush) ∧ (fmtR f n d).2.2.on = true ∧ (fmtR f n d).2.2.fuse = 0 := by
  obtain ⟨a1, a2, a3, a4, a5⟩ := desR_nf (LM.new f n) d 128 h hf
  have e1 : (fmt1 f n d).1 = 0 := a1
  obtain ⟨b1, b2, b3, b4, b5⟩ := desR_nf (fmt1 f n d).2.1 (fmt1 f n d).2.2 128 a4 a5
  have e2 : (fmt1 f n d).2.1 = ⟨f, n, 1, 128, [], 0, 0⟩ := a2
  unfold fmtR
  rw [if_pos e1]
  refine ⟨b1, ?_, ?_, b4, b5⟩
  · rw [b2, e2]
    rfl
  · rw [b3, e2]
    have : (fmt1 f n d).2.2 = (d.write (f + 1) (desB 1 128)).flush := a3
    rw [this]
    simp
end Go.Proofs.Ythffegfcgmhppaa
namespace Go.Proofs.Ythffegfcgmhppaa
open Go.RowKit
set_option linter.unusedSimpArgs false
set_option linter.unusedVariables false
/-- the two regions -/
def regsO (g : Nat) (f n F2 N2 : Int) : Obj := ⟨fun B w => w.heap[g]? = some (.cells #[.int .i64 f, .int .i64 n, .int .i64 F2, .int .i64 N2] 41 (0, 0)) ∧ B g, fun {B S w w'} h hk hs => ⟨hk.heap h.1 (hs g (Array.getElem?_eq_some_iff.1 h.1).1 h.2), h.2⟩⟩
theorem run_bld2i (x y : Int) (W : World) : (Instr.build 41 #[(0, .int .i64 x), (1, .int .i64 y)]).run Try.prog W = .ok (.agg #[.int .i64 x, .int .i64 y]) W := by kernel_rfl
theorem run_bldRegs (x y z t : Int) (W : World) : (Instr.buildSlice 42 2 #[(0, .agg #[.int .i64 x, .int .i64 y]), (1, .agg #[.int .i64 z, .int .i64 t])]).run Try.prog W = .ok (.slice (some ⟨W.heap.size, 0, none⟩) 2 2) (W.alloc (.cells #[.int .i64 x, .int .i64 y, .int .i64 z, .int .i64 t] 41)) := by kernel_rfl
theorem setFuse_len (d : DM) (n : Int) : (d.setFuse n).S.length = d.S.length := by unfold DM.setFuse; split <;> rfl
theorem setFuse_ok {d : DM} (h : d.Ok 0) : (d.setFuse 0).Ok 40000 := by
  unfold DM.setFuse
  split
  · exact ⟨h.1, h.2.1, by show (0 : Int).toNat ≤ _; decide, fun s hs => ⟨(h.2.2.2 s hs).1, by have := (h.2.2.2 s hs).2.1; omega, (h.2.2.2 s hs).2.2⟩⟩
  · exact h.mono (by omega)
theorem validB_iff (S : Nat) (f n : Int) : validB S f n = true ↔ 4 ≤ n ∧ 0 ≤ f ∧ n ≤ (S : Int) - f := by unfold validB; exact decide_eq_true_iff
theorem valid4_any (S : Nat) (f n : Int) (hS : 1 ≤ S ∧ S ≤ 4096) (hb : -9223372036854775808 ≤ f ∧ f ≤ 9223372036854775807 ∧ -9223372036854775808 ≤ n ∧ n ≤ 9223372036854775807) (w : World) :
    Calls Try.prog 22 #[.int .i64 (S : Int), .int .i64 f, .int .i64 n] w fun x w' => x = .returned (.bool (validB S f n)) ∧ w = w' := by
  obtain ⟨B, hB⟩ : ∃ B, B = validB S f n := ⟨_, rfl⟩
  rw [← hB]
  unfold validB at hB
  have HB := Lib.hid hB
  clear hB
  by_cases a1 : 4 ≤ n
  · by_cases a2 : n ≤ (S : Int)
    · have w1 : IntKind.i64.wrap ((S : Int) - n) = (S : Int) - n := i64_id _ (by omega) (by omega)
      by_cases a3 : 0 ≤ f
      · by_cases a4 : f ≤ (S : Int) - n
        · have HT : Hid (B = true) := Lib.hid (by rw [HB.out, decide_eq_true]; omega)
          go_enter Try.func22, Try.ntmps22
          go_wp2
          go_ret
          exact ⟨by rw [HT.out]; rfl, rfl⟩
        · have HT : Hid (B = false) := Lib.hid (by rw [HB.out, decide_eq_false]; omega)
          have a5 : (S : Int) - n < f := by omega
          have a6 : decide (f ≤ (S : Int) - n) = false := by simpa using a4
          clear a4
          go_enter Try.func22, Try.ntmps22
          go_wp2
          go_ret
          exact ⟨by rw [HT.out]; rfl, rfl⟩
      · have HT : Hid (B = false) := Lib.hid (by rw [HB.out, decide_eq_false]; omega)
        have a5 : f < 0 := by omega
        have a6 : decide (0 ≤ f) = false := by simpa using a3
        clear a3
        go_enter Try.func22, Try.ntmps22
        go_wp2
        go_ret
        exact ⟨by rw [HT.out]; rfl, rfl⟩
    · have HT : Hid (B = false ∨ B = true ∧ n ≤ (S : Int) - f ∧ 0 ≤ f) := Lib.hid (by
        rw [HB.out]
        by_cases h : 4 ≤ n ∧ 0 ≤ f ∧ n ≤ (S : Int) - f
        · exact .inr ⟨decide_eq_true h, h.2.2, h.2.1⟩
        · exact .inl (decide_eq_false h))
      have HT2 : Hid (B = false) := Lib.hid (by rcases HT.out with h | h; exact h; omega)
      have a5 : (S : Int) < n := by omega
      have a6 : decide (n ≤ (S : Int)) = false := by simpa using a2
      clear a2 HT
      go_enter Try.func22, Try.ntmps22
      go_wp2
      go_ret
      exact ⟨by rw [HT2.out]; rfl, rfl⟩
  · have HT : Hid (B = false) := Lib.hid (by rw [HB.out, decide_eq_false (fun h => a1 h.1)])
    have a4 : decide (4 ≤ n) = false := by simpa using a1
    have a5 : n < 4 := by omega
    clear a1
    go_enter Try.func22, Try.ntmps22
    go_wp2
    go_ret
    exact ⟨by rw [HT.out]; rfl, rfl⟩
theorem new_bad4 (S A : Nat) (h : A + 1 < S) : newOk (lastB ((DM.new S).S.getD A [])) (lastB ((DM.new S).S.getD (A + 1) [])) = false := by
  have e : ∀ k, k < S → (DM.new S).S.getD k [] = [zeroB] := fun k hk => by
    unfold DM.new
    rw [List.getD_eq_getElem?_getD, List.getElem?_replicate, if_pos hk]; rfl
  rw [e A (by omega), e (A + 1) h]
  decide +kernel
set_option maxRecDepth 100000 in
set_option maxHeartbeats 16000000 in
theorem walranges_any (s f n : Int) (off : Bool) (long : Int) (w : World) (s1 : -9223372036854775808 ≤ s) (s2 : s ≤ 9223372036854775807) (f1 : -9223372036854775808 ≤ f) (f2 : f ≤ 9223372036854775807) (n1 : -9223372036854775808 ≤ n) (n2 : n ≤ 9223372036854775807) (l1 : -9223372036854775808 ≤ long) (l2 : long ≤ 9223372036854775807) :
    Calls Try.prog 4 #[.int .i64 s, .int .i64 f, .int .i64 n, .bool off, .int .i64 long] w fun e w' => e = .returned (.bool true) ∧ Below w.heap.size w w' := by
  have hs12 := around_bd s 12 (by omega)
  have hf12 := around_bd f 12 (by omega)
  have hn14 := around_bd n 14 (by omega)
  obtain ⟨SZ, hSZ⟩ : ∃ SZ : Nat, 1 + around s 12 = (SZ : Int) := ⟨(1 + around s 12).toNat, by omega⟩
  have HSB : Hid (1 ≤ SZ ∧ SZ ≤ 4096) := Lib.hid (by omega)
  have hw1 : IntKind.i64.wrap (1 + around s 12) = (SZ : Int) := by rw [i64_id _ (by omega) (by omega)]; exact hSZ
  obtain ⟨F2, hF2⟩ : ∃ F2, F2 = around f 12 - 2 := ⟨_, rfl⟩
  obtain ⟨N2, hN2⟩ : ∃ N2, N2 = around n 14 - 1 := ⟨_, rfl⟩
  have hw2 : IntKind.i64.wrap (around f 12 - 2) = F2 := by rw [i64_id _ (by omega) (by omega)]; exact hF2.symm
  have hw3 : IntKind.i64.wrap (around n 14 - 1) = N2 := by rw [i64_id _ (by omega) (by omega)]; exact hN2.symm
  have hF2b : -10 ≤ F2 ∧ F2 ≤ 10 := by omega
  have hN2b : -10 ≤ N2 ∧ N2 ≤ 14 := by omega
  obtain ⟨a12, ha12⟩ : ∃ a12, a12 = around s 12 := ⟨_, rfl⟩
  obtain ⟨b12, hb12⟩ : ∃ b12, b12 = around f 12 := ⟨_, rfl⟩
  obtain ⟨c14, hc14⟩ : ∃ c14, c14 = around n 14 := ⟨_, rfl⟩
  rw [← ha12] at hw1
  rw [← hb12] at hw2
  rw [← hc14] at hw3
  have HA := Lib.hid ha12
  have HBv := Lib.hid hb12
  have HCv := Lib.hid hc14
  obtain ⟨d0, hd0⟩ : ∃ d0, d0 = DM.new SZ := ⟨_, rfl⟩
  have HD0 := Lib.hid hd0
  have HOK : Hid (d0.Ok 0) := Lib.hid (by rw [hd0]; exact DM.new_ok HSB.out.1 HSB.out.2)
  have HON : Hid (d0.on = true) := Lib.hid (by rw [hd0]; rfl)
  have HFZ : Hid (d0.fuse = 0) := Lib.hid (by rw [hd0]; rfl)
  have HSL : Hid (d0.S.length = SZ) := Lib.hid (by rw [hd0]; simp [DM.new])
  have HFO : Hid ((d0.setFuse 0).on = false) := Lib.hid (by rw [hd0]; rfl)
  have HL0 := Lib.hid (Lv.refl w)
  have HLO : Hid (-9223372036854775808 ≤ long ∧ long ≤ 9223372036854775807) := Lib.hid ⟨l1, l2⟩
  have hb2 := run_bld2i
  have hb3 := run_bldRegs
  clear hs12 hf12 hn14 hSZ hF2 hN2 ha12 hb12 hc14 hd0 l1 l2
  go_enter Try.func4, Try.ntmps4
  go_upto_region 5 with (first
    | (go_at_call 9; refine (around_any s 12 _ s1 s2 (by omega) (by omega)).mono ?_; rintro e w1 ⟨rfl, rfl⟩; rw [← HA.out])
    | (have x1 := HL0.out; go_at_call 10; refine (made4_lv x1 SZ HSB.out.1 HSB.out.2).mono ?_; rintro e w1 ⟨g, rfl, hl⟩; rw [← HD0.out] at hl; have HL1 := Lib.hid hl; clear hl x1 HL0))
  have HG1 : Hid True := Lib.hid trivial
  have HG2 : Hid True := Lib.hid trivial
  go_upto_region 6 with (first
    | (have x1 := HG1; go_at_call 9; refine (around_any f 12 _ f1 f2 (by omega) (by omega)).mono ?_; rintro e w2 ⟨rfl, rfl⟩; rw [← HBv.out]; clear x1 HG1)
    | (have x1 := HG2; go_at_call 9; refine (around_any n 14 _ n1 n2 (by omega) (by omega)).mono ?_; rintro e w2 ⟨rfl, rfl⟩; rw [← HCv.out]; clear x1 HG2))
  obtain ⟨w2, hw2'⟩ : ∃ w2, w2 = w1.alloc (.cells #[.int .i64 f, .int .i64 n, .int .i64 F2, .int .i64 N2] 41) := ⟨_, rfl⟩
  obtain ⟨gr, hgr⟩ : ∃ gr, gr = w1.heap.size := ⟨_, rfl⟩
  obtain ⟨RO, hRO⟩ : ∃ RO, RO = regsO gr f n F2 N2 := ⟨_, rfl⟩
  have HRO := Lib.hid hRO
  have HL2 : Hid (Lv w w2 [RO, diskO g d0]) := Lib.hid (by
    rw [hRO, hw2', hgr]
    exact HL1.out.cons ((Below.refl _ _).alloc (Nat.le_refl _) _) (B := fun x => x = w1.heap.size) ⟨heap_new rfl, rfl⟩ (fun x hx => by subst hx; exact ⟨Nat.le_refl _, by rw [size_alloc1]; omega⟩))
  rw [← hw2', ← hgr]
  clear hw2' hgr HL1 HA HBv HCv hRO
  go_wp2_with fail
  go_loopw [14] (fun t wr => ∃ i : Nat, i ≤ 2 ∧ t = .int .i64 (i : Int) ∧ Lv w wr [RO, diskO g d0]) (fun t _ => 2 - (intOf t).toNat)
  case atStart => exact ⟨0, by omega, rfl, HL2.out⟩
  case round =>
    obtain ⟨i, hi9, rfl, hL⟩ := hrel
    have HL := Lib.hid hL
    have hr : wr.heap[gr]? = some (.cells #[.int .i64 f, .int .i64 n, .int .i64 F2, .int .i64 N2] 41 (0, 0)) := by
      obtain ⟨_, hr0, -, -, -⟩ := hL.get (i := 0) rfl
      rw [HRO.out] at hr0
      exact hr0.1
    have HR := Lib.hid hr
    clear hL hr
    have hi3 : i = 0 ∨ i = 1 ∨ i = 2 := by omega
    clear hi9
    rcases hi3 with rfl | rfl | rfl
    · have c1 : wr.cell? ⟨gr, 0, none⟩ = some (.int .i64 f) := by rw [cell_of_row wr gr 0 _ _ _ HR.out]; rfl
      have c2 : wr.cell? ⟨gr, 1, none⟩ = some (.int .i64 n) := by rw [cell_of_row wr gr 1 _ _ _ HR.out]; rfl
      go_upto_region 11 with fail
      have HAB : Hid (-9223372036854775808 ≤ f ∧ f ≤ 9223372036854775807 ∧ -9223372036854775808 ≤ n ∧ n ≤ 9223372036854775807) := Lib.hid (by omega)
      clear c1 c2
      go_upto_region 14 with (go_at_call 20; refine (clone_lv HL.out (i := 1) (d := d0) rfl (HOK.out.mono (by omega))).mono ?_; rintro e w3 ⟨gc, rfl, hl⟩; have HLc := Lib.hid hl; clear hl)
      have hvv := valid4_any SZ f n HSB.out HAB.out
      cases off with
      | true =>
        go_upto_region 18 with (go_at_call 21; refine (fuse_lv HLc.out (i := 0) (d := d0) rfl 0 (by omega) (by omega)).mono ?_; rintro e w4 ⟨rfl, hl⟩; have HLf := Lib.hid hl; clear hl HLc)
        cases hvb : validB d0.S.length f n with
        | false =>
          have HVB := Lib.hid hvb
          have HBD := Lib.hid (fun u hl => open_bad (w0 := w) (w := u) (L := [diskO gc (d0.setFuse 0), RO, diskO g d0]) hl (j := 0) (g := gc) (d := d0.setFuse 0) rfl f n HAB.out.1 HAB.out.2.1 HAB.out.2.2.1 HAB.out.2.2.2 (by rw [setFuse_len]; exact hvb))
          have HBF := Lib.hid (fun u hl => format_bad (w0 := w) (w := u) (L := [diskO gc (d0.setFuse 0), RO, diskO g d0]) hl (j := 0) (g := gc) (d := d0.setFuse 0) rfl f n HAB.out.1 HAB.out.2.1 HAB.out.2.2.1 HAB.out.2.2.2 (by rw [setFuse_len]; exact hvb))
          rw [HSL.out] at hvb
          have HVV := Lib.hid hvv
          have HVB2 := Lib.hid hvb
          clear hvv hvb
          go_wp2_with (first
            | (go_at_call 22; refine (HVV.out _).mono ?_; rintro e w5 ⟨rfl, rfl⟩; rw [HVB2.out])
            | (go_at_call 18; refine (HBD.out _ HLf.out).mono ?_; rintro e w5 ⟨rfl, rfl⟩)
            | (go_at_call 11; refine (HBF.out _ HLf.out).mono ?_; rintro e w5 ⟨rfl, rfl⟩))
          go_roundw
          case rel => exact ⟨1, by omega, by go_num, HLf.out.tail⟩
          case measure => simp [intOf]
        | true =>
          obtain ⟨AN, rfl⟩ : ∃ AN : Nat, f = (AN : Int) := ⟨f.toNat, by have := (validB_iff _ _ _).1 hvb; omega⟩
          obtain ⟨KN, rfl⟩ : ∃ KN : Nat, n = (KN : Int) := ⟨n.toNat, by have := (validB_iff _ _ _).1 hvb; omega⟩
          have hbd := (validB_iff _ _ _).1 hvb
          have hsb := HSB.out
          have hsl := HSL.out
          have HBD := Lib.hid (fun u hl => open_off (w0 := w) (w := u) (L := [diskO gc (d0.setFuse 0), RO, diskO g d0]) hl (j := 0) (g := gc) (d := d0.setFuse 0) rfl AN KN (by omega) (by omega) (by rw [setFuse_len]; exact hvb) HFO.out)
          have HBF := Lib.hid (fun u hl => format_ok (w0 := w) (w := u) (L := [diskO gc (d0.setFuse 0), RO, diskO g d0]) hl (j := 0) (g := gc) (d := d0.setFuse 0) rfl AN KN (by omega) (by omega) (by rw [setFuse_len]; exact hvb) (setFuse_ok HOK.out))
          have HFE : Hid ((fmtR AN KN (d0.setFuse 0)).1 = 10 ∧ (fmtR AN KN (d0.setFuse 0)).2.2 = d0.setFuse 0) := Lib.hid (fmtR_off _ _ _ HFO.out)
          rw [HSL.out] at hvb
          have HVV := Lib.hid hvv
          have HVB2 := Lib.hid hvb
          clear hvv hvb hbd hsb hsl
          go_wp2_with (first
            | (go_at_call 22; refine (HVV.out _).mono ?_; rintro e w5 ⟨rfl, rfl⟩; rw [HVB2.out])
            | (go_at_call 18; refine (HBD.out _ HLf.out).mono ?_; rintro e w5 ⟨rfl, hl⟩; have HLo := Lib.hid hl; clear hl)
            | (go_at_call 11; refine (HBF.out _ HLo.out).mono ?_; rintro e w6 (⟨he, _⟩ | ⟨-, rfl, hl⟩); exact absurd (he.symm.trans HFE.out.1) (by omega); rw [HFE.out.2] at hl; have HLz : Hid (Lv w w6 [diskO gc (d0.setFuse 0), RO, diskO g d0]) := Lib.hid hl; clear hl))
          go_roundw
          case rel => exact ⟨1, by omega, by go_num, HLz.out.tail⟩
          case measure => simp [intOf]
      | false =>
        cases hvb : validB d0.S.length f n with
        | false =>
          have HBD := Lib.hid (fun u hl => open_bad (w0 := w) (w := u) (L := [diskO gc d0, RO, diskO g d0]) hl (j := 0) (g := gc) (d := d0) rfl f n HAB.out.1 HAB.out.2.1 HAB.out.2.2.1 HAB.out.2.2.2 hvb)
          have HBF := Lib.hid (fun u hl => format_bad (w0 := w) (w := u) (L := [diskO gc d0, RO, diskO g d0]) hl (j := 0) (g := gc) (d := d0) rfl f n HAB.out.1 HAB.out.2.1 HAB.out.2.2.1 HAB.out.2.2.2 hvb)
          rw [HSL.out] at hvb
          have HVV := Lib.hid hvv
          have HVB2 := Lib.hid hvb
          clear hvv hvb
          go_wp2_with (first
            | (go_at_call 22; refine (HVV.out _).mono ?_; rintro e w5 ⟨rfl, rfl⟩; rw [HVB2.out])
            | (go_at_call 18; refine (HBD.out _ HLc.out).mono ?_; rintro e w5 ⟨rfl, rfl⟩)
            | (go_at_call 11; refine (HBF.out _ HLc.out).mono ?_; rintro e w5 ⟨rfl, rfl⟩))
          go_roundw
          case rel => exact ⟨1, by omega, by go_num, HLc.out.tail⟩
          case measure => simp [intOf]
        | true =>
          obtain ⟨AN, rfl⟩ : ∃ AN : Nat, f = (AN : Int) := ⟨f.toNat, by have := (validB_iff _ _ _).1 hvb; omega⟩
          obtain ⟨KN, rfl⟩ : ∃ KN : Nat, n = (KN : Int) := ⟨n.toNat, by have := (validB_iff _ _ _).1 hvb; omega⟩
          have hbd := (validB_iff _ _ _).1 hvb
          have hsb := HSB.out
          have hsl := HSL.out
          have HBD := Lib.hid (fun u hl => open_form (w0 := w) (w := u) (L := [diskO gc d0, RO, diskO g d0]) hl (j := 0) (g := gc) (d := d0) rfl AN KN (by omega) (by omega) hvb HON.out (.inl (by rw [HD0.out]; exact new_bad4 SZ AN (by omega))))
          have HBF := Lib.hid (fun u hl => format_ok (w0 := w) (w := u) (L := [diskO gc d0, RO, diskO g d0]) hl (j := 0) (g := gc) (d := d0) rfl AN KN (by omega) (by omega) hvb (HOK.out.mono (by omega)))
          have hfe := fmtR_on AN KN d0 HON.out HFZ.out
          obtain ⟨D9, hD9⟩ : ∃ D9, D9 = (fmtR AN KN d0).2.2 := ⟨_, rfl⟩
          have HFE : Hid ((fmtR AN KN d0).1 = 0 ∧ (fmtR AN KN d0).2.1 = ⟨AN, KN, 2, 128, [], 0, 0⟩ ∧ (fmtR AN KN d0).2.2 = D9) := Lib.hid ⟨hfe.1, hfe.2.1, hD9.symm⟩
          have HKN : Hid (KN ≤ 4096) := Lib.hid (by omega)
          rw [HSL.out] at hvb
          have HVV := Lib.hid hvv
          have HVB2 := Lib.hid hvb
          obtain ⟨ln, hln⟩ : ∃ ln : Nat, around long 100 = (ln : Int) := ⟨(around long 100).toNat, by have := around_bd long 100 (by omega); omega⟩
          have hlnb : (ln : Int) < 100 := by have := around_bd long 100 (by omega); omega
          have HLN := Lib.hid hln
          have hwl : IntKind.i64.wrap (4001 + (ln : Int)) = ((4001 + ln : Nat) : Int) := by rw [i64_id _ (by omega) (by omega)]; omega
          obtain ⟨ML, hML⟩ : ∃ ML, ML = 4001 + ln := ⟨_, rfl⟩
          rw [← hML] at hwl
          have HML : Hid (4000 < ML ∧ ML ≤ 1000000) := Lib.hid (by omega)
          have hmk := run_mkB ML HML.out.2
          have HAP : Hid (appE ⟨AN, KN, 2, 128, [], 0, 0⟩ D9.on ML = 2 ∧ appM ⟨AN, KN, 2, 128, [], 0, 0⟩ D9.on (List.replicate ML 0) = ⟨AN, KN, 2, 128, [], 0, 0⟩) := Lib.hid (by
            have e1 : appE ⟨AN, KN, 2, 128, [], 0, 0⟩ D9.on ML = 2 := by unfold appE; rw [if_pos HML.out.1]
            refine ⟨e1, ?_⟩
            unfold appM
            rw [List.length_replicate, e1]
            rfl)
          clear hvv hvb hbd hsb hsl hfe hD9 hln hML
          go_upto_region 28 with (first
            | (go_at_call 22; refine (HVV.out _).mono ?_; rintro e w5 ⟨rfl, rfl⟩; rw [HVB2.out])
            | (go_at_call 18; refine (HBD.out _ HLc.out).mono ?_; rintro e w5 ⟨rfl, hl⟩; have HLo := Lib.hid hl; clear hl)
            | (go_at_call 11; refine (HBF.out _ HLo.out).mono ?_; rintro e w6 h6; obtain ⟨-, gl, rfl, hl⟩ := h6.resolve_right (fun h => absurd (h.1.symm.trans HFE.out.1) (by omega)); rw [HFE.out.2.2, HFE.out.2.1] at hl; have HLz : Hid (Lv w w6 [logO gl gc ⟨AN, KN, 2, 128, [], 0, 0⟩, diskO gc D9, RO, diskO g d0]) := Lib.hid hl; clear hl))
          have HLy := Lib.hid (HLz.out.below ((Below.refl _ _).alloc (Nat.le_refl _) (.cells (madeCells #[.int .u8 0] ML) 5)))
          go_wp2_with (first
            | (go_at_call 9; refine (around_any long 100 _ HLO.out.1 HLO.out.2 (by omega) (by omega)).mono ?_; rintro e w7 ⟨rfl, rfl⟩; rw [HLN.out])
            | (go_at_call 15; refine (append_lv HLy.out (i := 0) (j := 1) (m := ⟨AN, KN, 2, 128, [], 0, 0⟩) (d := D9) (r := List.replicate ML 0) rfl rfl (Bs.made ML HML.out.2) HKN.out (show 0 ≤ 1000000 by omega) HML.out.2 (show 0 ≤ 100000 by omega)).mono ?_; rintro e w8 ⟨rfl, hl⟩; rw [HAP.out.2] at hl; rw [HAP.out.1]; have HLx : Hid (Lv w w8 [logO gl gc ⟨AN, KN, 2, 128, [], 0, 0⟩, diskO gc D9, RO, diskO g d0]) := Lib.hid hl; clear hl))
          go_roundw
          case rel => exact ⟨1, by omega, by go_num, HLx.out.tail.tail⟩
          case measure => simp [intOf]
    · have c1 : wr.cell? ⟨gr, 2, none⟩ = some (.int .i64 F2) := by rw [cell_of_row wr gr 2 _ _ _ HR.out]; rfl
      have c2 : wr.cell? ⟨gr, 3, none⟩ = some (.int .i64 N2) := by rw [cell_of_row wr gr 3 _ _ _ HR.out]; rfl
      go_upto_region 11 with fail
      have HAB : Hid (-9223372036854775808 ≤ F2 ∧ F2 ≤ 9223372036854775807 ∧ -9223372036854775808 ≤ N2 ∧ N2 ≤ 9223372036854775807) := Lib.hid (by omega)
      clear c1 c2
      go_upto_region 14 with (go_at_call 20; refine (clone_lv HL.out (i := 1) (d := d0) rfl (HOK.out.mono (by omega))).mono ?_; rintro e w3 ⟨gc, rfl, hl⟩; have HLc := Lib.hid hl; clear hl)
      have hvv := valid4_any SZ F2 N2 HSB.out HAB.out
      cases off with
      | true =>
        go_upto_region 18 with (go_at_call 21; refine (fuse_lv HLc.out (i := 0) (d := d0) rfl 0 (by omega) (by omega)).mono ?_; rintro e w4 ⟨rfl, hl⟩; have HLf := Lib.hid hl; clear hl HLc)
        cases hvb : validB d0.S.length F2 N2 with
        | false =>
          have HVB := Lib.hid hvb
          have HBD := Lib.hid (fun u hl => open_bad (w0 := w) (w := u) (L := [diskO gc (d0.setFuse 0), RO, diskO g d0]) hl (j := 0) (g := gc) (d := d0.setFuse 0) rfl F2 N2 HAB.out.1 HAB.out.2.1 HAB.out.2.2.1 HAB.out.2.2.2 (by rw [setFuse_len]; exact hvb))
          have HBF := Lib.hid (fun u hl => format_bad (w0 := w) (w := u) (L := [diskO gc (d0.setFuse 0), RO, diskO g d0]) hl (j := 0) (g := gc) (d := d0.setFuse 0) rfl F2 N2 HAB.out.1 HAB.out.2.1 HAB.out.2.2.1 HAB.out.2.2.2 (by rw [setFuse_len]; exact hvb))
          rw [HSL.out] at hvb
          have HVV := Lib.hid hvv
          have HVB2 := Lib.hid hvb
          clear hvv hvb
          go_wp2_with (first
            | (go_at_call 22; refine (HVV.out _).mono ?_; rintro e w5 ⟨rfl, rfl⟩; rw [HVB2.out])
            | (go_at_call 18; refine (HBD.out _ HLf.out).mono ?_; rintro e w5 ⟨rfl, rfl⟩)
            | (go_at_call 11; refine (HBF.out _ HLf.out).mono ?_; rintro e w5 ⟨rfl, rfl⟩))
          go_roundw
          case rel => exact ⟨2, by omega, by go_num, HLf.out.tail⟩
          case measure => simp [intOf]
        | true =>
          obtain ⟨AN, rfl⟩ : ∃ AN : Nat, F2 = (AN : Int) := ⟨F2.toNat, by have := (validB_iff _ _ _).1 hvb; omega⟩
          obtain ⟨KN, rfl⟩ : ∃ KN : Nat, N2 = (KN : Int) := ⟨N2.toNat, by have := (validB_iff _ _ _).1 hvb; omega⟩
          have hbd := (validB_iff _ _ _).1 hvb
          have hsb := HSB.out
          have hsl := HSL.out
          have HBD := Lib.hid (fun u hl => open_off (w0 := w) (w := u) (L := [diskO gc (d0.setFuse 0), RO, diskO g d0]) hl (j := 0) (g := gc) (d := d0.setFuse 0) rfl AN KN (by omega) (by omega) (by rw [setFuse_len]; exact hvb) HFO.out)
          have HBF := Lib.hid (fun u hl => format_ok (w0 := w) (w := u) (L := [diskO gc (d0.setFuse 0), RO, diskO g d0]) hl (j := 0) (g := gc) (d := d0.setFuse 0) rfl AN KN (by omega) (by omega) (by rw [setFuse_len]; exact hvb) (setFuse_ok HOK.out))
          have HFE : Hid ((fmtR AN KN (d0.setFuse 0)).1 = 10 ∧ (fmtR AN KN (d0.setFuse 0)).2.2 = d0.setFuse 0) := Lib.hid (fmtR_off _ _ _ HFO.out)
          rw [HSL.out] at hvb
          have HVV := Lib.hid hvv
          have HVB2 := Lib.hid hvb
          clear hvv hvb hbd hsb hsl
          go_wp2_with (first
            | (go_at_call 22; refine (HVV.out _).mono ?_; rintro e w5 ⟨rfl, rfl⟩; rw [HVB2.out])
            | (go_at_call 18; refine (HBD.out _ HLf.out).mono ?_; rintro e w5 ⟨rfl, hl⟩; have HLo := Lib.hid hl; clear hl)
            | (go_at_call 11; refine (HBF.out _ HLo.out).mono ?_; rintro e w6 (⟨he, _⟩ | ⟨-, rfl, hl⟩); exact absurd (he.symm.trans HFE.out.1) (by omega); rw [HFE.out.2] at hl; have HLz : Hid (Lv w w6 [diskO gc (d0.setFuse 0), RO, diskO g d0]) := Lib.hid hl; clear hl))
          go_roundw
          case rel => exact ⟨2, by omega, by go_num, HLz.out.tail⟩
          case measure => simp [intOf]
      | false =>
        cases hvb : validB d0.S.length F2 N2 with
        | false =>
          have HBD := Lib.hid (fun u hl => open_bad (w0 := w) (w := u) (L := [diskO gc d0, RO, diskO g d0]) hl (j := 0) (g := gc) (d := d0) rfl F2 N2 HAB.out.1 HAB.out.2.1 HAB.out.2.2.1 HAB.out.2.2.2 hvb)
          have HBF := Lib.hid (fun u hl => format_bad (w0 := w) (w := u) (L := [diskO gc d0, RO, diskO g d0]) hl (j := 0) (g := gc) (d := d0) rfl F2 N2 HAB.out.1 HAB.out.2.1 HAB.out.2.2.1 HAB.out.2.2.2 hvb)
          rw [HSL.out] at hvb
          have HVV := Lib.hid hvv
          have HVB2 := Lib.hid hvb
          clear hvv hvb
          go_wp2_with (first
            | (go_at_call 22; refine (HVV.out _).mono ?_; rintro e w5 ⟨rfl, rfl⟩; rw [HVB2.out])
            | (go_at_call 18; refine (HBD.out _ HLc.out).mono ?_; rintro e w5 ⟨rfl, rfl⟩)
            | (go_at_call 11; refine (HBF.out _ HLc.out).mono ?_; rintro e w5 ⟨rfl, rfl⟩))
          go_roundw
          case rel => exact ⟨2, by omega, by go_num, HLc.out.tail⟩
          case measure => simp [intOf]
        | true =>
          obtain ⟨AN, rfl⟩ : ∃ AN : Nat, F2 = (AN : Int) := ⟨F2.toNat, by have := (validB_iff _ _ _).1 hvb; omega⟩
          obtain ⟨KN, rfl⟩ : ∃ KN : Nat, N2 = (KN : Int) := ⟨N2.toNat, by have := (validB_iff _ _ _).1 hvb; omega⟩
          have hbd := (validB_iff _ _ _).1 hvb
          have hsb := HSB.out
          have hsl := HSL.out
          have HBD := Lib.hid (fun u hl => open_form (w0 := w) (w := u) (L := [diskO gc d0, RO, diskO g d0]) hl (j := 0) (g := gc) (d := d0) rfl AN KN (by omega) (by omega) hvb HON.out (.inl (by rw [HD0.out]; exact new_bad4 SZ AN (by omega))))
          have HBF := Lib.hid (fun u hl => format_ok (w0 := w) (w := u) (L := [diskO gc d0, RO, diskO g d0]) hl (j := 0) (g := gc) (d := d0) rfl AN KN (by omega) (by omega) hvb (HOK.out.mono (by omega)))
          have hfe := fmtR_on AN KN d0 HON.out HFZ.out
          obtain ⟨D9, hD9⟩ : ∃ D9, D9 = (fmtR AN KN d0).2.2 := ⟨_, rfl⟩
          have HFE : Hid ((fmtR AN KN d0).1 = 0 ∧ (fmtR AN KN d0).2.1 = ⟨AN, KN, 2, 128, [], 0, 0⟩ ∧ (fmtR AN KN d0).2.2 = D9) := Lib.hid ⟨hfe.1, hfe.2.1, hD9.symm⟩
          have HKN : Hid (KN ≤ 4096) := Lib.hid (by omega)
          rw [HSL.out] at hvb
          have HVV := Lib.hid hvv
          have HVB2 := Lib.hid hvb
          obtain ⟨ln, hln⟩ : ∃ ln : Nat, around long 100 = (ln : Int) := ⟨(around long 100).toNat, by have := around_bd long 100 (by omega); omega⟩
          have hlnb : (ln : Int) < 100 := by have := around_bd long 100 (by omega); omega
          have HLN := Lib.hid hln
          have hwl : IntKind.i64.wrap (4001 + (ln : Int)) = ((4001 + ln : Nat) : Int) := by rw [i64_id _ (by omega) (by omega)]; omega
          obtain ⟨ML, hML⟩ : ∃ ML, ML = 4001 + ln := ⟨_, rfl⟩
          rw [← hML] at hwl
          have HML : Hid (4000 < ML ∧ ML ≤ 1000000) := Lib.hid (by omega)
          have hmk := run_mkB ML HML.out.2
          have HAP : Hid (appE ⟨AN, KN, 2, 128, [], 0, 0⟩ D9.on ML = 2 ∧ appM ⟨AN, KN, 2, 128, [], 0, 0⟩ D9.on (List.replicate ML 0) = ⟨AN, KN, 2, 128, [], 0, 0⟩) := Lib.hid (by
            have e1 : appE ⟨AN, KN, 2, 128, [], 0, 0⟩ D9.on ML = 2 := by unfold appE; rw [if_pos HML.out.1]
            refine ⟨e1, ?_⟩
            unfold appM
            rw [List.length_replicate, e1]
            rfl)
          clear hvv hvb hbd hsb hsl hfe hD9 hln hML
          go_upto_region 28 with (first
            | (go_at_call 22; refine (HVV.out _).mono ?_; rintro e w5 ⟨rfl, rfl⟩; rw [HVB2.out])
            | (go_at_call 18; refine (HBD.out _ HLc.out).mono ?_; rintro e w5 ⟨rfl, hl⟩; have HLo := Lib.hid hl; clear hl)
            | (go_at_call 11; refine (HBF.out _ HLo.out).mono ?_; rintro e w6 h6; obtain ⟨-, gl, rfl, hl⟩ := h6.resolve_right (fun h => absurd (h.1.symm.trans HFE.out.1) (by omega)); rw [HFE.out.2.2, HFE.out.2.1] at hl; have HLz : Hid (Lv w w6 [logO gl gc ⟨AN, KN, 2, 128, [], 0, 0⟩, diskO gc D9, RO, diskO g d0]) := Lib.hid hl; clear hl))
          have HLy := Lib.hid (HLz.out.below ((Below.refl _ _).alloc (Nat.le_refl _) (.cells (madeCells #[.int .u8 0] ML) 5)))
          go_wp2_with (first
            | (go_at_call 9; refine (around_any long 100 _ HLO.out.1 HLO.out.2 (by omega) (by omega)).mono ?_; rintro e w7 ⟨rfl, rfl⟩; rw [HLN.out])
            | (go_at_call 15; refine (append_lv HLy.out (i := 0) (j := 1) (m := ⟨AN, KN, 2, 128, [], 0, 0⟩) (d := D9) (r := List.replicate ML 0) rfl rfl (Bs.made ML HML.out.2) HKN.out (show 0 ≤ 1000000 by omega) HML.out.2 (show 0 ≤ 100000 by omega)).mono ?_; rintro e w8 ⟨rfl, hl⟩; rw [HAP.out.2] at hl; rw [HAP.out.1]; have HLx : Hid (Lv w w8 [logO gl gc ⟨AN, KN, 2, 128, [], 0, 0⟩, diskO gc D9, RO, diskO g d0]) := Lib.hid hl; clear hl))
          go_roundw
          case rel => exact ⟨2, by omega, by go_num, HLx.out.tail.tail⟩
          case measure => simp [intOf]
    · have HB2 := Lib.hid HL.out.args
      have HSZ2 := Lib.hid HL.out.size
      go_wp2_with (go_at_call 19; refine (lives4_any _).mono ?_; rintro e w9 ⟨rfl, hb⟩; have HB3 := Lib.hid (HB2.out.trans (hb.mono HSZ2.out)); clear hb)
      go_ret
      exact ⟨rfl, HB3.out⟩
end Go.Proofs.Ythffegfcgmhppaa

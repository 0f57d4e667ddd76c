/-
  Texts R4, LD, LG, LH, Q0, Q3, Q4, Q5, LI, one behind the other.
-/
import Derived.Orders
import Derived.Tactics
import Derived.Deep.MidRow
import Derived.WalkKit
import Derived.WalkSpells
import Derived.WalkLawsBesides
import Derived.Laws.AppendOwn
import Derived.Laws.OwnMore
import Derived.Deep.AppendSrc
import Derived.Lib.Hide
import Derived.Deep.QuietTactic
import Derived.BigQuiet
import GoSem.Claim
import Derived.Maps.RangeRun
import Derived.Maps.Range
import Derived.Maps.OwnOps
import Derived.Maps.RangeWalk
import Derived.Deep.Cut
import Derived.Deep.RegionWith
import Derived.Deep.DrawnRows
import Derived.StillTailTactics
import Derived.Carry
import Derived.Laws.CopyOwn
import Derived.Lib.AppendZerosOnto
import Derived.Laws.BytesString
import Derived.Laws.AppendOwnNone
import Derived.ProofKit
import Derived.OpenShut
import Derived.Deep.Slices
import Derived.Deep.Fields
import Derived.JoinedCond
import Derived.Laws.ShiftsVarLaws
import Derived.Laws.BitsAllLaws
import Derived.Laws.ResultCell
import Derived.Test.YthffegfcgmhppaaRows
import Derived.Test.YthffegfcgmhppaaZJ605
namespace Go.Proofs.Ythffegfcgmhppaa.Roll
variable {P : Program} {ops : Array Oper} {Q : Exit → Act → World → Prop}
/-- the operations from n on come last, each behind the one before it -/
def tailOk2 (ops : Array Oper) (n : Nat) : Bool := (List.range ops.size).all fun k => decide (k < n) || match ops[k]? with | none => true | some o => ((List.range n).all fun i => (ahead o).contains i) && (decide (k ≤ n) || (ahead o).contains (k - 1))
theorem tail_ahead2 {n k : Nat} {o : Oper} (h : tailOk2 ops n = true) (ho : ops[k]? = some o) (hk : n ≤ k) : (∀ i, i < n → i ∈ ahead o) ∧ (n < k → k - 1 ∈ ahead o) := by
  have hlt : k < ops.size := (Array.getElem?_eq_some_iff.1 ho).1
  have h1 := List.all_eq_true.1 h k (List.mem_range.2 hlt)
  simp only [ho, Bool.or_eq_true, Bool.and_eq_true, decide_eq_true_eq] at h1
  have h2 := h1.resolve_left (by omega)
  refine ⟨fun i hi => by simpa using List.all_eq_true.1 h2.1 i (List.mem_range.2 hi), fun hk2 => ?_⟩
  have h3 := h2.2.resolve_left (by omega)
  simpa using h3
theorem wpAny_tail2 (hb : backOk ops = true) {n : Nat} (ht : tailOk2 ops n = true) : ∀ (fuel m : Nat) (listed : Array Bool) (a : Act) (w : World), n ≤ m → m ≤ ops.size → ops.size - m ≤ fuel → listed.size = ops.size →
    (∀ j : Nat, j < m → listed[j]? = some true) → (∀ j : Nat, m ≤ j → j < ops.size → listed[j]? = some false) → wpList P ops Q (ops.toList.drop m) a w → wpAny P .any ops Q fuel listed a w := by
  intro fuel
  induction fuel with
  | zero =>
    intro m listed a w hn hm hf hl h1 h2 h
    have : m = ops.size := by omega
    subst this
    rw [List.drop_of_length_le (by simp)] at h
    refine ⟨?_, h⟩
    cases hr : Region.ready .any ops listed with
    | nil => rfl
    | cons x r =>
      have hx : x ∈ Region.ready .any ops listed := by rw [hr]; exact List.mem_cons_self
      obtain ⟨hu, o, ho, _⟩ := mem_ready.1 hx
      have := h1 x (Array.getElem?_eq_some_iff.1 ho).1
      rw [unlisted_of_getD hu] at this
      cases this
  | succ fuel ih =>
    intro m listed a w hn hm hf hl h1 h2 h
    by_cases hms : m = ops.size
    · subst hms
      rw [List.drop_of_length_le (by simp)] at h
      refine ⟨fun _ => h, fun x hx => ?_⟩
      obtain ⟨hu, o, ho, _⟩ := mem_ready.1 hx
      have := h1 x (Array.getElem?_eq_some_iff.1 ho).1
      rw [unlisted_of_getD hu] at this
      cases this
    · have hlt : m < ops.size := by omega
      have hom : ops[m]? = some ops[m] := Array.getElem?_eq_getElem hlt
      refine ⟨fun hr => ?_, fun k hk => ?_⟩
      · have := ready_least rfl hb hl hr m hlt
        rw [h2 m (Nat.le_refl _) hlt] at this
        cases this
      · obtain ⟨hu, o, ho, hedge⟩ := mem_ready.1 hk
        have hku := unlisted_of_getD hu
        have hklt : k < ops.size := (Array.getElem?_eq_some_iff.1 ho).1
        have hkm : m ≤ k := by
          rcases Nat.lt_or_ge k m with hx | hx
          · rw [h1 k hx] at hku; cases hku
          · exact hx
        have hk : k = m := by
          rcases Nat.lt_or_ge m k with hx | hx
          · obtain ⟨e, he, hbd, hon⟩ := ahead_of_edge ((tail_ahead2 ht ho (by omega)).2 (by omega))
            have := listed_of_getD (hedge e he hbd)
            rw [hon, h2 (k - 1) (by omega) (by omega)] at this
            cases this
          · omega
        subst hk
        rw [List.drop_eq_getElem_cons (by simpa using hlt)] at h
        unfold wpList at h
        unfold wpOp
        simp only [hom]
        simp only [Array.getElem_toList] at h
        have next : ∀ a' w', wpList P ops Q (ops.toList.drop (k + 1)) a' w' → wpAny P .any ops Q fuel (listed.setIfInBounds k true) a' w' := by
          intro a' w' h'
          refine ih (k + 1) _ a' w' (by omega) hlt (by omega) (by rw [Array.size_setIfInBounds]; exact hl) ?_ ?_ h'
          · intro j hj
            rw [set_get hku]
            split
            · rfl
            · exact h1 j (by omega)
          · intro j hj hjs
            rw [set_get hku, if_neg (by omega)]
            exact h2 j (by omega) hjs
        split
        · rename_i hw
          rw [if_pos hw] at h
          exact h.imp (Oper.wp_mono next) id
        · rename_i hw
          rw [if_neg hw] at h
          exact next _ _ h
theorem wpAny_heldv (hb : backOk ops = true) (hap : apartB ops = true) {L : List (List Nat)} (hlo : looksOk ops L = true) {n : Nat} (hnle : n ≤ ops.size) (htl : tailOk2 ops n = true) {I0 : World → Prop} {I1 : Value → World → Prop} {J : World → Prop} {k0 : Nat} {PL : List Bool} {S : World → World → Prop} {R : Nat → (Nat → Value) → World → Prop} {a0 : Act}
    (hsz : ∀ j t, slot ops j = some t → t < a0.tmps.size)
    (hS : ∀ j v w w', S w w' → R j v w → R j v w') (hC : ∀ j v v' w, (∀ i, i = j ∨ i ∈ L.getD j [] → v i = v' i) → R j v w → R j v' w) (hk0 : k0 < n) (hPL : ∀ (o : Oper) (k : Nat), ops[k0]? = some o → k < n → k ≠ k0 → PL.getD k false = true ∨ aheadB ops 12 k0 k = true) (hJ0 : ∀ w, I0 w → J w) (hJ1 : ∀ u w, I1 u w → J w) (hS0 : ∀ w, S w w)
    (hop : ∀ (k : Nat) (o : Oper), k < n → ops[k]? = some o → Doesw P ops L I0 I1 J k0 PL S R a0 k o)
    (hend : ∀ (vals : Nat → Value) (w : World), I1 (vals k0) w → (∀ j : Nat, j < n → R j vals w) → wpList P ops Q (ops.toList.drop n) (putOf ops vals (List.range n) a0) w) :
    ∀ (fuel : Nat) (listed : Array Bool) (vals : Nat → Value) (a : Act) (w : World), listed.toList.count false ≤ fuel → (∀ j : Nat, n ≤ j → j < ops.size → listed[j]? = some false) → Heldw ops I0 I1 k0 R a0 vals listed a w → wpAny P .any ops Q fuel listed a w := by
  have slot_lt : ∀ {j t : Nat}, slot ops j = some t → j < ops.size := by
    intro j t hj
    unfold slot at hj
    cases hk : ops[j]? with
    | none => rw [hk] at hj; cases hj
    | some o => exact (Array.getElem?_eq_some_iff.1 hk).1
  have fin : ∀ (fuel : Nat) (listed : Array Bool) (vals : Nat → Value) (a : Act) (w : World), listed.toList.count false ≤ fuel → (∀ j : Nat, n ≤ j → j < ops.size → listed[j]? = some false) → Heldw ops I0 I1 k0 R a0 vals listed a w → (∀ j : Nat, j < n → listed[j]? = some true) → wpAny P .any ops Q fuel listed a w := by
    intro fuel listed vals a w hc hun h hall
    have e : a = putOf ops vals (List.range n) a0 := by
      have et : a.tmps = (putOf ops vals (List.range n) a0).tmps := by
        refine Array.ext_getElem? fun t => ?_
        by_cases hx : ∃ j : Nat, j < n ∧ slot ops j = some t
        · obtain ⟨j, hjn, hj⟩ := hx
          rw [h.new j t (hall j hjn) hj, putOf_mem hap vals _ _ j t (List.mem_range.2 hjn) hj (hsz j t hj)]
        · rw [h.old t (fun j hj e => ?_), putOf_other ops vals _ _ t (fun j hj e => hx ⟨j, List.mem_range.1 hj, e⟩)]
          rcases Nat.lt_or_ge j n with hjn | hjn
          · exact hx ⟨j, hjn, e⟩
          · rw [hun j hjn (slot_lt e)] at hj; cases hj
      have ed : a.defers = (putOf ops vals (List.range n) a0).defers := by rw [putOf_defers]; exact h.defers
      cases a
      generalize putOf ops vals (List.range n) a0 = b at *
      cases b
      simp_all
    have hcnt : ops.size - n ≤ fuel := by
      refine Nat.le_trans ?_ hc
      have h1 : (listed.toList.drop n).count false = ops.size - n := by
        rw [List.count_eq_length.2]
        · simp [h.len]
        · intro b hb'
          obtain ⟨i, hi, rfl⟩ := List.mem_iff_getElem.1 hb'
          simp only [List.length_drop, Array.length_toList] at hi
          have := hun (n + i) (by omega) (by rw [← h.len]; omega)
          rw [Array.getElem?_eq_getElem (by omega)] at this
          simpa using (Option.some.inj this).symm
      rw [← h1]
      exact (List.drop_sublist n _).count_le false
    exact wpAny_tail2 hb htl fuel n listed a w (Nat.le_refl _) hnle hcnt h.len hall hun (e ▸ hend vals w (h.inv.1 (hall k0 hk0)) (fun j hj => h.got j (hall j hj)))
  intro fuel
  induction fuel with
  | zero =>
    intro listed vals a w hc hun h
    refine fin 0 listed vals a w hc hun h fun j hj => ?_
    have hjl : j < listed.size := by rw [h.len]; omega
    rw [Array.getElem?_eq_getElem hjl]
    have h0 : listed.toList.count false = 0 := by omega
    have := List.count_eq_zero.1 h0
    cases hv : listed[j] with
    | true => rfl
    | false => exact (this (hv ▸ (by simp))).elim
  | succ fuel ih =>
    intro listed vals a w hc hun h
    by_cases hall : ∀ j : Nat, j < n → listed[j]? = some true
    · exact fin _ listed vals a w hc hun h hall
    refine ⟨fun hr => (hall fun j hj => ready_least rfl hb h.len hr j (by omega)).elim, fun k hk => ?_⟩
    obtain ⟨hu, o, ho, hedge⟩ := mem_ready.1 hk
    have hku := unlisted_of_getD hu
    have hklt : k < ops.size := (Array.getElem?_eq_some_iff.1 ho).1
    have hkn : k < n := by
      rcases Nat.lt_or_ge k n with hx | hx
      · exact hx
      · exact (hall fun j hj => by
          obtain ⟨e, he, hbd, hon⟩ := ahead_of_edge ((tail_ahead2 htl ho hx).1 j hj)
          exact hon ▸ listed_of_getD (hedge e he hbd)).elim
    have hah : ∀ i ∈ ahead o, listed[i]? = some true := by
      intro i hi
      obtain ⟨e, he, rfl⟩ := List.mem_map.1 hi
      obtain ⟨h1, h2⟩ := List.mem_filter.1 he
      exact listed_of_getD (hedge e (by simpa using h1) h2)
    have hlk := List.all_eq_true.1 hlo k (List.mem_range.2 hklt)
    simp only [ho, Bool.and_eq_true] at hlk
    obtain ⟨⟨hsel, hpre⟩, hlk⟩ := hlk
    have hpre' : ∀ i ∈ L.getD k [], i ∈ ahead o := fun i hi => by simpa using List.all_eq_true.1 hpre i hi
    have hsame : ∀ t ∈ o.looksAt ops, a.tmps[t]? = (putOf ops vals (L.getD k []) a0).tmps[t]? := by
      intro t ht
      have h1 := List.all_eq_true.1 hlk t ht
      by_cases hx : ∃ j : Nat, listed[j]? = some true ∧ slot ops j = some t
      · obtain ⟨j, hj, hjt⟩ := hx
        have hjlt : j < ops.size := by rw [← h.len]; exact (Array.getElem?_eq_some_iff.1 hj).1
        have h2 := List.all_eq_true.1 h1 j (List.mem_range.2 hjlt)
        have hoj : ops[j]? = some ops[j] := Array.getElem?_eq_getElem hjlt
        simp only [hoj, Bool.or_eq_true, bne_iff_ne, ne_eq, List.contains_eq_mem, decide_eq_true_eq] at h2
        have hjin : j ∈ L.getD k [] := by
          rcases h2 with (h2 | h2) | h2
          · exact (h2 hjt).elim
          · exact h2
          · have := h.closed j _ hoj hj k h2
            rw [hku] at this; cases this
        rw [h.new j t hj hjt, putOf_mem hap vals _ _ j t hjin hjt (hsz j t hjt)]
      · rw [h.old t (fun j hj e => hx ⟨j, hj, e⟩), putOf_other ops vals _ _ t (fun j hj e => hx ⟨j, hah j (hpre' j hj), e⟩)]
    have hk0l : k0 < listed.size := by rw [h.len]; omega
    have hsd := Array.getElem?_eq_getElem hk0l
    have hJ : J w := by
      cases hv : listed[k0] with
      | true => rw [hv] at hsd; exact hJ1 _ _ (h.inv.1 hsd)
      | false => rw [hv] at hsd; exact hJ0 _ (h.inv.2 hsd)
    have hph : k = k0 ∨ PL.getD k false = true ∨ listed[k0]? = some false := by
      by_cases e : k = k0
      · exact .inl e
      · have hok0 : ops[k0]? = some ops[k0] := Array.getElem?_eq_getElem (by omega)
        rcases hPL _ k hok0 hkn e with hp | hp
        · exact .inr (.inl hp)
        · refine .inr (.inr ?_)
          cases hv : listed[k0] with
          | false => rw [hsd, hv]
          | true =>
            rw [hv] at hsd
            have := closedB h.closed 12 k0 k hp hsd
            rw [hku] at this; cases this
    have hd := hop k o hkn ho vals w (by
      unfold Inw
      by_cases e : k = k0
      · rw [if_pos e]; subst e; exact h.inv.2 hku
      · rw [if_neg e]
        split
        · exact hJ
        · rename_i hnp
          rcases hph with hp | hp | hp
          · exact (e hp).elim
          · exact (hnp hp).elim
          · exact h.inv.2 hp) (fun j hj => h.got j (hah j (hpre' j hj)))
    have hdst : slot ops k = o.dst := by unfold slot; rw [ho]; rfl
    refine wpOp_mono ?_ (wpOp_of_list (Q := Q) (a := a) ho ?_ ?_ (exec_congr (fun cs c e => ?_) hsame) (wanted_congr hsame) hd)
    · rintro a' w' ⟨v, rfl, hO, hR⟩
      have hSw : S w w' := by
        unfold Outw at hO
        split at hO
        · exact hO.2
        · split at hO
          · rw [hO]; exact hS0 w
          · exact hO.2
      refine ih (listed.setIfInBounds k true) (upd vals k (if o.dst.isSome then v else undef)) _ w' (by have := count_set hku; omega) (fun j hj hjs => by rw [set_get hku, if_neg (by omega)]; exact hun j hj hjs) ?_
      refine ⟨?_, ?_, ?_, ?_, ?_, ?_, ?_, ?_⟩
      · by_cases e : k = k0
        · subst e
          unfold Outw at hO
          rw [if_pos rfl] at hO
          refine ⟨fun _ => ?_, fun hf => ?_⟩
          · rw [upd_same]; exact hO.1
          · rw [set_get hku, if_pos rfl] at hf; cases hf
        · unfold Outw at hO
          rw [if_neg e] at hO
          have e2 : k0 ≠ k := fun h => e h.symm
          refine ⟨fun ht => ?_, fun hf => ?_⟩
          · rw [set_get hku, if_neg e2] at ht
            rw [upd_other e2]
            split at hO
            · rw [hO]; exact h.inv.1 ht
            · rename_i hnp
              rcases hph with hp | hp | hp
              · exact (e hp).elim
              · exact (hnp hp).elim
              · rw [ht] at hp; cases hp
          · rw [set_get hku, if_neg e2] at hf
            split at hO
            · rw [hO]; exact h.inv.2 hf
            · exact hO.1
      · rw [Array.size_setIfInBounds]; exact h.len
      · rw [← h.defers]; cases o.dst <;> rfl
      · rw [← h.size]; cases o.dst <;> simp [Act.put]
      · intro j oj hoj hj i hi
        rw [set_get hku] at hj ⊢
        by_cases ei : i = k
        · rw [if_pos ei]
        · rw [if_neg ei]
          by_cases ej : j = k
          · subst ej
            rw [ho] at hoj; cases hoj
            exact hah i hi
          · rw [if_neg ej] at hj
            exact h.closed j oj hoj hj i hi
      · intro t ht
        have hne : o.dst ≠ some t := by rw [← hdst]; exact ht k (by rw [set_get hku, if_pos rfl])
        rw [put_get_ne hne]
        refine h.old t fun j hj => ht j ?_
        rw [set_get hku]; split <;> first | rfl | exact hj
      · intro j t hj hjt
        rw [set_get hku] at hj
        by_cases ej : j = k
        · subst ej
          rw [hdst] at hjt
          rw [hjt, put_get_eq (by rw [h.size]; exact hsz j t (by rw [hdst]; exact hjt)), upd_same]
          simp
        · rw [if_neg ej] at hj
          rw [upd_other ej]
          have hne : o.dst ≠ some t := by
            intro e
            exact ej (apart_inj hap hjt (by rw [hdst]; exact e))
          rw [put_get_ne hne]
          exact h.new j t hj hjt
      · intro j hj
        rw [set_get hku] at hj
        by_cases ej : j = k
        · subst ej
          exact hR
        · rw [if_neg ej] at hj
          have hjlt : j < ops.size := by rw [← h.len]; exact (Array.getElem?_eq_some_iff.1 hj).1
          have hoj : ops[j]? = some ops[j] := Array.getElem?_eq_getElem hjlt
          have hlj := List.all_eq_true.1 hlo j (List.mem_range.2 hjlt)
          simp only [hoj, Bool.and_eq_true] at hlj
          refine hC j vals _ w' (fun i hi => ?_) (hS j _ w w' hSw (h.got j hj))
          have hik : i ≠ k := by
            rcases hi with rfl | hi
            · exact ej
            · intro e
              have h1 : i ∈ ahead ops[j] := by simpa using List.all_eq_true.1 hlj.1.2 i hi
              have h2 := h.closed j _ hoj hj i h1
              rw [e, hku] at h2; cases h2
          rw [upd_other hik]
    · intro hnone v u w'
      unfold resg
      rw [hnone]
      exact id
    · intro t ht
      rw [putOf_size]
      exact hsz k t (by rw [hdst]; exact ht)
    · rw [e] at hsel; cases hsel
/-- the checks -/
def regOk2 (ops : Array Oper) (D : List (Option Tmp)) (L : List (List Nat)) (n N : Nat) : Bool := decide (n ≤ ops.size) && tailOk2 ops n && backOk ops && apartB ops && looksOk ops L &&
  ((List.range ops.size).all fun j => match slot ops j with | some t => decide (t < N) | none => true) && ((List.range ops.size).all fun j => slot ops j == D.getD j none) &&
  (List.range ops.size).all fun k => match (ops[k]?).bind (·.guard) with | none => true | some (g, _) => (L.getD k []).contains g && (D.getD g none).isSome
theorem region_anyv {id : Nat} {l : List Oper} {a0 : Act} {w0 : World} (n : Nat) (D : List (Option Tmp)) (L : List (List Nat)) (I0 : World → Prop) (I1 : Value → World → Prop) (J : World → Prop) (k0 : Nat) (PL : List Bool) (S : World → World → Prop) (R : Nat → (Nat → Value) → World → Prop) (hm : P.follows .mixedOrders = true)
    (hok : regOk2 l.toArray D L n a0.tmps.size = true) (h0 : I0 w0.drew) (hk0 : k0 < n) (hPL : (List.range n).all (fun k => k == k0 || PL.getD k false || aheadB l.toArray 12 k0 k) = true) (hJ0 : ∀ w, I0 w → J w) (hJ1 : ∀ u w, I1 u w → J w) (hS0 : ∀ w, S w w)
    (hS : ∀ j v w w', S w w' → R j v w → R j v w') (hC : ∀ j v v' w, (∀ i, i = j ∨ i ∈ L.getD j [] → v i = v' i) → R j v w → R j v' w)
    (hop : OwesAllw P D L I0 I1 J k0 PL S R a0 0 n l)
    (hend : ∀ (vals : Nat → Value) (w : World), I1 (vals k0) w → (∀ j : Nat, j < n → R j vals w) → wpList P l.toArray Q (l.drop n) (putD D vals (List.range n) a0) w) :
    (Code.region id l.toArray true).wp P Q a0 w0 := by
  simp only [regOk2, Bool.and_eq_true] at hok
  obtain ⟨⟨⟨⟨⟨⟨⟨hnle, htl⟩, hb⟩, hap⟩, hlo⟩, hsz⟩, hD⟩, hgd⟩ := hok
  have hnle' := of_decide_eq_true hnle
  have slot_lt : ∀ {j t : Nat}, slot l.toArray j = some t → j < l.toArray.size := by
    intro j t hj
    unfold slot at hj
    cases hk : l.toArray[j]? with
    | none => rw [hk] at hj; cases hj
    | some o => exact (Array.getElem?_eq_some_iff.1 hk).1
  have hsz' : ∀ j t, slot l.toArray j = some t → t < a0.tmps.size := by
    intro j t hj
    have h1 := List.all_eq_true.1 hsz j (List.mem_range.2 (slot_lt hj))
    simp only [hj] at h1
    exact of_decide_eq_true h1
  have hD' : ∀ j, j < l.toArray.size → slot l.toArray j = D.getD j none := fun j hj => by simpa using List.all_eq_true.1 hD j (List.mem_range.2 hj)
  refine wp_region_any hm ?_
  refine wpAny_heldv hb hap hlo hnle' htl (I0 := I0) (I1 := I1) (J := J) (k0 := k0) (PL := PL) (S := S) (R := R) (a0 := a0) hsz' hS hC hk0 (fun o k ho hk hne => ?_) hJ0 hJ1 hS0 (fun k o hk ho => ?_) (fun vals w hI hR => ?_) _ _ (fun _ => undef) a0 _ ?_ ?_ ?_
  · have h1 := List.all_eq_true.1 hPL k (List.mem_range.2 hk)
    simp only [Bool.or_eq_true, beq_iff_eq] at h1
    rcases h1 with (h1 | h1) | h1
    · exact (hne h1).elim
    · exact .inl h1
    · exact .inr h1
  · have hklt : k < l.toArray.size := (Array.getElem?_eq_some_iff.1 ho).1
    have h1 := owes_of_allw l 0 n hop k o hk (by simpa using ho)
    rw [Nat.zero_add] at h1
    have hlk := List.all_eq_true.1 hlo k (List.mem_range.2 hklt)
    simp only [ho, Bool.and_eq_true] at hlk
    refine does_of_owesw hD' (fun j hj => ?_) hap hsz' (fun g want hg => ?_) h1
    · have h2 : j ∈ ahead o := by simpa using List.all_eq_true.1 hlk.1.2 j hj
      have h3 := List.all_eq_true.1 hb k (List.mem_range.2 hklt)
      simp only [ho] at h3
      have := of_decide_eq_true (List.all_eq_true.1 h3 j h2)
      omega
    · have h2 := List.all_eq_true.1 hgd k (List.mem_range.2 hklt)
      simp only [ho, Option.bind_some, hg, Bool.and_eq_true] at h2
      have hgl : g ∈ L.getD k [] := by simpa using h2.1
      refine ⟨hgl, ?_⟩
      have h4 : g ∈ ahead o := by simpa using List.all_eq_true.1 hlk.1.2 g hgl
      have h3 := List.all_eq_true.1 hb k (List.mem_range.2 hklt)
      simp only [ho] at h3
      have := of_decide_eq_true (List.all_eq_true.1 h3 g h4)
      rw [hD' g (by omega)]; exact h2.2
  · rw [putD_eq hD' vals _ _ (fun j hj => by have := List.mem_range.1 hj; omega)]
    exact hend vals w hI hR
  · simp
  · intro j _ hj
    rw [Array.getElem?_replicate, if_pos hj]
  · refine ⟨⟨fun hf => ?_, fun _ => h0⟩, by simp, rfl, rfl, ?_, fun _ _ => rfl, ?_, ?_⟩
    · rw [Array.getElem?_replicate] at hf
      split at hf <;> simp at hf
    · intro j o _ hj
      rw [Array.getElem?_replicate] at hj
      split at hj <;> simp at hj
    · intro j t hj
      rw [Array.getElem?_replicate] at hj
      split at hj <;> simp at hj
    · intro j hj
      rw [Array.getElem?_replicate] at hj
      split at hj <;> simp at hj
/-- A REGION THAT DRAWS ITS ORDER, in which operation k0 alone writes what others may see. I0: what holds ahead of it; I1: behind it, of its result; J: throughout. -/
theorem region_v {id : Nat} {l : List Oper} {a0 : Act} {w0 : World} (n N : Nat) (D : List (Option Tmp)) (L : List (List Nat)) (LV : List (Nat × Value)) (k0 : Nat) (PL : List Bool) (I0 : World → Prop) (I1 : Value → World → Prop) (J : World → Prop) (S : World → World → Prop) (RL : List ((Nat → Value) → World → Prop)) (hm : P.follows .mixedOrders = true)
    (hok : regOk2 l.toArray D L n N = true) (hN : a0.tmps.size = N) (hLV : Lives a0 LV) (h0 : I0 w0.drew) (hk0 : k0 < n)
    (hPL : (List.range n).all (fun k => k == k0 || PL.getD k false || aheadB l.toArray 12 k0 k) = true) (hJ0 : ∀ w, I0 w → J w) (hJ1 : ∀ u w, I1 u w → J w) (hS0 : ∀ w, S w w) (hS : Stabg S RL)
    (hop : ∀ b0 : Act, b0.tmps.size = N → Lives b0 LV → OwesAllw P D L I0 I1 J k0 PL S (atg L RL) b0 0 n l)
    (hend : ∀ (vals : Nat → Value) (w : World), I1 (vals k0) w → (∀ j : Nat, j < n → atg L RL j vals w) → wpList P l.toArray Q (l.drop n) (putD D vals (List.range n) a0) w) :
    (Code.region id l.toArray true).wp P Q a0 w0 := by
  refine region_anyv n D L I0 I1 J k0 PL S (atg L RL) hm (hN ▸ hok) h0 hk0 hPL hJ0 hJ1 hS0 (fun j v w w' hs h => hS.get j _ w w' hs h) (fun j v v' w hv h => ?_) (hop a0 hN hLV) hend
  unfold atg at *
  have e : rs L j v = rs L j v' := by
    funext i
    unfold rs
    split
    · rename_i hi
      exact hv i (by simpa using hi)
    · rfl
  rw [← e]; exact h
end Go.Proofs.Ythffegfcgmhppaa.Roll
namespace Go.Proofs.Ythffegfcgmhppaa
open Go.RowKit
set_option linter.unusedSimpArgs false
set_option linter.unusedVariables false
def Dap7 : List (Option Tmp) := [some 19, some 20, some 21, some 22, some 23, some 24, some 25, some 26, some 27, some 28, some 29, none]
def Lap7 : List (List Nat) := [[], [], [1], [2], [3], [], [5], [6], [4, 7], [0], [9], [10, 8]]
/-- Append: error, log -/
def appE (m : LM) (on : Bool) (n : Nat) : Int := if 4000 < n then 2 else if roomZ m.n m.tak < n then 9 else if on then 0 else 10
def appM (m : LM) (on : Bool) (r : List UInt8) : LM := if appE m on r.length = 0 then { m with recs := m.recs ++ [r], tak := m.tak + (r.length + 12) } else m
section
variable {w0 w : World} {L : List Obj} {gl g i j : Nat} {m : LM} {d : DM}
set_option maxRecDepth 100000 in
set_option maxHeartbeats 4000000 in
theorem append_lv (h : Lv w0 w L) (hi : L[i]? = some (logO gl g m)) (hj : L[j]? = some (diskO g d)) {Z : Nat → Prop} {a : Option Addr} {n c : Nat} {r : List UInt8} (hB : Bs Z w a n c r) (hn : m.n ≤ 4096) (ht : m.tak ≤ 1000000) (hn2 : n ≤ 1000000) (hrl : m.recs.length ≤ 100000) :
    Calls Try.prog 15 #[.pointer (some ⟨gl, 0, none⟩), .slice a n c] w fun x w' => x = .returned (.int .i64 (appE m d.on n)) ∧ Lv w0 w' (L.set i (logO gl g (appM m d.on r))) := by
  have hrn := hB.1
  have hc1 := hB.2.2.1
  have hc2 : c ≤ 9223372036854775807 := hB.2.2.2.1
  obtain ⟨_, _, -, -, hg, c0, -, -, -, -, -, -, -, -⟩ := h.logFacts hi
  have HSI := Lib.hid (set_self_of hi)
  have HI := Lib.hid hi
  have HJ := Lib.hid hj
  have HMN := Lib.hid hn
  have HMT := Lib.hid ht
  have HN6 := Lib.hid hn2
  have HRL := Lib.hid hrn
  have HRLB := Lib.hid hrl
  have HIL := Lib.hid (List.getElem?_eq_some_iff.1 hi).1
  obtain ⟨E, hE⟩ : ∃ E, E = appE m d.on n := ⟨_, rfl⟩
  obtain ⟨M, hM⟩ : ∃ M, M = appM m d.on r := ⟨_, rfl⟩
  rw [← hE, ← hM]
  have hME : M = if E = 0 then { m with recs := m.recs ++ [r], tak := m.tak + (n + 12) } else m := by rw [hM, hE]; unfold appM; rw [hrn]
  have HL := Lib.hid h
  by_cases a1 : 4000 < n
  · have a1' : (4000 : Int) < (n : Int) := by omega
    have HE0 : Hid (E = 2) := Lib.hid (by rw [hE]; unfold appE; rw [if_pos a1])
    have HM0 : Hid (M = m) := Lib.hid (by rw [hME, HE0.out]; rfl)
    clear h hi hj hB hE hM hME a1
    go_enter Try.func15, Try.ntmps15
    go_wp2_with fail
    go_ret
    exact ⟨by rw [HE0.out]; rfl, by rw [HM0.out, HSI.out]; exact HL.out⟩
  · have a1' : (n : Int) ≤ 4000 := by omega
    obtain ⟨RM, hRM⟩ : ∃ RM, RM = roomZ m.n m.tak := ⟨_, rfl⟩
    by_cases a2 : RM < (n : Int)
    · have HE0 : Hid (E = 9) := Lib.hid (by rw [hE]; unfold appE; rw [if_neg a1, ← hRM, if_pos a2])
      have HM0 : Hid (M = m) := Lib.hid (by rw [hME, HE0.out]; rfl)
      have HRM := Lib.hid hRM
      clear h hi hj hB hE hM hME a1 hRM
      go_enter Try.func15, Try.ntmps15
      go_wp2_with (first
        | (have x1 := HL.out; go_at_call 29; refine (room_lv x1 HI.out HMN.out HMT.out).mono ?_; rintro e q ⟨rfl, hbq⟩; rw [← HRM.out]; have HLq := Lib.hid (HL.out.below hbq); clear x1 hbq HL))
      go_ret
      exact ⟨by rw [HE0.out]; rfl, by rw [HM0.out, HSI.out]; exact HLq.out⟩
    · have a2' : (n : Int) ≤ RM := by omega
      have HRM := Lib.hid hRM
      have HB0 := Lib.hid hB
      cases hon : d.on with
      | false =>
        have HE0 : Hid (E = 10) := Lib.hid (by rw [hE]; unfold appE; rw [if_neg a1, ← hRM, if_neg a2, hon]; rfl)
        have HM0 : Hid (M = m) := Lib.hid (by rw [hME, HE0.out]; rfl)
        have HON := Lib.hid hon
        clear h hi hj hB hE hM hME a1 hRM hon a2 c0
        go_enter Try.func15, Try.ntmps15
        go_upto_region 5 with (first
          | (have x1 := HL.out; go_at_call 29; refine (room_lv x1 HI.out HMN.out HMT.out).mono ?_; rintro e q ⟨rfl, hbq⟩; rw [← HRM.out]; have HLq := Lib.hid (HL.out.below hbq); clear x1 hbq HL))
        obtain ⟨_, _, -, -, hgq, c0, -, -, -, -, -, -, -, -⟩ := HLq.out.logFacts HI.out
        go_wp2_with (first
          | (have x1 := HLq.out; go_at_call 35; refine (on_lv x1 HJ.out).mono ?_; rintro e q2 ⟨rfl, rfl⟩; rw [HON.out]; clear x1))
        go_ret
        exact ⟨by rw [HE0.out]; rfl, by rw [HM0.out, HSI.out]; exact HLq.out⟩
      | true =>
        have HE0 : Hid (E = 0) := Lib.hid (by rw [hE]; unfold appE; rw [if_neg a1, ← hRM, if_neg a2, hon]; rfl)
        have HM0 : Hid (M = { m with recs := m.recs ++ [r], tak := m.tak + (n + 12) }) := Lib.hid (by rw [hME, HE0.out]; rfl)
        have HON := Lib.hid hon
        have HTK : Hid (m.tak + (n + 12) = m.tak + (n + 12)) := Lib.hid rfl
        have hw1 : IntKind.i64.wrap ((n : Int) + 12) = (n : Int) + 12 := i64_id _ (by omega) (by omega)
        have hw2 : IntKind.i64.wrap ((m.tak : Int) + ((n : Int) + 12)) = ((m.tak + (n + 12) : Nat) : Int) := by rw [i64_id _ (by omega) (by omega)]; omega
        clear h hi hj hB hE hM hME a1 hRM hon a2 c0
        go_enter Try.func15, Try.ntmps15
        go_upto_region 5 with (first
          | (have x1 := HL.out; go_at_call 29; refine (room_lv x1 HI.out HMN.out HMT.out).mono ?_; rintro e q ⟨rfl, hbq⟩; rw [← HRM.out]; have HLq := Lib.hid (HL.out.below hbq); have HB := Lib.hid (HB0.out.kept (Kept.of_below (fun _ => False) hbq) (fun _ _ _ h => h)); clear x1 hbq HL))
        obtain ⟨kl, Bl, vl, BL, hlg, hlB, hBlt, hset⟩ := HLq.out.log HI.out
        obtain ⟨al, cl, rfl, h1, h2, hgq, c0, -, -, -, -, c5, -, -, -⟩ := hlg.facts
        go_upto_region 7 with (first
          | (have x1 := HLq.out; go_at_call 35; refine (on_lv x1 HJ.out).mono ?_; rintro e q2 ⟨rfl, rfl⟩; rw [HON.out]; clear x1))
        obtain ⟨ys, hys, hyj⟩ := hlg.recs
        obtain ⟨rl, hrle⟩ : ∃ rl, rl = m.recs.length := ⟨_, rfl⟩
        rw [← hrle] at c5 hys HRLB hlg
        have HYS := Lib.hid hys
        have HYJ : Hid (∀ j (hj : j < m.recs.length), ∃ a c, ys[j]? = some (.slice a m.recs[j].length c) ∧ Bs Bl q a m.recs[j].length c m.recs[j]) := Lib.hid hyj
        have HLG := Lib.hid hlg
        have HRLE := Lib.hid hrle.symm
        have HBB := Lib.hid hlB
        have HSET := Lib.hid hset
        have HSELF := Lib.hid hlg.self
        have HKG := Lib.hid hlg.ap.1
        have HKL : Hid (∀ x, kl = some x → x < q.heap.size) := Lib.hid hlg.recs.lt
        have HGL : Hid (gl < q.heap.size ∧ ¬ kl = some gl) := Lib.hid ⟨hgq, hlg.ap.1⟩
        have C5 := Lib.hid c5
        clear hlg hlB hBlt hset hys hyj hrle c5 c0 h1 h2
        refine Roll.region_v 9 40 Dap7 Lap7 [(0, .pointer (some ⟨gl, 0, none⟩)), (1, .slice a n c)] 8 [true, true, true, true, true, true, false, false, false] (fun p => Below q.heap.size q p) (fun vv p => ∃ k' a3 c3, Rw p 32 k' vv (rl + 1) (ys ++ [.slice a3 n c3]) ∧ (∀ j, k' = some j → kl = some j ∨ q.heap.size ≤ j) ∧ Bs (fun y => q.heap.size ≤ y ∧ k' ≠ some y) p a3 n c3 r ∧ Kept (fun j => kl = some j) q p) (fun p => Kept (fun j => kl = some j) q p) (fun p p2 => Kept (fun j => kl = some j) p p2) [fun vv p => (vv 0) = .pointer (some ⟨gl, 0, none⟩), fun vv p => (vv 1) = .pointer (some ⟨gl, 0, none⟩), fun vv p => (vv 2) = .pointer (some ⟨gl, 0, none⟩), fun vv p => (vv 3) = .pointer (some ⟨gl, 5, none⟩), fun vv p => (vv 4) = .slice al rl cl, fun vv p => (vv 5) = .slice a n c, fun vv p => ∃ a3 c3, (vv 6) = .slice a3 n c3 ∧ Bs (fun x => q.heap.size ≤ x) p a3 n c3 r, fun vv p => ∃ x a3 c3, (vv 7) = .slice (some ⟨x, 0, none⟩) 1 1 ∧ q.heap.size ≤ x ∧ p.heap[x]? = some (.cells #[.slice a3 n c3] 32 (0, 0)) ∧ Bs (fun y => q.heap.size ≤ y ∧ y < x) p a3 n c3 r, fun vv p => True] (by kernel_rfl) (by kernel_rfl) rfl ⟨rfl, rfl, trivial⟩ ((Below.refl _ _).drew) (by decide) (by kernel_rfl) (fun _ h => Kept.of_below _ h) (fun _ _ h => by obtain ⟨_, _, _, _, _, _, h⟩ := h; exact h) (fun _ => Kept.refl _ _) ?_ ?_ ?_
        · exact ⟨fun _ _ _ _ h => h, fun _ _ _ _ h => h, fun _ _ _ _ h => h, fun _ _ _ _ h => h, fun _ _ _ _ h => h, fun _ _ _ _ h => h, fun _ _ _ hs h => by obtain ⟨a3, c3, e1, e2⟩ := h; exact ⟨a3, c3, e1, e2.kept hs (fun x _ hx e => by have := HKL.out _ e; omega)⟩, fun _ _ _ hs h => by obtain ⟨x, a3, c3, e1, e2, e3, e4⟩ := h; exact ⟨x, a3, c3, e1, e2, hs.heap e3 (fun e => by have := HKL.out _ e; omega), e4.kept hs (fun x _ hx e => by have := HKL.out _ e; omega)⟩, fun _ _ _ _ h => h, trivial⟩
        · intro b0 hN hlv
          refine ⟨?_, ?_, ?_, ?_, ?_, ?_, ?_, ?_, ?_, trivial⟩
          · intro vs p hI0 hp
            have hI := Roll.inw_pure (by decide) rfl hI0
            clear hI0
            have e0 : (Roll.putD Dap7 vs [] b0).eval (.tmp 0) = .pointer (some ⟨gl, 0, none⟩) := (Roll.eval_old rfl).trans (hlv.at 0 (0, .pointer (some ⟨gl, 0, none⟩)) rfl)
            clear hp hlv hN
            unfold Roll.Goes
            simp only [Lap7, List.getD_cons_zero, List.getD_cons_succ]
            generalize Roll.putD Dap7 vs [] b0 = a1 at *
            refine Roll.goes_val (w' := p) (.pointer (some ⟨gl, 0, none⟩)) rfl ?_ ⟨(Roll.outw_pure (by decide) rfl), rfl⟩
            (have ec : ∀ x, a1.eval (.const x) = x := fun _ => rfl); (have ef : ∀ x, a1.eval (.func x) = .func (.func x) #[] #[] := fun _ => rfl); generalize a1.eval = ρ at *
            skip
            go_simp <;> (intros; first | (exfalso; omega) | rfl)
          · intro vs p hI0 hp
            have hI := Roll.inw_pure (by decide) rfl hI0
            clear hI0
            have e0 : (Roll.putD Dap7 vs [] b0).eval (.tmp 0) = .pointer (some ⟨gl, 0, none⟩) := (Roll.eval_old rfl).trans (hlv.at 0 (0, .pointer (some ⟨gl, 0, none⟩)) rfl)
            clear hp hlv hN
            unfold Roll.Goes
            simp only [Lap7, List.getD_cons_zero, List.getD_cons_succ]
            generalize Roll.putD Dap7 vs [] b0 = a1 at *
            refine Roll.goes_val (w' := p) (.pointer (some ⟨gl, 0, none⟩)) rfl ?_ ⟨(Roll.outw_pure (by decide) rfl), rfl⟩
            (have ec : ∀ x, a1.eval (.const x) = x := fun _ => rfl); (have ef : ∀ x, a1.eval (.func x) = .func (.func x) #[] #[] := fun _ => rfl); generalize a1.eval = ρ at *
            skip
            go_simp <;> (intros; first | (exfalso; omega) | rfl)
          · intro vs p hI0 hp
            have hI := Roll.inw_pure (by decide) rfl hI0
            clear hI0
            have h1 : (vs 1) = .pointer (some ⟨gl, 0, none⟩) := hp 1 (by simp [Lap7])
            have e20 : (Roll.putD Dap7 vs [1] b0).eval (.tmp 20) = .pointer (some ⟨gl, 0, none⟩) := (Roll.eval_new 1 rfl (by decide) (by decide) (by omega)).trans h1
            clear hp hlv hN
            unfold Roll.Goes
            simp only [Lap7, List.getD_cons_zero, List.getD_cons_succ]
            generalize Roll.putD Dap7 vs [1] b0 = a1 at *
            refine Roll.goes_val (w' := p) (.pointer (some ⟨gl, 0, none⟩)) rfl ?_ ⟨(Roll.outw_pure (by decide) rfl), rfl⟩
            (have ec : ∀ x, a1.eval (.const x) = x := fun _ => rfl); (have ef : ∀ x, a1.eval (.func x) = .func (.func x) #[] #[] := fun _ => rfl); generalize a1.eval = ρ at *
            clear h1
            go_simp <;> (intros; first | (exfalso; omega) | rfl)
          · intro vs p hI0 hp
            have hI := Roll.inw_pure (by decide) rfl hI0
            clear hI0
            have h2 : (vs 2) = .pointer (some ⟨gl, 0, none⟩) := hp 2 (by simp [Lap7])
            have e21 : (Roll.putD Dap7 vs [2] b0).eval (.tmp 21) = .pointer (some ⟨gl, 0, none⟩) := (Roll.eval_new 2 rfl (by decide) (by decide) (by omega)).trans h2
            clear hp hlv hN
            unfold Roll.Goes
            simp only [Lap7, List.getD_cons_zero, List.getD_cons_succ]
            generalize Roll.putD Dap7 vs [2] b0 = a1 at *
            refine Roll.goes_val (w' := p) (.pointer (some ⟨gl, 5, none⟩)) rfl ?_ ⟨(Roll.outw_pure (by decide) rfl), rfl⟩
            (have ec : ∀ x, a1.eval (.const x) = x := fun _ => rfl); (have ef : ∀ x, a1.eval (.func x) = .func (.func x) #[] #[] := fun _ => rfl); generalize a1.eval = ρ at *
            clear h2
            go_simp <;> (intros; first | (exfalso; omega) | rfl)
          · intro vs p hI0 hp
            have hI := Roll.inw_pure (by decide) rfl hI0
            clear hI0
            have h3 : (vs 3) = .pointer (some ⟨gl, 5, none⟩) := hp 3 (by simp [Lap7])
            have e22 : (Roll.putD Dap7 vs [3] b0).eval (.tmp 22) = .pointer (some ⟨gl, 5, none⟩) := (Roll.eval_new 3 rfl (by decide) (by decide) (by omega)).trans h3
            clear hp hlv hN
            unfold Roll.Goes
            simp only [Lap7, List.getD_cons_zero, List.getD_cons_succ]
            generalize Roll.putD Dap7 vs [3] b0 = a1 at *
            have cf : p.cell? ⟨gl, 5, none⟩ = some (.slice al rl cl) := (hI.cell (p := ⟨gl, 5, none⟩) HGL.out.1 HGL.out.2).trans C5.out
            refine Roll.goes_val (w' := p) (.slice al rl cl) rfl ?_ ⟨(Roll.outw_pure (by decide) rfl), rfl⟩
            (have ec : ∀ x, a1.eval (.const x) = x := fun _ => rfl); (have ef : ∀ x, a1.eval (.func x) = .func (.func x) #[] #[] := fun _ => rfl); generalize a1.eval = ρ at *
            clear h3
            go_simp <;> (intros; first | (exfalso; omega) | rfl)
          · intro vs p hI0 hp
            have hI := Roll.inw_pure (by decide) rfl hI0
            clear hI0
            have e1 : (Roll.putD Dap7 vs [] b0).eval (.tmp 1) = .slice a n c := (Roll.eval_old rfl).trans (hlv.at 1 (1, .slice a n c) rfl)
            clear hp hlv hN
            unfold Roll.Goes
            simp only [Lap7, List.getD_cons_zero, List.getD_cons_succ]
            generalize Roll.putD Dap7 vs [] b0 = a1 at *
            refine Roll.goes_val (w' := p) (.slice a n c) rfl ?_ ⟨(Roll.outw_pure (by decide) rfl), rfl⟩
            (have ec : ∀ x, a1.eval (.const x) = x := fun _ => rfl); (have ef : ∀ x, a1.eval (.func x) = .func (.func x) #[] #[] := fun _ => rfl); generalize a1.eval = ρ at *
            skip
            go_simp <;> (intros; first | (exfalso; omega) | rfl)
          · intro vs p hI0 hp
            have hI := Roll.inw_pre (by decide) rfl hI0
            clear hI0
            have h5 : (vs 5) = .slice a n c := hp 5 (by simp [Lap7])
            have e24 : (Roll.putD Dap7 vs [5] b0).eval (.tmp 24) = .slice a n c := (Roll.eval_new 5 rfl (by decide) (by decide) (by omega)).trans h5
            clear hp hlv hN
            unfold Roll.Goes
            simp only [Lap7, List.getD_cons_zero, List.getD_cons_succ]
            generalize Roll.putD Dap7 vs [5] b0 = a1 at *
            refine Roll.goes_call 43 #[.slice a n c] p rfl (by have ec : ∀ x, a1.eval (.const x) = x := fun _ => rfl; have ef : ∀ x, a1.eval (.func x) = .func (.func x) #[] #[] := fun _ => rfl; generalize a1.eval = ρ at *; go_simp) ?_
            refine (cloneB_any _ a n c r p (HB.out.kept (Kept.of_below (fun _ => False) hI) (fun _ _ _ h => h)) HN6.out).mono ?_
            rintro y p2 ⟨v3, rfl, hm⟩
            obtain ⟨a3, c3, rfl, hb3⟩ := hm.bs
            obtain ⟨_, _, _, hbl⟩ := hm
            rw [HRL.out] at hb3 ⊢
            exact ⟨_, rfl, Roll.outw_pre (by decide) rfl (hI.trans (hbl.mono hI.size)) (Kept.of_below _ hbl), a3, c3, rfl, hb3.dom (fun x hx => Nat.le_trans hI.size hx)⟩
          · intro vs p hI0 hp
            have hI := Roll.inw_pre (by decide) rfl hI0
            clear hI0
            have h6 : ∃ a3 c3, (vs 6) = .slice a3 n c3 ∧ Bs (fun x => q.heap.size ≤ x) p a3 n c3 r := hp 6 (by simp [Lap7])
            have e25 : (Roll.putD Dap7 vs [6] b0).eval (.tmp 25) = vs 6 := (Roll.eval_new 6 rfl (by decide) (by decide) (by omega))
            clear hp hlv hN
            unfold Roll.Goes
            simp only [Lap7, List.getD_cons_zero, List.getD_cons_succ]
            generalize Roll.putD Dap7 vs [6] b0 = a1 at *
            obtain ⟨a3, c3, hv3, hb3⟩ := h6
            rw [hv3] at e25
            have hal : Below p.heap.size p (p.alloc (.cells #[.slice a3 n c3] 32)) := (Below.refl _ _).alloc (Nat.le_refl _) _
            refine Roll.goes_val (w' := p.alloc (.cells #[.slice a3 n c3] 32)) (.slice (some ⟨p.heap.size, 0, none⟩) 1 1) rfl (by have ec : ∀ x, a1.eval (.const x) = x := fun _ => rfl; have ef : ∀ x, a1.eval (.func x) = .func (.func x) #[] #[] := fun _ => rfl; have hbs := run_bs56; generalize a1.eval = ρ at *; go_simp <;> (intros; first | (exfalso; omega) | rfl)) ⟨Roll.outw_pre (by decide) rfl (hI.trans (hal.mono hI.size)) (Kept.of_below _ hal), p.heap.size, a3, c3, rfl, hI.size, heap_new rfl, hb3.small.kept (Kept.of_below (fun _ => False) hal) (fun _ _ _ h => h)⟩
          · intro vs p hI0 hp
            have hI := Roll.inw_k0 rfl hI0
            clear hI0
            have h4 : (vs 4) = .slice al rl cl := hp 4 (by simp [Lap7])
            have h7 : ∃ x a3 c3, (vs 7) = .slice (some ⟨x, 0, none⟩) 1 1 ∧ q.heap.size ≤ x ∧ p.heap[x]? = some (.cells #[.slice a3 n c3] 32 (0, 0)) ∧ Bs (fun y => q.heap.size ≤ y ∧ y < x) p a3 n c3 r := hp 7 (by simp [Lap7])
            have e23 : (Roll.putD Dap7 vs [4, 7] b0).eval (.tmp 23) = .slice al rl cl := (Roll.eval_new 4 rfl (by decide) (by decide) (by omega)).trans h4
            have e26 : (Roll.putD Dap7 vs [4, 7] b0).eval (.tmp 26) = vs 7 := (Roll.eval_new 7 rfl (by decide) (by decide) (by omega))
            clear hp hlv hN
            unfold Roll.Goes
            simp only [Lap7, List.getD_cons_zero, List.getD_cons_succ]
            generalize Roll.putD Dap7 vs [4, 7] b0 = a1 at *
            obtain ⟨x3, a3, c3, hv3, hxq, hhx, hb3⟩ := h7
            rw [hv3] at e26
            obtain ⟨i0, ji, jz0, jz1, jz2⟩ := info_parts info32'
            have hxl := heap_lt hhx
            refine goes_append_rw rfl (.tmp 23) (.tmp 26) 30 30 rfl 32 i0 (.slice none 0 0) 24 Try.underlying30 ji jz0 jz1 jz2 rfl kl (.slice al rl cl) rl ys e23 (HYS.out.kept (Kept.of_below (fun _ => False) hI) (fun _ _ h => h)) _ e26 1 [.slice a3 n c3] (src_one Try.underlying30 hhx) (by have := HRLB.out; unfold maxLen; omega) (by have := HRLB.out; omega) ?_
            intro k' v' w' g1 g2 g3
            have hgr : ∀ x, q.heap.size ≤ x → x < p.heap.size → k' ≠ some x := fun x hx hx2 e => by
              rcases g2 x e with e | e
              · have := HKL.out x e; omega
              · omega
            exact ⟨Roll.outw_k0 rfl ⟨k', a3, c3, g1, fun j hj => (g2 j hj).imp id (fun e => Nat.le_trans hI.size e), (hb3.kept g3 (fun x _ hx e => by have := HKL.out x e; omega)).dom (fun x hx => ⟨hx.1, hgr x hx.1 (by omega)⟩), ((Kept.of_below (fun j => kl = some j) hI).trans g3 (fun _ _ h => h))⟩ g3, trivial⟩
        · intro vs p hI hR
          have h0 : (vs 0) = .pointer (some ⟨gl, 0, none⟩) := hR 0 (by omega)
          have h1 : (vs 1) = .pointer (some ⟨gl, 0, none⟩) := hR 1 (by omega)
          have h2 : (vs 2) = .pointer (some ⟨gl, 0, none⟩) := hR 2 (by omega)
          have h3 : (vs 3) = .pointer (some ⟨gl, 5, none⟩) := hR 3 (by omega)
          have h4 : (vs 4) = .slice al rl cl := hR 4 (by omega)
          have h5 : (vs 5) = .slice a n c := hR 5 (by omega)
          have h6 : ∃ a3 c3, (vs 6) = .slice a3 n c3 ∧ Bs (fun x => q.heap.size ≤ x) p a3 n c3 r := hR 6 (by omega)
          have h7 : ∃ x a3 c3, (vs 7) = .slice (some ⟨x, 0, none⟩) 1 1 ∧ q.heap.size ≤ x ∧ p.heap[x]? = some (.cells #[.slice a3 n c3] 32 (0, 0)) ∧ Bs (fun y => q.heap.size ≤ y ∧ y < x) p a3 n c3 r := hR 7 (by omega)
          have h8 : True := hR 8 (by omega)
          clear hR
          simp only [List.range_succ, List.range_zero, List.nil_append, List.cons_append, Roll.putD, Act.put, List.getD_cons_zero, List.getD_cons_succ, List.setIfInBounds_toArray, List.set_cons_zero, List.set_cons_succ, List.drop_succ_cons, List.drop_zero, Dap7]
          simp only [h0, h1, h2, h3, h4, h5]
          clear h0 h1 h2 h3 h4 h5
          clear h6 h7 h8
          generalize vs 6 = v6 at *; generalize vs 7 = v7 at *; generalize vs 8 = v8 at *
          obtain ⟨k', a3, c3, g1, g2, g3, gK⟩ := hI
          obtain ⟨a8, c8, rfl, -, -⟩ := g1.shape
          have hself2 := gK.heap HSELF.out HKG.out
          have c5p : p.cell? ⟨gl, 5, none⟩ = some (.slice al rl cl) := (gK.cell (p := ⟨gl, 5, none⟩) HGL.out.1 HGL.out.2).trans C5.out
          have f5p : p.frozen? ⟨gl, 5, none⟩ = false := frozen_of_row p gl 5 _ _ hself2
          have HP : Hid (Lv w0 (p.setCell ⟨gl, 5, none⟩ (.slice a8 (rl + 1) c8)) (L.set i (logO gl g { m with recs := m.recs ++ [r] }))) := Lib.hid (by
            have hkg : k' ≠ some gl := fun e => by
              rcases g2 _ e with e | e
              · exact HKG.out e
              · have := HGL.out.1; omega
            have hks : Kept (fun j => j = gl) p (p.setCell ⟨gl, 5, none⟩ (.slice a8 (rl + 1) c8)) := (Kept.refl (fun j => j = gl) p).setCell (fun _ => rfl) _
            have hks2 : Kept (fun j => j = gl ∨ kl = some j) q (p.setCell ⟨gl, 5, none⟩ (.slice a8 (rl + 1) c8)) := (gK.mono (fun _ _ h => .inr h)).trans hks (fun _ _ h => .inl h)
            have hlg := HLG.out
            refine HSET.out _ k' (fun x => Bl x ∨ (q.heap.size ≤ x ∧ x < p.heap.size ∧ k' ≠ some x)) (.slice a8 (rl + 1) c8) _ ⟨?_, ⟨ys ++ [.slice a3 n c3], ?_, fun j hj => ?_⟩, ⟨hkg, ?_, ?_⟩, ?_⟩ (hks2.mono ?_) ?_
            · rw [heap_setCell_same p gl 5 _ _ _ hself2]; rfl
            · rw [List.length_append, List.length_singleton, HRLE.out]
              exact g1.kept hks (fun j hj e => hkg (by rw [← e]; exact hj))
            · have hyl : ys.length = rl := HYS.out.1
              have hRE := HRLE.out
              by_cases e : j < rl
              · obtain ⟨a4, c4, e1, e2⟩ := HYJ.out j (by omega)
                refine ⟨a4, c4, ?_, ?_⟩
                · rw [List.getElem?_append_left (by omega), e1]; simp only [List.getElem_append_left (show j < m.recs.length by omega)]
                · simp only [List.getElem_append_left (show j < m.recs.length by omega)]
                  exact ((e2.kept hks2 (fun x hx hb e => by
                    rcases e with e | e
                    · exact hlg.ap.2.1 (by rw [← e]; exact hb)
                    · exact hlg.ap.2.2 x e hb)).dom (fun x hx => .inl hx))
              · have hj2 : j = rl := by rw [List.length_append, List.length_singleton] at hj; omega
                have e3 : (m.recs ++ [r])[j]'hj = r := by
                  rw [List.getElem_append_right (by omega)]
                  simp
                refine ⟨a3, c3, ?_, ?_⟩
                · rw [List.getElem?_append_right (by omega), hyl, show j - rl = 0 by omega]; rw [show (m.recs ++ [r])[j]'hj = r from e3, HRL.out]; rfl
                · rw [show (m.recs ++ [r])[j]'hj = r from e3, HRL.out]
                  exact ((g3.small.kept hks (fun x _ hx e => by subst e; have := HGL.out.1; omega)).dom (fun x hx => .inr ⟨hx.1.1, hx.2, hx.1.2⟩))
            · rintro (h | h)
              · exact hlg.ap.2.1 h
              · have := HGL.out.1; omega
            · rintro x hx (h | h)
              · rcases g2 x hx with e | e
                · exact hlg.ap.2.2 x e h
                · have := hlg.lt x h; omega
              · exact h.2.2 hx
            · rintro x (h | h)
              · exact Nat.lt_of_lt_of_le (hlg.lt x h) (Nat.le_trans gK.size hks.size)
              · exact Nat.lt_of_lt_of_le h.2.1 hks.size
            · rintro j - (e | e)
              · exact HBB.out j (.inl e)
              · exact HBB.out j (.inr (.inl e))
            · rintro x (e | e | e | e)
              · exact .inl (HBB.out x (.inl e))
              · exact (g2 x e).imp (fun e => HBB.out x (.inr (.inl e))) id
              · exact .inl (HBB.out x (.inr (.inr e)))
              · exact .inr e.1)
          clear g1 g2 g3 gK hself2
          go_upto_region 8 with fail
          have hi2 : (L.set i (logO gl g { m with recs := m.recs ++ [r] }))[i]? = some (logO gl g { m with recs := m.recs ++ [r] }) := List.getElem?_set_self HIL.out
          obtain ⟨_, _, -, -, hgl8, -, -, -, -, -, -, -, t7, fz⟩ := HP.out.logFacts hi2
          simp only at t7
          have z7 := fz 7
          have HP2 := Lib.hid (HP.out.logTak hi2 (m.tak + (n + 12)))
          obtain ⟨w8, hw8⟩ : ∃ w8, w8 = p.setCell ⟨gl, 5, none⟩ (.slice a8 (rl + 1) c8) := ⟨_, rfl⟩
          rw [← hw8] at t7 hgl8 z7 HP2 ⊢
          clear hw8 c5p f5p HP fz hi2
          go_wp2_with fail
          go_ret
          refine ⟨by rw [HE0.out]; rfl, ?_⟩
          rw [HM0.out]
          have := HP2.out
          rwa [List.set_set] at this
end
end Go.Proofs.Ythffegfcgmhppaa
namespace Go.Proofs.Ythffegfcgmhppaa
open Go.RowKit
set_option linter.unusedSimpArgs false
set_option linter.unusedVariables false
/-- what records count for -/
def takR (rs : List (List UInt8)) : Nat := (rs.map fun r => r.length + 12).sum
theorem takR_snoc (rs : List (List UInt8)) (r : List UInt8) : takR (rs ++ [r]) = takR rs + (r.length + 12) := by simp [takR]
theorem takR_take (rs : List (List UInt8)) (i : Nat) : takR (rs.take i) ≤ takR rs := by
  induction rs generalizing i with
  | nil => simp [takR]
  | cons r rs ih =>
    cases i with
    | zero => simp [takR]
    | succ i =>
      have := ih i
      simp only [takR, List.take_succ_cons, List.map_cons, List.sum_cons] at this ⊢
      omega
set_option maxRecDepth 100000 in
set_option maxHeartbeats 2000000 in
theorem left_any (D : Nat → Prop) (a : Option Addr) (n c k : Nat) (rs : List (List UInt8)) (w : World) (hR : RdR D w a n c rs) (hk : k ≤ 1000000) (ht : takR rs ≤ 1000000000) (hn : n ≤ 1000000) (hl : ∀ r ∈ rs, r.length ≤ 1000000) :
    Calls Try.prog 52 #[.int .i64 (k : Int), .slice a n c] w fun x w' => x = .returned (.int .i64 (64 * ((k : Int) - 2) - (takR rs : Int))) ∧ w = w' := by
  obtain ⟨hn1, hc1, hc2, hlk⟩ := hR
  have HLK := Lib.hid hlk
  have HN := Lib.hid hn1
  have HT := Lib.hid ht
  have HL := Lib.hid hl
  have hw1 : IntKind.i64.wrap ((k : Int) - 2) = (k : Int) - 2 := i64_id _ (by omega) (by omega)
  have hw2 : IntKind.i64.wrap (64 * ((k : Int) - 2)) = 64 * ((k : Int) - 2) := i64_id _ (by omega) (by omega)
  clear hlk ht hl hn1
  go_enter Try.func52, Try.ntmps52
  go_wp2_with fail
  go_loopw [5, 6] (fun u t wr => ∃ i : Nat, i ≤ n ∧ u = .int .i64 (64 * ((k : Int) - 2) - (takR (rs.take i) : Int)) ∧ t = .int .i64 (i : Int) ∧ wr = w) (fun _ t _ => n - (intOf t).toNat)
  case atStart => exact ⟨0, Nat.zero_le _, by simp [takR], rfl, rfl⟩
  case round =>
    obtain ⟨i, hi9, rfl, rfl, rfl⟩ := hrel
    by_cases hlt : i < n
    · have hn2 : (i : Int) < (n : Int) := by omega
      have hw3 : IntKind.i64.wrap ((i : Int) + 1) = (i : Int) + 1 := i64_id _ (by omega) (by omega)
      have hlr : i < rs.length := by rw [HN.out]; exact hlt
      obtain ⟨r, hr⟩ : ∃ r, r = rs[i]'hlr := ⟨_, rfl⟩
      obtain ⟨g, off, b, cb, -, rfl, hg, hcell, hbs⟩ := HLK.out i hlr
      rw [← hr] at hcell hbs
      have hrb : r.length ≤ 1000000 := HL.out r (by rw [hr]; exact List.getElem_mem _)
      have HTK : Hid (takR (rs.take (i + 1)) = takR (rs.take i) + (r.length + 12)) := Lib.hid (by rw [List.take_succ_eq_append_getElem hlr, takR_snoc, hr])
      have hti : takR (rs.take i) ≤ 1000000000 := Nat.le_trans (takR_take rs i) HT.out
      obtain ⟨T, hT⟩ : ∃ T, T = takR (rs.take i) := ⟨_, rfl⟩
      rw [← hT] at HTK hti ⊢
      obtain ⟨rl, hrl⟩ : ∃ rl, rl = r.length := ⟨_, rfl⟩
      rw [← hrl] at hcell hrb HTK
      have hw4 : IntKind.i64.wrap (64 * ((k : Int) - 2) - (T : Int) - (rl : Int)) = 64 * ((k : Int) - 2) - (T : Int) - (rl : Int) := i64_id _ (by omega) (by omega)
      have hw5 : IntKind.i64.wrap (64 * ((k : Int) - 2) - (T : Int) - (rl : Int) - 12) = 64 * ((k : Int) - 2) - (T : Int) - (rl : Int) - 12 := i64_id _ (by omega) (by omega)
      clear hbs hr hg hT hrl
      go_wp2_with fail
      go_roundw
      case rel => exact ⟨i + 1, by omega, by rw [HTK.out]; exact congrArg _ (by omega), by go_num, trivial⟩
      case measure => simp [intOf]; omega
    · obtain rfl : i = n := by omega
      have HTE : Hid (takR (rs.take i) = takR rs) := Lib.hid (by rw [List.take_of_length_le (by rw [HN.out]; exact Nat.le_refl _)])
      go_wp2
      go_ret
      exact ⟨by rw [HTE.out]; rfl, rfl⟩
set_option maxRecDepth 100000 in
set_option maxHeartbeats 2000000 in
theorem rroom_any (D : Nat → Prop) (a : Option Addr) (n c k : Nat) (rs : List (List UInt8)) (w : World) (hR : RdR D w a n c rs) (hk : k ≤ 1000000) (ht : takR rs ≤ 1000000000) (hn : n ≤ 1000000) (hl : ∀ r ∈ rs, r.length ≤ 1000000) :
    Calls Try.prog 30 #[.int .i64 (k : Int), .slice a n c] w fun x w' => x = .returned (.int .i64 (roomZ k (takR rs))) ∧ w = w' := by
  have HC := Lib.hid (left_any D a n c k rs w hR hk ht hn hl)
  obtain ⟨T, hT⟩ : ∃ T, T = takR rs := ⟨_, rfl⟩
  rw [← hT] at HC ht ⊢
  obtain ⟨X, hX⟩ : ∃ X : Int, X = 64 * ((k : Int) - 2) - (T : Int) := ⟨_, rfl⟩
  rw [← hX] at HC
  obtain ⟨M, hM⟩ : ∃ M, M = min 4000 (X - 12) := ⟨_, rfl⟩
  obtain ⟨Z, hZ⟩ : ∃ Z, Z = max (-1) M := ⟨_, rfl⟩
  have HE : Hid (roomZ k (T : Int) = Z) := Lib.hid (by rw [hZ, hM, hX]; unfold roomZ; omega)
  have hw1 : IntKind.i64.wrap (X - 12) = X - 12 := i64_id _ (by omega) (by omega)
  have HM := Lib.hid hM.symm
  have HZ := Lib.hid hZ.symm
  clear hT hX hM hZ hR hl
  go_enter Try.func30, Try.ntmps30
  go_wp2_with (first
    | (go_at_call 52; refine HC.out.mono ?_; rintro e w2 ⟨rfl, rfl⟩)
    | (refine wpList_min2 rfl (.const (.int .i64 4000)) (.tmp 8) 3 3 rfl 4000 _ M rfl rfl HM.out ?_)
    | (refine wpList_max2 rfl (.const (.int .i64 (-1))) (.tmp 9) 3 3 rfl (-1) M Z rfl rfl HZ.out ?_))
  go_ret
  exact ⟨by rw [HE.out]; rfl, rfl⟩
def rappE (k : Nat) (rs : List (List UInt8)) (n : Nat) : Int := if 4000 < n then 2 else if roomZ k (takR rs) < n then 9 else 0
set_option maxRecDepth 100000 in
set_option maxHeartbeats 2000000 in
theorem rappend_any (D : Nat → Prop) (a : Option Addr) (n c k : Nat) (rs : List (List UInt8)) (ra : Option Addr) (rn rc : Nat) (hrn : rn ≤ 1000000) (w : World) (hR : RdR D w a n c rs) (hk : k ≤ 1000000) (ht : takR rs ≤ 1000000000) (hn : n ≤ 1000000) (hl : ∀ r ∈ rs, r.length ≤ 1000000) :
    Calls Try.prog 14 #[.int .i64 (k : Int), .slice a n c, .slice ra rn rc] w fun x w' => x = .returned (.int .i64 (rappE k rs rn)) ∧ w = w' := by
  have HC := Lib.hid (rroom_any D a n c k rs w hR hk ht hn hl)
  obtain ⟨E, hE⟩ : ∃ E, E = rappE k rs rn := ⟨_, rfl⟩
  rw [← hE]
  unfold rappE at hE
  obtain ⟨RM, hRM⟩ : ∃ RM, RM = roomZ k (takR rs) := ⟨_, rfl⟩
  rw [← hRM] at HC hE
  clear hR hl hRM
  by_cases a1 : 4000 < rn
  · have a1' : (4000 : Int) < (rn : Int) := by omega
    have HE : Hid (E = 2) := Lib.hid (by rw [hE, if_pos a1])
    clear hE a1
    go_enter Try.func14, Try.ntmps14
    go_wp2_with fail
    go_ret
    exact ⟨by rw [HE.out]; rfl, rfl⟩
  · have a1' : (rn : Int) ≤ 4000 := by omega
    by_cases a2 : RM < (rn : Int)
    · have HE : Hid (E = 9) := Lib.hid (by rw [hE, if_neg a1, if_pos a2])
      clear hE a1
      go_enter Try.func14, Try.ntmps14
      go_wp2_with (go_at_call 30; refine HC.out.mono ?_; rintro e w2 ⟨rfl, rfl⟩)
      go_ret
      exact ⟨by rw [HE.out]; rfl, rfl⟩
    · have a2' : (rn : Int) ≤ RM := by omega
      have HE : Hid (E = 0) := Lib.hid (by rw [hE, if_neg a1, if_neg a2])
      clear hE a1 a2
      go_enter Try.func14, Try.ntmps14
      go_wp2_with (go_at_call 30; refine HC.out.mono ?_; rintro e w2 ⟨rfl, rfl⟩)
      go_ret
      exact ⟨by rw [HE.out]; rfl, rfl⟩
set_option maxRecDepth 100000 in
set_option maxHeartbeats 2000000 in
theorem same_any (D1 D2 : Nat → Prop) (a b : Option Addr) (n c k e : Nat) (rs qs : List (List UInt8)) (w : World) (h1 : RdR D1 w a n c rs) (h2 : RdR D2 w b k e qs) (hn : n ≤ 1000000) :
    Calls Try.prog 32 #[.slice a n c, .slice b k e] w fun x w' => x = .returned (.bool (rs == qs)) ∧ Below w.heap.size w w' := by
  obtain ⟨hn1, hc1, hc2, hlk1⟩ := h1
  obtain ⟨hk1, he1, he2, hlk2⟩ := h2
  obtain ⟨S, hS⟩ : ∃ S, S = (rs == qs) := ⟨_, rfl⟩
  rw [← hS]
  have HS := Lib.hid hS
  have HN := Lib.hid hn1
  have HK := Lib.hid hk1
  have H1 : Hid (RdR D1 w a n c rs) := Lib.hid ⟨hn1, hc1, hc2, hlk1⟩
  have H2 : Hid (RdR D2 w b k e qs) := Lib.hid ⟨hk1, he1, he2, hlk2⟩
  clear hlk1 hlk2 hS hn1 hk1
  by_cases hne : n = k
  · subst hne
    go_enter Try.func32, Try.ntmps32
    go_wp2_with fail
    go_loopw [5] (fun t wr => ∃ i : Nat, i ≤ n ∧ t = .int .i64 (i : Int) ∧ rs.take i = qs.take i ∧ Below w.heap.size w wr) (fun t _ => n - (intOf t).toNat)
    case atStart => exact ⟨0, Nat.zero_le _, rfl, rfl, Below.refl _ _⟩
    case round =>
      obtain ⟨i, hi9, rfl, heq, hbl⟩ := hrel
      by_cases hlt : i < n
      · have hn2 : (i : Int) < (n : Int) := by omega
        have hw3 : IntKind.i64.wrap ((i : Int) + 1) = (i : Int) + 1 := i64_id _ (by omega) (by omega)
        have hlr : i < rs.length := by rw [HN.out]; exact hlt
        have hlq : i < qs.length := by rw [HK.out]; exact hlt
        obtain ⟨g, off, b1, cb1, -, rfl, hg, hcell, hbs⟩ := (H1.out.below hbl).2.2.2 i hlr
        obtain ⟨g', off', b2, cb2, -, rfl, hg', hcell', hbs'⟩ := (H2.out.below hbl).2.2.2 i hlq
        obtain ⟨r, hr⟩ : ∃ r, r = rs[i]'hlr := ⟨_, rfl⟩
        obtain ⟨q, hq⟩ : ∃ q, q = qs[i]'hlq := ⟨_, rfl⟩
        rw [← hr] at hcell hbs
        rw [← hq] at hcell' hbs'
        have HB1 := Lib.hid hbs
        have HB2 := Lib.hid hbs'
        have HBL := Lib.hid hbl
        have HEQ := Lib.hid heq
        have HR := Lib.hid hr
        have HQ := Lib.hid hq
        clear hbs hbs' hbl heq hr hq
        by_cases hrq : r = q
        · subst hrq
          have hbq : (r == r) = true := beq_self_eq_true r
          have HTK : Hid (rs.take (i + 1) = qs.take (i + 1)) := Lib.hid (by
            rw [List.take_succ_eq_append_getElem hlr, List.take_succ_eq_append_getElem hlq, HEQ.out, ← HR.out, ← HQ.out])
          go_wp2_with fail
          go_still_tail 8, (by kernel_rfl)
          change wpList _ _ _ _ _ wr.drew
          go_wp2_with (go_at_call 38; refine (sameBytes_any _ _ _ _ _ _ _ _ _ _ _ (HB1.out.kept (Kept.of_below (fun _ => False) (Below.refl _ _).drew) (fun _ _ _ h => h)) (HB2.out.kept (Kept.of_below (fun _ => False) (Below.refl _ _).drew) (fun _ _ _ h => h))).mono ?_; rintro e w2 ⟨rfl, rfl⟩; rw [hbq])
          go_roundw
          case rel => exact ⟨i + 1, by omega, by go_num, HTK.out, HBL.out.drew⟩
          case measure => simp [intOf]; omega
        · have hbq : (r == q) = false := beq_eq_false_iff_ne.2 hrq
          have HF : Hid (S = false) := Lib.hid (by
            rw [HS.out, beq_eq_false_iff_ne]
            intro e
            apply hrq
            rw [HR.out, HQ.out]
            simp only [e])
          have hlen : rs.length = rs.length := rfl
          clear hrq
          go_wp2_with fail
          go_still_tail 8, (by kernel_rfl)
          change wpList _ _ _ _ _ wr.drew
          go_wp2_with (go_at_call 38; refine (sameBytes_any _ _ _ _ _ _ _ _ _ _ _ (HB1.out.kept (Kept.of_below (fun _ => False) (Below.refl _ _).drew) (fun _ _ _ h => h)) (HB2.out.kept (Kept.of_below (fun _ => False) (Below.refl _ _).drew) (fun _ _ _ h => h))).mono ?_; rintro e w2 ⟨rfl, rfl⟩; rw [hbq])
          go_ret
          exact ⟨by rw [HF.out]; rfl, HBL.out.drew⟩
      · obtain rfl : i = n := by omega
        have HF : Hid (S = true) := Lib.hid (by
          rw [HS.out, beq_iff_eq]
          have e1 : rs.take i = rs := List.take_of_length_le (by rw [HN.out]; exact Nat.le_refl _)
          have e2 : qs.take i = qs := List.take_of_length_le (by rw [HK.out]; exact Nat.le_refl _)
          rw [e1, e2] at heq
          exact heq)
        have HBL := Lib.hid hbl
        clear heq hbl hlt
        go_wp2
        go_ret
        exact ⟨by rw [HF.out]; rfl, HBL.out⟩
  · have hne2 : ¬ ((n : Int) = (k : Int)) := by omega
    have HF : Hid (S = false) := Lib.hid (by
      rw [HS.out]
      rw [beq_eq_false_iff_ne]
      intro e
      apply hne
      rw [← HN.out, ← HK.out, e])
    clear hne
    go_enter Try.func32, Try.ntmps32
    go_wp2_with fail
    go_ret
    exact ⟨by rw [HF.out]; rfl, Below.refl _ _⟩
end Go.Proofs.Ythffegfcgmhppaa
namespace Go.Proofs.Ythffegfcgmhppaa
open Go.RowKit
set_option linter.unusedSimpArgs false
set_option linter.unusedVariables false
def Dop7 : List (Option Tmp) := [some 36, some 37, some 38, some 39, some 40, some 35, some 41, some 42, some 11, none, some 12]
def Lop7 : List (List Nat) := [[], [0], [], [2], [1, 3], [4], [5], [5], [], [8, 6], [7]]
/-- what may be done to a block that is being made -/
def SZ (rr ee : Nat) (p p2 : World) : Prop := (∀ x : Nat, p.heap[x]? = some (.cells #[.int .u8 0, .int .i64 0] 76 (0, 0)) → p2.heap[x]? = some (.cells #[.int .u8 0, .int .i64 0] 76 (0, 0)) ∨ p2.heap[x]? = some (.cells #[.int .u8 (rr : Int), .int .i64 (ee : Int)] 76 (0, 0))) ∧ ∀ x : Nat, p.heap[x]? = some (.cells #[.int .u8 (rr : Int), .int .i64 (ee : Int)] 76 (0, 0)) → p2.heap[x]? = some (.cells #[.int .u8 (rr : Int), .int .i64 (ee : Int)] 76 (0, 0))
theorem SZ.refl (rr ee : Nat) (p : World) : SZ rr ee p p := ⟨fun _ h => .inl h, fun _ h => h⟩
theorem SZ.of_below {rr ee : Nat} {p p2 : World} (h : Below p.heap.size p p2) : SZ rr ee p p2 := ⟨fun x hx => .inl ((Kept.of_below (fun _ => False) h).heap hx (fun h => h)), fun x hx => (Kept.of_below (fun _ => False) h).heap hx (fun h => h)⟩
theorem SZ.of_set {rr ee : Nat} {p : World} {x : Nat} {old : Array Value} (h : p.heap[x]? = some (.cells old 76 (0, 0))) : SZ rr ee p (p.setRow x #[.int .u8 (rr : Int), .int .i64 (ee : Int)]) := by
  have hk : Kept (fun y => y = x) p (p.setRow x #[.int .u8 (rr : Int), .int .i64 (ee : Int)]) := (Kept.refl (fun y => y = x) p).setRow (fun _ => rfl) _
  refine ⟨fun y hy => ?_, fun y hy => ?_⟩
  · by_cases e : y = x
    · rw [e]; exact .inr (setRow_heap _ _ _ _ _ _ h)
    · exact .inl (hk.heap hy e)
  · by_cases e : y = x
    · rw [e]; exact setRow_heap _ _ _ _ _ _ h
    · exact hk.heap hy e
section
variable {w0 w : World} {L : List Obj} {g j : Nat} {d : DM}
set_option maxRecDepth 100000 in
set_option maxHeartbeats 2000000 in
theorem open_bad (h : Lv w0 w L) (hj : L[j]? = some (diskO g d)) (f n : Int) (f1 : -9223372036854775808 ≤ f) (f2 : f ≤ 9223372036854775807) (n1 : -9223372036854775808 ≤ n) (n2 : n ≤ 9223372036854775807) (hv : validB d.S.length f n = false) :
    Calls Try.prog 18 #[.pointer (some ⟨g, 0, none⟩), .int .i64 f, .int .i64 n] w fun x w' => x = .returned (.tuple #[.pointer none, .int .i64 5]) ∧ w = w' := by
  have HC := Lib.hid (valid_lv h hj f n f1 f2 n1 n2)
  rw [hv] at HC
  clear h hj hv
  go_enter Try.func18, Try.ntmps18
  go_wp2_with (go_at_call 40; refine HC.out.mono ?_; rintro e w2 ⟨rfl, rfl⟩)
  go_ret2
  exact ⟨rfl, rfl⟩
set_option maxRecDepth 100000 in
set_option maxHeartbeats 2000000 in
theorem open_off (h : Lv w0 w L) (hj : L[j]? = some (diskO g d)) (f n : Nat) (hf : f ≤ 4096) (hn : n ≤ 4096) (hv : validB d.S.length f n = true) (ho : d.on = false) :
    Calls Try.prog 18 #[.pointer (some ⟨g, 0, none⟩), .int .i64 (f : Int), .int .i64 (n : Int)] w fun x w' => x = .returned (.tuple #[.pointer none, .int .i64 10]) ∧ Lv w0 w' L := by
  have hd1 : 4 ≤ (n : Int) ∧ 0 ≤ (f : Int) ∧ (n : Int) ≤ (d.S.length : Int) - (f : Int) := by unfold validB at hv; exact of_decide_eq_true hv
  have HC := Lib.hid (valid_lv h hj f n (by omega) (by omega) (by omega) (by omega))
  rw [hv] at HC
  obtain ⟨w1, hw1⟩ : ∃ w1, w1 = w.alloc (.cells #[.pointer (some ⟨g, 0, none⟩), .int .i64 (f : Int), .int .i64 (n : Int), .int .u8 0, .int .i64 0, .slice none 0 0, .int .i64 0, .int .i64 0] 78) := ⟨_, rfl⟩
  obtain ⟨gl, hgl⟩ : ∃ gl, gl = w.heap.size := ⟨_, rfl⟩
  have HL1 : Hid (Lv w0 w1 (logO gl g (LM.new f n) :: L)) := Lib.hid (by rw [hw1, hgl]; exact h.logNew g f n)
  have hbl := run_buildL g f n
  have HW1 := Lib.hid hw1
  have HGL := Lib.hid hgl
  have HJ := Lib.hid hj
  have HON := Lib.hid ho
  have HFN : Hid (f + n ≤ d.S.length ∧ 4 ≤ n ∧ d.S.length ≤ 4096) := Lib.hid ⟨by omega, by omega, (h.ok hj).2.1⟩
  have HRD0 : Hid (Calls Try.prog 46 #[.pointer (some ⟨gl, 0, none⟩), .int .i64 0, .int .i64 128] w1 fun x w' => x = .returned (.tuple #[.slice none 0 0, .int .i64 10]) ∧ Lv w0 w' (logO gl g (LM.new f n) :: L)) := Lib.hid (read_log_off HL1.out (ii := 0) (j := j + 1) rfl (by simpa using hj) 128 (by omega) (by omega) (show f < d.S.length by omega) ho)
  clear h hj hv ho hw1 hgl hd1
  go_enter Try.func18, Try.ntmps18
  go_upto_region 4 with (go_at_call 40; refine HC.out.mono ?_; rintro e w2 ⟨rfl, rfl⟩; clear HC)
  rw [← HW1.out, ← HGL.out]
  go_wp2_with (go_at_call 46; refine HRD0.out.mono ?_; rintro x q ⟨rfl, hl2⟩; have HL2 := Lib.hid hl2; clear hl2 HRD0)
  go_ret2
  exact ⟨rfl, HL2.out.tail⟩
set_option maxRecDepth 100000 in
set_option maxHeartbeats 4000000 in
theorem open_form (h : Lv w0 w L) (hj : L[j]? = some (diskO g d)) (f n : Nat) (hf : f ≤ 4096) (hn : n ≤ 4096) (hv : validB d.S.length f n = true) (ho : d.on = true) (hbad : newOk (lastB (d.S.getD f [])) (lastB (d.S.getD (f + 1) [])) = false ∨ n * 64 < endF (newS (lastB (d.S.getD f [])) (lastB (d.S.getD (f + 1) [])))) :
    Calls Try.prog 18 #[.pointer (some ⟨g, 0, none⟩), .int .i64 (f : Int), .int .i64 (n : Int)] w fun x w' => x = .returned (.tuple #[.pointer none, .int .i64 7]) ∧ Lv w0 w' L := by
  have hd1 : 4 ≤ (n : Int) ∧ 0 ≤ (f : Int) ∧ (n : Int) ≤ (d.S.length : Int) - (f : Int) := by unfold validB at hv; exact of_decide_eq_true hv
  have HC := Lib.hid (valid_lv h hj f n (by omega) (by omega) (by omega) (by omega))
  rw [hv] at HC
  obtain ⟨w1, hw1⟩ : ∃ w1, w1 = w.alloc (.cells #[.pointer (some ⟨g, 0, none⟩), .int .i64 (f : Int), .int .i64 (n : Int), .int .u8 0, .int .i64 0, .slice none 0 0, .int .i64 0, .int .i64 0] 78) := ⟨_, rfl⟩
  obtain ⟨gl, hgl⟩ : ∃ gl, gl = w.heap.size := ⟨_, rfl⟩
  have HL1 : Hid (Lv w0 w1 (logO gl g (LM.new f n) :: L)) := Lib.hid (by rw [hw1, hgl]; exact h.logNew g f n)
  have hbl := run_buildL g f n
  have HW1 := Lib.hid hw1
  have HGL := Lib.hid hgl
  have HJ := Lib.hid hj
  have HON := Lib.hid ho
  have HFN : Hid (f + n ≤ d.S.length ∧ 4 ≤ n ∧ d.S.length ≤ 4096) := Lib.hid ⟨by omega, by omega, (h.ok hj).2.1⟩
  have h64 := (h.ok hj).2.2.2
  have h6 : ∀ k, k < d.S.length → (lastB (d.S.getD k [])).length = 64 := fun k hk => by
    rw [List.getD_eq_getElem?_getD, List.getElem?_eq_getElem hk, Option.getD_some]
    have := h64 _ (List.getElem_mem hk)
    exact this.2 _ (lastB_mem this.1)
  obtain ⟨f0, hf0⟩ : ∃ f0, f0 = lastB (d.S.getD f []) := ⟨_, rfl⟩
  obtain ⟨s0, hs0⟩ : ∃ s0, s0 = lastB (d.S.getD (f + 1) []) := ⟨_, rfl⟩
  have hf0l : f0.length = 64 := by rw [hf0]; exact h6 _ (by omega)
  have hs0l : s0.length = 64 := by rw [hs0]; exact h6 _ (by omega)
  obtain ⟨hd, hhd⟩ : ∃ hd, hd = f0 ++ s0 := ⟨_, rfl⟩
  have hsec : (secsB d (f + 0) 2).take (128 - 0 * 64) = hd := by
    have e1 : secsB d (f + 0) 2 = hd := by rw [hhd, hf0, hs0]; simp [secsB, List.range_succ]
    rw [e1]
    exact List.take_of_length_le (by rw [hhd, List.length_append, hf0l, hs0l]; omega)
  rw [← hf0, ← hs0] at hbad
  obtain ⟨rr, hrr⟩ : ∃ rr, rr = bN (newS f0 s0) 0 := ⟨_, rfl⟩
  obtain ⟨ee, hee⟩ : ∃ ee, ee = endF (newS f0 s0) := ⟨_, rfl⟩
  obtain ⟨nk, hnk⟩ : ∃ nk, nk = newOk f0 s0 := ⟨_, rfl⟩
  have HRR := Lib.hid hrr.symm
  have HEE := Lib.hid hee.symm
  have HNK := Lib.hid hnk.symm
  have hrrb : rr < 256 := by rw [hrr]; exact bN_lt _ _
  have heeb : ee < 16777216 := by
    rw [hee]; unfold endF
    have e1 := bN_lt (newS f0 s0) 1
    have e2 := bN_lt (newS f0 s0) 2
    have e3 := bN_lt (newS f0 s0) 3
    omega
  have hwn : IntKind.i64.wrap ((n : Int) * 64) = (n : Int) * 64 := i64_id _ (by omega) (by omega)
  have HRD0 : Hid (Calls Try.prog 46 #[.pointer (some ⟨gl, 0, none⟩), .int .i64 0, .int .i64 128] w1 fun x w' => ∃ v, x = .returned (.tuple #[v, .int .i64 0]) ∧ Lv w0 w' (bytesO v hd :: logO gl g (LM.new f n) :: L)) := Lib.hid (by
    have := read_log HL1.out (ii := 0) (j := j + 1) rfl (by simpa using hj) 0 128 2 (by omega) (by omega) (by omega) (by omega) (show f + 0 + 2 ≤ d.S.length by omega) ho
    rw [show (secsB d ((LM.new f n).frm + 0) 2).take (128 - 0 * 64) = hd from hsec] at this
    exact this)
  have hhl : hd.length = 128 := by rw [hhd, List.length_append, hf0l, hs0l]
  have HHD : Hid (hd.take 64 = f0 ∧ hd.drop 64 = s0) := Lib.hid ⟨by rw [hhd, ← hf0l, List.take_left], by rw [hhd, ← hf0l, List.drop_left]⟩
  have HHL := Lib.hid hhl
  have HBAD : Hid (nk = false ∨ n * 64 < ee) := Lib.hid (by rw [hnk, hee]; exact hbad)
  clear h hj hv ho hw1 hgl hd1 h64 h6 hf0 hs0 hf0l hs0l hhd hsec hbad hrr hee hnk hhl
  go_enter Try.func18, Try.ntmps18
  go_upto_region 4 with (go_at_call 40; refine HC.out.mono ?_; rintro e w2 ⟨rfl, rfl⟩; clear HC)
  rw [← HW1.out, ← HGL.out]
  go_upto_region 5 with (go_at_call 46; refine HRD0.out.mono ?_; rintro x q ⟨v, rfl, hl2⟩; have HL2 := Lib.hid hl2; clear hl2 HRD0)
  obtain ⟨BB, ⟨ah, hc, e9, hbs⟩, -, -, -⟩ := HL2.out.get (i := 0) rfl
  rw [HHL.out] at e9 hbs
  subst e9
  obtain ⟨hb, ho, -, -, rfl, -⟩ := hbs.cells (by omega)
  have hc1 : 128 ≤ hc := hbs.2.2.1
  have hc2 : hc ≤ 9223372036854775807 := hbs.2.2.2.1
  have HB1 : Hid (Bs BB q (some ⟨hb, ho, none⟩) 64 hc f0) := Lib.hid (by have := hbs.upto 64 (by omega); rwa [HHD.out.1] at this)
  have HB2 : Hid (Bs BB q (some ⟨hb, ho + 64, none⟩) 64 (hc - 64) s0) := Lib.hid (by have := hbs.past 64 (by omega); rwa [HHD.out.2] at this)
  have HHC : Hid (¬ hc = 64 ∧ (64 : Int) ≤ (hc : Int)) := Lib.hid ⟨by omega, by omega⟩
  clear hbs
  go_wp2_with fail
  refine Roll.region_w 11 100 Dop7 Lop7 [(9, .slice (some ⟨hb, ho, none⟩) 128 hc)] 9 [true, true, true, true, false, true, true, true, false, false, true] (fun p => Below q.heap.size q p) (fun vv p => Below q.heap.size q p) (fun p => Below q.heap.size q p) (SZ rr ee) [fun vv p => (vv 0) = .slice (some ⟨hb, ho, none⟩) 128 hc, fun vv p => (vv 1) = .slice (some ⟨hb, ho, none⟩) 64 hc, fun vv p => (vv 2) = .slice (some ⟨hb, ho, none⟩) 128 hc, fun vv p => (vv 3) = .slice (some ⟨hb, ho + 64, none⟩) 64 (hc - 64), fun vv p => (vv 4) = .tuple #[.agg #[.int .u8 (rr : Int), .int .i64 (ee : Int)], .bool nk], fun vv p => (vv 5) = .tuple #[.agg #[.int .u8 (rr : Int), .int .i64 (ee : Int)], .bool nk], fun vv p => (vv 6) = .agg #[.int .u8 (rr : Int), .int .i64 (ee : Int)], fun vv p => (vv 7) = .bool nk, fun vv p => ∃ x, (vv 8) = .pointer (some ⟨x, 0, none⟩) ∧ q.heap.size ≤ x ∧ (p.heap[x]? = some (.cells #[.int .u8 0, .int .i64 0] 76 (0, 0)) ∨ p.heap[x]? = some (.cells #[.int .u8 (rr : Int), .int .i64 (ee : Int)] 76 (0, 0))), fun vv p => ∃ x, (vv 8) = .pointer (some ⟨x, 0, none⟩) ∧ q.heap.size ≤ x ∧ p.heap[x]? = some (.cells #[.int .u8 (rr : Int), .int .i64 (ee : Int)] 76 (0, 0)), fun vv p => (vv 10) = .bool nk] (by kernel_rfl) (by kernel_rfl) rfl ⟨rfl, trivial⟩ ((Below.refl _ _).drew) (by decide) (by kernel_rfl) (fun _ h => h) (fun _ _ h => h) (fun _ => SZ.refl _ _ _) ?_ ?_ ?_
  · exact ⟨fun _ _ _ _ h => h, fun _ _ _ _ h => h, fun _ _ _ _ h => h, fun _ _ _ _ h => h, fun _ _ _ _ h => h, fun _ _ _ _ h => h, fun _ _ _ _ h => h, fun _ _ _ _ h => h, fun _ _ _ hs h => by obtain ⟨x, e1, e2, e3⟩ := h; exact ⟨x, e1, e2, e3.elim (hs.1 x) (fun h => .inr (hs.2 x h))⟩, fun _ _ _ hs h => by obtain ⟨x, e1, e2, e3⟩ := h; exact ⟨x, e1, e2, hs.2 x e3⟩, fun _ _ _ _ h => h, trivial⟩
  · intro b0 hN hlv
    refine ⟨?_, ?_, ?_, ?_, ?_, ?_, ?_, ?_, ?_, ?_, ?_, trivial⟩
    · intro vs p hI0 hp
      have hI := Roll.inw_pure (by decide) rfl hI0
      clear hI0
      have e9 : (Roll.putD Dop7 vs [] b0).eval (.tmp 9) = .slice (some ⟨hb, ho, none⟩) 128 hc := (Roll.eval_old rfl).trans (hlv.at 0 (9, .slice (some ⟨hb, ho, none⟩) 128 hc) rfl)
      clear hp hlv hN
      unfold Roll.Goes
      simp only [Lop7, List.getD_cons_zero, List.getD_cons_succ]
      generalize Roll.putD Dop7 vs [] b0 = a1 at *
      refine Roll.goes_val (w' := p) (.slice (some ⟨hb, ho, none⟩) 128 hc) rfl ?_ ⟨(Roll.outw_pure (by decide) rfl), rfl⟩
      (have ec : ∀ x, a1.eval (.const x) = x := fun _ => rfl); (have ef : ∀ x, a1.eval (.func x) = .func (.func x) #[] #[] := fun _ => rfl); generalize a1.eval = ρ at *
      skip
      go_simp <;> (intros; first | (exfalso; omega) | rfl)
    · intro vs p hI0 hp
      have hI := Roll.inw_pure (by decide) rfl hI0
      clear hI0
      have h0 : (vs 0) = .slice (some ⟨hb, ho, none⟩) 128 hc := hp 0 (by simp [Lop7])
      have e36 : (Roll.putD Dop7 vs [0] b0).eval (.tmp 36) = .slice (some ⟨hb, ho, none⟩) 128 hc := (Roll.eval_new 0 rfl (by decide) (by decide) (by omega)).trans h0
      clear hp hlv hN
      unfold Roll.Goes
      simp only [Lop7, List.getD_cons_zero, List.getD_cons_succ]
      generalize Roll.putD Dop7 vs [0] b0 = a1 at *
      have hh := HHC.out.1
      refine Roll.goes_val (w' := p) (.slice (some ⟨hb, ho, none⟩) 64 hc) rfl ?_ ⟨(Roll.outw_pure (by decide) rfl), rfl⟩
      (have ec : ∀ x, a1.eval (.const x) = x := fun _ => rfl); (have ef : ∀ x, a1.eval (.func x) = .func (.func x) #[] #[] := fun _ => rfl); generalize a1.eval = ρ at *
      clear h0
      go_simp <;> (intros; first | (exfalso; omega) | rfl)
    · intro vs p hI0 hp
      have hI := Roll.inw_pure (by decide) rfl hI0
      clear hI0
      have e9 : (Roll.putD Dop7 vs [] b0).eval (.tmp 9) = .slice (some ⟨hb, ho, none⟩) 128 hc := (Roll.eval_old rfl).trans (hlv.at 0 (9, .slice (some ⟨hb, ho, none⟩) 128 hc) rfl)
      clear hp hlv hN
      unfold Roll.Goes
      simp only [Lop7, List.getD_cons_zero, List.getD_cons_succ]
      generalize Roll.putD Dop7 vs [] b0 = a1 at *
      refine Roll.goes_val (w' := p) (.slice (some ⟨hb, ho, none⟩) 128 hc) rfl ?_ ⟨(Roll.outw_pure (by decide) rfl), rfl⟩
      (have ec : ∀ x, a1.eval (.const x) = x := fun _ => rfl); (have ef : ∀ x, a1.eval (.func x) = .func (.func x) #[] #[] := fun _ => rfl); generalize a1.eval = ρ at *
      skip
      go_simp <;> (intros; first | (exfalso; omega) | rfl)
    · intro vs p hI0 hp
      have hI := Roll.inw_pure (by decide) rfl hI0
      clear hI0
      have h2 : (vs 2) = .slice (some ⟨hb, ho, none⟩) 128 hc := hp 2 (by simp [Lop7])
      have e38 : (Roll.putD Dop7 vs [2] b0).eval (.tmp 38) = .slice (some ⟨hb, ho, none⟩) 128 hc := (Roll.eval_new 2 rfl (by decide) (by decide) (by omega)).trans h2
      clear hp hlv hN
      unfold Roll.Goes
      simp only [Lop7, List.getD_cons_zero, List.getD_cons_succ]
      generalize Roll.putD Dop7 vs [2] b0 = a1 at *
      have hh := HHC.out.1
      have hh2 := HHC.out.2
      refine Roll.goes_val (w' := p) (.slice (some ⟨hb, ho + 64, none⟩) 64 (hc - 64)) rfl ?_ ⟨(Roll.outw_pure (by decide) rfl), rfl⟩
      (have ec : ∀ x, a1.eval (.const x) = x := fun _ => rfl); (have ef : ∀ x, a1.eval (.func x) = .func (.func x) #[] #[] := fun _ => rfl); generalize a1.eval = ρ at *
      clear h2
      go_simp <;> (intros; first | (exfalso; omega) | rfl)
    · intro vs p hI0 hp
      have hI := Roll.inw_pre (by decide) rfl hI0
      clear hI0
      have h1 : (vs 1) = .slice (some ⟨hb, ho, none⟩) 64 hc := hp 1 (by simp [Lop7])
      have h3 : (vs 3) = .slice (some ⟨hb, ho + 64, none⟩) 64 (hc - 64) := hp 3 (by simp [Lop7])
      have e37 : (Roll.putD Dop7 vs [1, 3] b0).eval (.tmp 37) = .slice (some ⟨hb, ho, none⟩) 64 hc := (Roll.eval_new 1 rfl (by decide) (by decide) (by omega)).trans h1
      have e39 : (Roll.putD Dop7 vs [1, 3] b0).eval (.tmp 39) = .slice (some ⟨hb, ho + 64, none⟩) 64 (hc - 64) := (Roll.eval_new 3 rfl (by decide) (by decide) (by omega)).trans h3
      clear hp hlv hN
      unfold Roll.Goes
      simp only [Lop7, List.getD_cons_zero, List.getD_cons_succ]
      generalize Roll.putD Dop7 vs [1, 3] b0 = a1 at *
      refine Roll.goes_call 47 #[.slice (some ⟨hb, ho, none⟩) 64 hc, .slice (some ⟨hb, ho + 64, none⟩) 64 (hc - 64)] p rfl (by have ec : ∀ x, a1.eval (.const x) = x := fun _ => rfl; have ef : ∀ x, a1.eval (.func x) = .func (.func x) #[] #[] := fun _ => rfl; generalize a1.eval = ρ at *; go_simp) ?_
      refine (newest_any _ _ _ _ _ _ f0 s0 p (HB1.out.kept (Kept.of_below (fun _ => False) hI) (fun _ _ _ h => h)) (HB2.out.kept (Kept.of_below (fun _ => False) hI) (fun _ _ _ h => h))).mono ?_
      rintro y p2 ⟨rfl, hbl⟩
      exact ⟨_, rfl, Roll.outw_pre (by decide) rfl (hI.trans (hbl.mono hI.size)) (SZ.of_below hbl), by show Value.tuple _ = Value.tuple _; rw [HRR.out, HEE.out, HNK.out]⟩
    · intro vs p hI0 hp
      have hI := Roll.inw_pure (by decide) rfl hI0
      clear hI0
      have h4 : (vs 4) = .tuple #[.agg #[.int .u8 (rr : Int), .int .i64 (ee : Int)], .bool nk] := hp 4 (by simp [Lop7])
      have e40 : (Roll.putD Dop7 vs [4] b0).eval (.tmp 40) = .tuple #[.agg #[.int .u8 (rr : Int), .int .i64 (ee : Int)], .bool nk] := (Roll.eval_new 4 rfl (by decide) (by decide) (by omega)).trans h4
      clear hp hlv hN
      unfold Roll.Goes
      simp only [Lop7, List.getD_cons_zero, List.getD_cons_succ]
      generalize Roll.putD Dop7 vs [4] b0 = a1 at *
      refine Roll.goes_val (w' := p) (.tuple #[.agg #[.int .u8 (rr : Int), .int .i64 (ee : Int)], .bool nk]) rfl ?_ ⟨(Roll.outw_pure (by decide) rfl), rfl⟩
      (have ec : ∀ x, a1.eval (.const x) = x := fun _ => rfl); (have ef : ∀ x, a1.eval (.func x) = .func (.func x) #[] #[] := fun _ => rfl); generalize a1.eval = ρ at *
      clear h4
      go_simp <;> (intros; first | (exfalso; omega) | rfl)
    · intro vs p hI0 hp
      have hI := Roll.inw_pure (by decide) rfl hI0
      clear hI0
      have h5 : (vs 5) = .tuple #[.agg #[.int .u8 (rr : Int), .int .i64 (ee : Int)], .bool nk] := hp 5 (by simp [Lop7])
      have e35 : (Roll.putD Dop7 vs [5] b0).eval (.tmp 35) = .tuple #[.agg #[.int .u8 (rr : Int), .int .i64 (ee : Int)], .bool nk] := (Roll.eval_new 5 rfl (by decide) (by decide) (by omega)).trans h5
      clear hp hlv hN
      unfold Roll.Goes
      simp only [Lop7, List.getD_cons_zero, List.getD_cons_succ]
      generalize Roll.putD Dop7 vs [5] b0 = a1 at *
      refine Roll.goes_val (w' := p) (.agg #[.int .u8 (rr : Int), .int .i64 (ee : Int)]) rfl ?_ ⟨(Roll.outw_pure (by decide) rfl), rfl⟩
      (have ec : ∀ x, a1.eval (.const x) = x := fun _ => rfl); (have ef : ∀ x, a1.eval (.func x) = .func (.func x) #[] #[] := fun _ => rfl); generalize a1.eval = ρ at *
      clear h5
      go_simp <;> (intros; first | (exfalso; omega) | rfl)
    · intro vs p hI0 hp
      have hI := Roll.inw_pure (by decide) rfl hI0
      clear hI0
      have h5 : (vs 5) = .tuple #[.agg #[.int .u8 (rr : Int), .int .i64 (ee : Int)], .bool nk] := hp 5 (by simp [Lop7])
      have e35 : (Roll.putD Dop7 vs [5] b0).eval (.tmp 35) = .tuple #[.agg #[.int .u8 (rr : Int), .int .i64 (ee : Int)], .bool nk] := (Roll.eval_new 5 rfl (by decide) (by decide) (by omega)).trans h5
      clear hp hlv hN
      unfold Roll.Goes
      simp only [Lop7, List.getD_cons_zero, List.getD_cons_succ]
      generalize Roll.putD Dop7 vs [5] b0 = a1 at *
      refine Roll.goes_val (w' := p) (.bool nk) rfl ?_ ⟨(Roll.outw_pure (by decide) rfl), rfl⟩
      (have ec : ∀ x, a1.eval (.const x) = x := fun _ => rfl); (have ef : ∀ x, a1.eval (.func x) = .func (.func x) #[] #[] := fun _ => rfl); generalize a1.eval = ρ at *
      clear h5
      go_simp <;> (intros; first | (exfalso; omega) | rfl)
    · intro vs p hI0 hp
      have hI := Roll.inw_pre (by decide) rfl hI0
      clear hI0
      clear hp hlv hN
      unfold Roll.Goes
      simp only [Lop7, List.getD_cons_zero, List.getD_cons_succ]
      generalize Roll.putD Dop7 vs [] b0 = a1 at *
      have hal : Below p.heap.size p (p.alloc (.cells #[.int .u8 0, .int .i64 0] 76)) := (Below.refl _ _).alloc (Nat.le_refl _) _
      refine Roll.goes_val (w' := p.alloc (.cells #[.int .u8 0, .int .i64 0] 76)) (.pointer (some ⟨p.heap.size, 0, none⟩)) rfl (by have ec : ∀ x, a1.eval (.const x) = x := fun _ => rfl; have ef : ∀ x, a1.eval (.func x) = .func (.func x) #[] #[] := fun _ => rfl; have hbs := run_allocS; generalize a1.eval = ρ at *; go_simp <;> (intros; first | (exfalso; omega) | rfl)) ⟨Roll.outw_pre (by decide) rfl (hI.trans (hal.mono hI.size)) (SZ.of_below hal), p.heap.size, rfl, hI.size, .inl (heap_new rfl)⟩
    · intro vs p hI0 hp
      have hI := Roll.inw_k0 rfl hI0
      clear hI0
      have h8 : ∃ x, (vs 8) = .pointer (some ⟨x, 0, none⟩) ∧ q.heap.size ≤ x ∧ (p.heap[x]? = some (.cells #[.int .u8 0, .int .i64 0] 76 (0, 0)) ∨ p.heap[x]? = some (.cells #[.int .u8 (rr : Int), .int .i64 (ee : Int)] 76 (0, 0))) := hp 8 (by simp [Lop7])
      have h6 : (vs 6) = .agg #[.int .u8 (rr : Int), .int .i64 (ee : Int)] := hp 6 (by simp [Lop7])
      have e11 : (Roll.putD Dop7 vs [8, 6] b0).eval (.tmp 11) = vs 8 := (Roll.eval_new 8 rfl (by decide) (by decide) (by omega))
      have e41 : (Roll.putD Dop7 vs [8, 6] b0).eval (.tmp 41) = .agg #[.int .u8 (rr : Int), .int .i64 (ee : Int)] := (Roll.eval_new 6 rfl (by decide) (by decide) (by omega)).trans h6
      clear hp hlv hN
      unfold Roll.Goes
      simp only [Lop7, List.getD_cons_zero, List.getD_cons_succ]
      generalize Roll.putD Dop7 vs [8, 6] b0 = a1 at *
      obtain ⟨x, hv8, hx, hz⟩ := h8
      rw [hv8] at e11
      rcases hz with hz | hz <;>
        (refine Roll.goes_store_row rfl 76 (.tmp 11) (.tmp 41) rfl x _ e11 e41 76 _ hz (sizeS _ _) rfl (oneS _ _) ?_
         exact ⟨Roll.outw_k0 rfl (below_setRow hI hx _) (SZ.of_set hz), x, hv8, hx, setRow_heap _ _ _ _ _ _ hz⟩)
    · intro vs p hI0 hp
      have hI := Roll.inw_pure (by decide) rfl hI0
      clear hI0
      have h7 : (vs 7) = .bool nk := hp 7 (by simp [Lop7])
      have e42 : (Roll.putD Dop7 vs [7] b0).eval (.tmp 42) = .bool nk := (Roll.eval_new 7 rfl (by decide) (by decide) (by omega)).trans h7
      clear hp hlv hN
      unfold Roll.Goes
      simp only [Lop7, List.getD_cons_zero, List.getD_cons_succ]
      generalize Roll.putD Dop7 vs [7] b0 = a1 at *
      refine Roll.goes_val (w' := p) (.bool nk) rfl ?_ ⟨(Roll.outw_pure (by decide) rfl), rfl⟩
      (have ec : ∀ x, a1.eval (.const x) = x := fun _ => rfl); (have ef : ∀ x, a1.eval (.func x) = .func (.func x) #[] #[] := fun _ => rfl); generalize a1.eval = ρ at *
      clear h7
      go_simp <;> (intros; first | (exfalso; omega) | rfl)
  · intro vs p hI hR
    have h0 : (vs 0) = .slice (some ⟨hb, ho, none⟩) 128 hc := hR 0 (by omega)
    have h1 : (vs 1) = .slice (some ⟨hb, ho, none⟩) 64 hc := hR 1 (by omega)
    have h2 : (vs 2) = .slice (some ⟨hb, ho, none⟩) 128 hc := hR 2 (by omega)
    have h3 : (vs 3) = .slice (some ⟨hb, ho + 64, none⟩) 64 (hc - 64) := hR 3 (by omega)
    have h4 : (vs 4) = .tuple #[.agg #[.int .u8 (rr : Int), .int .i64 (ee : Int)], .bool nk] := hR 4 (by omega)
    have h5 : (vs 5) = .tuple #[.agg #[.int .u8 (rr : Int), .int .i64 (ee : Int)], .bool nk] := hR 5 (by omega)
    have h6 : (vs 6) = .agg #[.int .u8 (rr : Int), .int .i64 (ee : Int)] := hR 6 (by omega)
    have h7 : (vs 7) = .bool nk := hR 7 (by omega)
    have h8 : ∃ x, (vs 8) = .pointer (some ⟨x, 0, none⟩) ∧ q.heap.size ≤ x ∧ (p.heap[x]? = some (.cells #[.int .u8 0, .int .i64 0] 76 (0, 0)) ∨ p.heap[x]? = some (.cells #[.int .u8 (rr : Int), .int .i64 (ee : Int)] 76 (0, 0))) := hR 8 (by omega)
    have h9 : ∃ x, (vs 8) = .pointer (some ⟨x, 0, none⟩) ∧ q.heap.size ≤ x ∧ p.heap[x]? = some (.cells #[.int .u8 (rr : Int), .int .i64 (ee : Int)] 76 (0, 0)) := hR 9 (by omega)
    have h10 : (vs 10) = .bool nk := hR 10 (by omega)
    clear hR
    simp only [List.range_succ, List.range_zero, List.nil_append, List.cons_append, Roll.putD, Act.put, List.getD_cons_zero, List.getD_cons_succ, List.setIfInBounds_toArray, List.set_cons_zero, List.set_cons_succ, List.drop_succ_cons, List.drop_zero, Dop7]
    simp only [h0, h1, h2, h3, h4, h5, h6, h7, h10]
    clear h0 h1 h2 h3 h4 h5 h6 h7 h10
    clear h8
    generalize vs 8 = v8 at *
    obtain ⟨g11, rfl, hg11, hz11⟩ := h9
    have HBp := Lib.hid hI
    have HL3 := Lib.hid (HL2.out.cons hI (o := stateO g11 rr ee) (B := fun x => x = g11) ⟨hz11, rfl⟩ (fun x hx => by subst hx; exact ⟨hg11, (Array.getElem?_eq_some_iff.1 hz11).1⟩))
    have HZ11 := Lib.hid hz11
    have HG11 := Lib.hid hg11
    have c111 : p.cell? ⟨g11, 1, none⟩ = some (.int .i64 (ee : Int)) := by rw [cell_of_row p g11 1 _ _ _ hz11]; rfl
    clear hI hz11 hg11 HL2
    rcases HBAD.out with hb | hb
    · subst hb
      go_wp2_with fail
      go_ret2
      exact ⟨rfl, HL3.out.tail.tail.tail⟩
    · cases nk with
      | false =>
        go_wp2_with fail
        go_ret2
        exact ⟨rfl, HL3.out.tail.tail.tail⟩
      | true =>
        have hb1 : ((n * 64 : Nat) : Int) < (ee : Int) := by omega
        have hb2 : (n : Int) * 64 < (ee : Int) := by omega
        go_wp2_with fail
        go_ret2
        exact ⟨rfl, HL3.out.tail.tail.tail⟩
set_option maxRecDepth 100000 in
set_option maxHeartbeats 8000000 in
theorem open_ok (h : Lv w0 w L) (hj : L[j]? = some (diskO g d)) (f n : Nat) (hf : f ≤ 4096) (hn : n ≤ 4096) (hv : validB d.S.length f n = true) (ho : d.on = true) (rs : List (List UInt8)) (cnt : Nat) (hgood : newOk (lastB (d.S.getD f [])) (lastB (d.S.getD (f + 1) [])) = true ∧ endF (newS (lastB (d.S.getD f [])) (lastB (d.S.getD (f + 1) []))) = 128 + lenB rs) (hen : 128 + lenB rs ≤ n * 64) (hcn : lenB rs ≤ cnt * 64 ∧ cnt * 64 < lenB rs + 64) (hjb : (secsB d (f + 2) cnt).take (lenB rs) = joinB rs) (h64 : ∀ r ∈ rs, r.length < 65536) (htk : takR rs ≤ 1000000000) (hrlb : rs.length ≤ 1000000) :
    Calls Try.prog 18 #[.pointer (some ⟨g, 0, none⟩), .int .i64 (f : Int), .int .i64 (n : Int)] w fun x w' => ∃ gl, x = .returned (.tuple #[.pointer (some ⟨gl, 0, none⟩), .int .i64 0]) ∧ Lv w0 w' (logO gl g ⟨f, n, bN (newS (lastB (d.S.getD f [])) (lastB (d.S.getD (f + 1) []))) 0, 128 + lenB rs, rs, rs.length, takR rs⟩ :: L) := by
  have H64 := Lib.hid h64
  clear h64
  have hd1 : 4 ≤ (n : Int) ∧ 0 ≤ (f : Int) ∧ (n : Int) ≤ (d.S.length : Int) - (f : Int) := by unfold validB at hv; exact of_decide_eq_true hv
  have HC := Lib.hid (valid_lv h hj f n (by omega) (by omega) (by omega) (by omega))
  rw [hv] at HC
  obtain ⟨w1, hw1⟩ : ∃ w1, w1 = w.alloc (.cells #[.pointer (some ⟨g, 0, none⟩), .int .i64 (f : Int), .int .i64 (n : Int), .int .u8 0, .int .i64 0, .slice none 0 0, .int .i64 0, .int .i64 0] 78) := ⟨_, rfl⟩
  obtain ⟨gl, hgl⟩ : ∃ gl, gl = w.heap.size := ⟨_, rfl⟩
  have HL1 : Hid (Lv w0 w1 (logO gl g (LM.new f n) :: L)) := Lib.hid (by rw [hw1, hgl]; exact h.logNew g f n)
  have hbl := run_buildL g f n
  have HW1 := Lib.hid hw1
  have HGL := Lib.hid hgl
  have HJ := Lib.hid hj
  have HON := Lib.hid ho
  have HFN : Hid (f + n ≤ d.S.length ∧ 4 ≤ n ∧ d.S.length ≤ 4096) := Lib.hid ⟨by omega, by omega, (h.ok hj).2.1⟩
  have h64 := (h.ok hj).2.2.2
  have h6 : ∀ k, k < d.S.length → (lastB (d.S.getD k [])).length = 64 := fun k hk => by
    rw [List.getD_eq_getElem?_getD, List.getElem?_eq_getElem hk, Option.getD_some]
    have := h64 _ (List.getElem_mem hk)
    exact this.2 _ (lastB_mem this.1)
  obtain ⟨f0, hf0⟩ : ∃ f0, f0 = lastB (d.S.getD f []) := ⟨_, rfl⟩
  obtain ⟨s0, hs0⟩ : ∃ s0, s0 = lastB (d.S.getD (f + 1) []) := ⟨_, rfl⟩
  have hf0l : f0.length = 64 := by rw [hf0]; exact h6 _ (by omega)
  have hs0l : s0.length = 64 := by rw [hs0]; exact h6 _ (by omega)
  obtain ⟨hd, hhd⟩ : ∃ hd, hd = f0 ++ s0 := ⟨_, rfl⟩
  have hsec : (secsB d (f + 0) 2).take (128 - 0 * 64) = hd := by
    have e1 : secsB d (f + 0) 2 = hd := by rw [hhd, hf0, hs0]; simp [secsB, List.range_succ]
    rw [e1]
    exact List.take_of_length_le (by rw [hhd, List.length_append, hf0l, hs0l]; omega)
  rw [← hf0, ← hs0] at hgood ⊢
  obtain ⟨rr, hrr⟩ : ∃ rr, rr = bN (newS f0 s0) 0 := ⟨_, rfl⟩
  obtain ⟨ee, hee⟩ : ∃ ee, ee = endF (newS f0 s0) := ⟨_, rfl⟩
  obtain ⟨nk, hnk⟩ : ∃ nk, nk = newOk f0 s0 := ⟨_, rfl⟩
  have HRR := Lib.hid hrr.symm
  have HEE := Lib.hid hee.symm
  have HNK := Lib.hid hnk.symm
  have hrrb : rr < 256 := by rw [hrr]; exact bN_lt _ _
  have heeb : ee < 16777216 := by
    rw [hee]; unfold endF
    have e1 := bN_lt (newS f0 s0) 1
    have e2 := bN_lt (newS f0 s0) 2
    have e3 := bN_lt (newS f0 s0) 3
    omega
  have hwn : IntKind.i64.wrap ((n : Int) * 64) = (n : Int) * 64 := i64_id _ (by omega) (by omega)
  have HRD0 : Hid (Calls Try.prog 46 #[.pointer (some ⟨gl, 0, none⟩), .int .i64 0, .int .i64 128] w1 fun x w' => ∃ v, x = .returned (.tuple #[v, .int .i64 0]) ∧ Lv w0 w' (bytesO v hd :: logO gl g (LM.new f n) :: L)) := Lib.hid (by
    have := read_log HL1.out (ii := 0) (j := j + 1) rfl (by simpa using hj) 0 128 2 (by omega) (by omega) (by omega) (by omega) (show f + 0 + 2 ≤ d.S.length by omega) ho
    rw [show (secsB d ((LM.new f n).frm + 0) 2).take (128 - 0 * 64) = hd from hsec] at this
    exact this)
  have hhl : hd.length = 128 := by rw [hhd, List.length_append, hf0l, hs0l]
  have HHD : Hid (hd.take 64 = f0 ∧ hd.drop 64 = s0) := Lib.hid ⟨by rw [hhd, ← hf0l, List.take_left], by rw [hhd, ← hf0l, List.drop_left]⟩
  have HHL := Lib.hid hhl
  rw [← hrr]
  have hk1 : nk = true := by rw [hnk]; exact hgood.1
  have hee2 : ee = 128 + lenB rs := by rw [hee]; exact hgood.2
  rw [← hee2]
  have HEN : Hid (128 ≤ ee ∧ ee ≤ n * 64) := Lib.hid (by omega)
  have HCNT : Hid (ee - 128 ≤ cnt * 64 ∧ cnt * 64 < ee - 128 + 64) := Lib.hid (by omega)
  have HJB : Hid ((secsB d (f + 2) cnt).take (ee - 2 * 64) = joinB rs) := Lib.hid (by rw [show ee - 2 * 64 = lenB rs by omega]; exact hjb)
  have HLB : Hid (lenB rs ≤ 1000000) := Lib.hid (by omega)
  have HTAK := Lib.hid htk
  have HRLB := Lib.hid hrlb
  clear h hj hv ho hw1 hgl hd1 h64 h6 hf0 hs0 hf0l hs0l hhd hsec hgood hrr hee hnk hhl hee2 hen hcn hjb htk hrlb
  subst hk1
  go_enter Try.func18, Try.ntmps18
  go_upto_region 4 with (go_at_call 40; refine HC.out.mono ?_; rintro e w2 ⟨rfl, rfl⟩; clear HC)
  rw [← HW1.out, ← HGL.out]
  go_upto_region 5 with (go_at_call 46; refine HRD0.out.mono ?_; rintro x q ⟨v, rfl, hl2⟩; have HL2 := Lib.hid hl2; clear hl2 HRD0)
  obtain ⟨BB, ⟨ah, hc, e9, hbs⟩, -, -, -⟩ := HL2.out.get (i := 0) rfl
  rw [HHL.out] at e9 hbs
  subst e9
  obtain ⟨hb, ho, -, -, rfl, -⟩ := hbs.cells (by omega)
  have hc1 : 128 ≤ hc := hbs.2.2.1
  have hc2 : hc ≤ 9223372036854775807 := hbs.2.2.2.1
  have HB1 : Hid (Bs BB q (some ⟨hb, ho, none⟩) 64 hc f0) := Lib.hid (by have := hbs.upto 64 (by omega); rwa [HHD.out.1] at this)
  have HB2 : Hid (Bs BB q (some ⟨hb, ho + 64, none⟩) 64 (hc - 64) s0) := Lib.hid (by have := hbs.past 64 (by omega); rwa [HHD.out.2] at this)
  have HHC : Hid (¬ hc = 64 ∧ (64 : Int) ≤ (hc : Int)) := Lib.hid ⟨by omega, by omega⟩
  clear hbs
  go_wp2_with fail
  refine Roll.region_w 11 100 Dop7 Lop7 [(9, .slice (some ⟨hb, ho, none⟩) 128 hc)] 9 [true, true, true, true, false, true, true, true, false, false, true] (fun p => Below q.heap.size q p) (fun vv p => Below q.heap.size q p) (fun p => Below q.heap.size q p) (SZ rr ee) [fun vv p => (vv 0) = .slice (some ⟨hb, ho, none⟩) 128 hc, fun vv p => (vv 1) = .slice (some ⟨hb, ho, none⟩) 64 hc, fun vv p => (vv 2) = .slice (some ⟨hb, ho, none⟩) 128 hc, fun vv p => (vv 3) = .slice (some ⟨hb, ho + 64, none⟩) 64 (hc - 64), fun vv p => (vv 4) = .tuple #[.agg #[.int .u8 (rr : Int), .int .i64 (ee : Int)], .bool true], fun vv p => (vv 5) = .tuple #[.agg #[.int .u8 (rr : Int), .int .i64 (ee : Int)], .bool true], fun vv p => (vv 6) = .agg #[.int .u8 (rr : Int), .int .i64 (ee : Int)], fun vv p => (vv 7) = .bool true, fun vv p => ∃ x, (vv 8) = .pointer (some ⟨x, 0, none⟩) ∧ q.heap.size ≤ x ∧ (p.heap[x]? = some (.cells #[.int .u8 0, .int .i64 0] 76 (0, 0)) ∨ p.heap[x]? = some (.cells #[.int .u8 (rr : Int), .int .i64 (ee : Int)] 76 (0, 0))), fun vv p => ∃ x, (vv 8) = .pointer (some ⟨x, 0, none⟩) ∧ q.heap.size ≤ x ∧ p.heap[x]? = some (.cells #[.int .u8 (rr : Int), .int .i64 (ee : Int)] 76 (0, 0)), fun vv p => (vv 10) = .bool true] (by kernel_rfl) (by kernel_rfl) rfl ⟨rfl, trivial⟩ ((Below.refl _ _).drew) (by decide) (by kernel_rfl) (fun _ h => h) (fun _ _ h => h) (fun _ => SZ.refl _ _ _) ?_ ?_ ?_
  · exact ⟨fun _ _ _ _ h => h, fun _ _ _ _ h => h, fun _ _ _ _ h => h, fun _ _ _ _ h => h, fun _ _ _ _ h => h, fun _ _ _ _ h => h, fun _ _ _ _ h => h, fun _ _ _ _ h => h, fun _ _ _ hs h => by obtain ⟨x, e1, e2, e3⟩ := h; exact ⟨x, e1, e2, e3.elim (hs.1 x) (fun h => .inr (hs.2 x h))⟩, fun _ _ _ hs h => by obtain ⟨x, e1, e2, e3⟩ := h; exact ⟨x, e1, e2, hs.2 x e3⟩, fun _ _ _ _ h => h, trivial⟩
  · intro b0 hN hlv
    refine ⟨?_, ?_, ?_, ?_, ?_, ?_, ?_, ?_, ?_, ?_, ?_, trivial⟩
    · intro vs p hI0 hp
      have hI := Roll.inw_pure (by decide) rfl hI0
      clear hI0
      have e9 : (Roll.putD Dop7 vs [] b0).eval (.tmp 9) = .slice (some ⟨hb, ho, none⟩) 128 hc := (Roll.eval_old rfl).trans (hlv.at 0 (9, .slice (some ⟨hb, ho, none⟩) 128 hc) rfl)
      clear hp hlv hN
      unfold Roll.Goes
      simp only [Lop7, List.getD_cons_zero, List.getD_cons_succ]
      generalize Roll.putD Dop7 vs [] b0 = a1 at *
      refine Roll.goes_val (w' := p) (.slice (some ⟨hb, ho, none⟩) 128 hc) rfl ?_ ⟨(Roll.outw_pure (by decide) rfl), rfl⟩
      (have ec : ∀ x, a1.eval (.const x) = x := fun _ => rfl); (have ef : ∀ x, a1.eval (.func x) = .func (.func x) #[] #[] := fun _ => rfl); generalize a1.eval = ρ at *
      skip
      go_simp <;> (intros; first | (exfalso; omega) | rfl)
    · intro vs p hI0 hp
      have hI := Roll.inw_pure (by decide) rfl hI0
      clear hI0
      have h0 : (vs 0) = .slice (some ⟨hb, ho, none⟩) 128 hc := hp 0 (by simp [Lop7])
      have e36 : (Roll.putD Dop7 vs [0] b0).eval (.tmp 36) = .slice (some ⟨hb, ho, none⟩) 128 hc := (Roll.eval_new 0 rfl (by decide) (by decide) (by omega)).trans h0
      clear hp hlv hN
      unfold Roll.Goes
      simp only [Lop7, List.getD_cons_zero, List.getD_cons_succ]
      generalize Roll.putD Dop7 vs [0] b0 = a1 at *
      have hh := HHC.out.1
      refine Roll.goes_val (w' := p) (.slice (some ⟨hb, ho, none⟩) 64 hc) rfl ?_ ⟨(Roll.outw_pure (by decide) rfl), rfl⟩
      (have ec : ∀ x, a1.eval (.const x) = x := fun _ => rfl); (have ef : ∀ x, a1.eval (.func x) = .func (.func x) #[] #[] := fun _ => rfl); generalize a1.eval = ρ at *
      clear h0
      go_simp <;> (intros; first | (exfalso; omega) | rfl)
    · intro vs p hI0 hp
      have hI := Roll.inw_pure (by decide) rfl hI0
      clear hI0
      have e9 : (Roll.putD Dop7 vs [] b0).eval (.tmp 9) = .slice (some ⟨hb, ho, none⟩) 128 hc := (Roll.eval_old rfl).trans (hlv.at 0 (9, .slice (some ⟨hb, ho, none⟩) 128 hc) rfl)
      clear hp hlv hN
      unfold Roll.Goes
      simp only [Lop7, List.getD_cons_zero, List.getD_cons_succ]
      generalize Roll.putD Dop7 vs [] b0 = a1 at *
      refine Roll.goes_val (w' := p) (.slice (some ⟨hb, ho, none⟩) 128 hc) rfl ?_ ⟨(Roll.outw_pure (by decide) rfl), rfl⟩
      (have ec : ∀ x, a1.eval (.const x) = x := fun _ => rfl); (have ef : ∀ x, a1.eval (.func x) = .func (.func x) #[] #[] := fun _ => rfl); generalize a1.eval = ρ at *
      skip
      go_simp <;> (intros; first | (exfalso; omega) | rfl)
    · intro vs p hI0 hp
      have hI := Roll.inw_pure (by decide) rfl hI0
      clear hI0
      have h2 : (vs 2) = .slice (some ⟨hb, ho, none⟩) 128 hc := hp 2 (by simp [Lop7])
      have e38 : (Roll.putD Dop7 vs [2] b0).eval (.tmp 38) = .slice (some ⟨hb, ho, none⟩) 128 hc := (Roll.eval_new 2 rfl (by decide) (by decide) (by omega)).trans h2
      clear hp hlv hN
      unfold Roll.Goes
      simp only [Lop7, List.getD_cons_zero, List.getD_cons_succ]
      generalize Roll.putD Dop7 vs [2] b0 = a1 at *
      have hh := HHC.out.1
      have hh2 := HHC.out.2
      refine Roll.goes_val (w' := p) (.slice (some ⟨hb, ho + 64, none⟩) 64 (hc - 64)) rfl ?_ ⟨(Roll.outw_pure (by decide) rfl), rfl⟩
      (have ec : ∀ x, a1.eval (.const x) = x := fun _ => rfl); (have ef : ∀ x, a1.eval (.func x) = .func (.func x) #[] #[] := fun _ => rfl); generalize a1.eval = ρ at *
      clear h2
      go_simp <;> (intros; first | (exfalso; omega) | rfl)
    · intro vs p hI0 hp
      have hI := Roll.inw_pre (by decide) rfl hI0
      clear hI0
      have h1 : (vs 1) = .slice (some ⟨hb, ho, none⟩) 64 hc := hp 1 (by simp [Lop7])
      have h3 : (vs 3) = .slice (some ⟨hb, ho + 64, none⟩) 64 (hc - 64) := hp 3 (by simp [Lop7])
      have e37 : (Roll.putD Dop7 vs [1, 3] b0).eval (.tmp 37) = .slice (some ⟨hb, ho, none⟩) 64 hc := (Roll.eval_new 1 rfl (by decide) (by decide) (by omega)).trans h1
      have e39 : (Roll.putD Dop7 vs [1, 3] b0).eval (.tmp 39) = .slice (some ⟨hb, ho + 64, none⟩) 64 (hc - 64) := (Roll.eval_new 3 rfl (by decide) (by decide) (by omega)).trans h3
      clear hp hlv hN
      unfold Roll.Goes
      simp only [Lop7, List.getD_cons_zero, List.getD_cons_succ]
      generalize Roll.putD Dop7 vs [1, 3] b0 = a1 at *
      refine Roll.goes_call 47 #[.slice (some ⟨hb, ho, none⟩) 64 hc, .slice (some ⟨hb, ho + 64, none⟩) 64 (hc - 64)] p rfl (by have ec : ∀ x, a1.eval (.const x) = x := fun _ => rfl; have ef : ∀ x, a1.eval (.func x) = .func (.func x) #[] #[] := fun _ => rfl; generalize a1.eval = ρ at *; go_simp) ?_
      refine (newest_any _ _ _ _ _ _ f0 s0 p (HB1.out.kept (Kept.of_below (fun _ => False) hI) (fun _ _ _ h => h)) (HB2.out.kept (Kept.of_below (fun _ => False) hI) (fun _ _ _ h => h))).mono ?_
      rintro y p2 ⟨rfl, hbl⟩
      exact ⟨_, rfl, Roll.outw_pre (by decide) rfl (hI.trans (hbl.mono hI.size)) (SZ.of_below hbl), by show Value.tuple _ = Value.tuple _; rw [HRR.out, HEE.out, HNK.out]⟩
    · intro vs p hI0 hp
      have hI := Roll.inw_pure (by decide) rfl hI0
      clear hI0
      have h4 : (vs 4) = .tuple #[.agg #[.int .u8 (rr : Int), .int .i64 (ee : Int)], .bool true] := hp 4 (by simp [Lop7])
      have e40 : (Roll.putD Dop7 vs [4] b0).eval (.tmp 40) = .tuple #[.agg #[.int .u8 (rr : Int), .int .i64 (ee : Int)], .bool true] := (Roll.eval_new 4 rfl (by decide) (by decide) (by omega)).trans h4
      clear hp hlv hN
      unfold Roll.Goes
      simp only [Lop7, List.getD_cons_zero, List.getD_cons_succ]
      generalize Roll.putD Dop7 vs [4] b0 = a1 at *
      refine Roll.goes_val (w' := p) (.tuple #[.agg #[.int .u8 (rr : Int), .int .i64 (ee : Int)], .bool true]) rfl ?_ ⟨(Roll.outw_pure (by decide) rfl), rfl⟩
      (have ec : ∀ x, a1.eval (.const x) = x := fun _ => rfl); (have ef : ∀ x, a1.eval (.func x) = .func (.func x) #[] #[] := fun _ => rfl); generalize a1.eval = ρ at *
      clear h4
      go_simp <;> (intros; first | (exfalso; omega) | rfl)
    · intro vs p hI0 hp
      have hI := Roll.inw_pure (by decide) rfl hI0
      clear hI0
      have h5 : (vs 5) = .tuple #[.agg #[.int .u8 (rr : Int), .int .i64 (ee : Int)], .bool true] := hp 5 (by simp [Lop7])
      have e35 : (Roll.putD Dop7 vs [5] b0).eval (.tmp 35) = .tuple #[.agg #[.int .u8 (rr : Int), .int .i64 (ee : Int)], .bool true] := (Roll.eval_new 5 rfl (by decide) (by decide) (by omega)).trans h5
      clear hp hlv hN
      unfold Roll.Goes
      simp only [Lop7, List.getD_cons_zero, List.getD_cons_succ]
      generalize Roll.putD Dop7 vs [5] b0 = a1 at *
      refine Roll.goes_val (w' := p) (.agg #[.int .u8 (rr : Int), .int .i64 (ee : Int)]) rfl ?_ ⟨(Roll.outw_pure (by decide) rfl), rfl⟩
      (have ec : ∀ x, a1.eval (.const x) = x := fun _ => rfl); (have ef : ∀ x, a1.eval (.func x) = .func (.func x) #[] #[] := fun _ => rfl); generalize a1.eval = ρ at *
      clear h5
      go_simp <;> (intros; first | (exfalso; omega) | rfl)
    · intro vs p hI0 hp
      have hI := Roll.inw_pure (by decide) rfl hI0
      clear hI0
      have h5 : (vs 5) = .tuple #[.agg #[.int .u8 (rr : Int), .int .i64 (ee : Int)], .bool true] := hp 5 (by simp [Lop7])
      have e35 : (Roll.putD Dop7 vs [5] b0).eval (.tmp 35) = .tuple #[.agg #[.int .u8 (rr : Int), .int .i64 (ee : Int)], .bool true] := (Roll.eval_new 5 rfl (by decide) (by decide) (by omega)).trans h5
      clear hp hlv hN
      unfold Roll.Goes
      simp only [Lop7, List.getD_cons_zero, List.getD_cons_succ]
      generalize Roll.putD Dop7 vs [5] b0 = a1 at *
      refine Roll.goes_val (w' := p) (.bool true) rfl ?_ ⟨(Roll.outw_pure (by decide) rfl), rfl⟩
      (have ec : ∀ x, a1.eval (.const x) = x := fun _ => rfl); (have ef : ∀ x, a1.eval (.func x) = .func (.func x) #[] #[] := fun _ => rfl); generalize a1.eval = ρ at *
      clear h5
      go_simp <;> (intros; first | (exfalso; omega) | rfl)
    · intro vs p hI0 hp
      have hI := Roll.inw_pre (by decide) rfl hI0
      clear hI0
      clear hp hlv hN
      unfold Roll.Goes
      simp only [Lop7, List.getD_cons_zero, List.getD_cons_succ]
      generalize Roll.putD Dop7 vs [] b0 = a1 at *
      have hal : Below p.heap.size p (p.alloc (.cells #[.int .u8 0, .int .i64 0] 76)) := (Below.refl _ _).alloc (Nat.le_refl _) _
      refine Roll.goes_val (w' := p.alloc (.cells #[.int .u8 0, .int .i64 0] 76)) (.pointer (some ⟨p.heap.size, 0, none⟩)) rfl (by have ec : ∀ x, a1.eval (.const x) = x := fun _ => rfl; have ef : ∀ x, a1.eval (.func x) = .func (.func x) #[] #[] := fun _ => rfl; have hbs := run_allocS; generalize a1.eval = ρ at *; go_simp <;> (intros; first | (exfalso; omega) | rfl)) ⟨Roll.outw_pre (by decide) rfl (hI.trans (hal.mono hI.size)) (SZ.of_below hal), p.heap.size, rfl, hI.size, .inl (heap_new rfl)⟩
    · intro vs p hI0 hp
      have hI := Roll.inw_k0 rfl hI0
      clear hI0
      have h8 : ∃ x, (vs 8) = .pointer (some ⟨x, 0, none⟩) ∧ q.heap.size ≤ x ∧ (p.heap[x]? = some (.cells #[.int .u8 0, .int .i64 0] 76 (0, 0)) ∨ p.heap[x]? = some (.cells #[.int .u8 (rr : Int), .int .i64 (ee : Int)] 76 (0, 0))) := hp 8 (by simp [Lop7])
      have h6 : (vs 6) = .agg #[.int .u8 (rr : Int), .int .i64 (ee : Int)] := hp 6 (by simp [Lop7])
      have e11 : (Roll.putD Dop7 vs [8, 6] b0).eval (.tmp 11) = vs 8 := (Roll.eval_new 8 rfl (by decide) (by decide) (by omega))
      have e41 : (Roll.putD Dop7 vs [8, 6] b0).eval (.tmp 41) = .agg #[.int .u8 (rr : Int), .int .i64 (ee : Int)] := (Roll.eval_new 6 rfl (by decide) (by decide) (by omega)).trans h6
      clear hp hlv hN
      unfold Roll.Goes
      simp only [Lop7, List.getD_cons_zero, List.getD_cons_succ]
      generalize Roll.putD Dop7 vs [8, 6] b0 = a1 at *
      obtain ⟨x, hv8, hx, hz⟩ := h8
      rw [hv8] at e11
      rcases hz with hz | hz <;>
        (refine Roll.goes_store_row rfl 76 (.tmp 11) (.tmp 41) rfl x _ e11 e41 76 _ hz (sizeS _ _) rfl (oneS _ _) ?_
         exact ⟨Roll.outw_k0 rfl (below_setRow hI hx _) (SZ.of_set hz), x, hv8, hx, setRow_heap _ _ _ _ _ _ hz⟩)
    · intro vs p hI0 hp
      have hI := Roll.inw_pure (by decide) rfl hI0
      clear hI0
      have h7 : (vs 7) = .bool true := hp 7 (by simp [Lop7])
      have e42 : (Roll.putD Dop7 vs [7] b0).eval (.tmp 42) = .bool true := (Roll.eval_new 7 rfl (by decide) (by decide) (by omega)).trans h7
      clear hp hlv hN
      unfold Roll.Goes
      simp only [Lop7, List.getD_cons_zero, List.getD_cons_succ]
      generalize Roll.putD Dop7 vs [7] b0 = a1 at *
      refine Roll.goes_val (w' := p) (.bool true) rfl ?_ ⟨(Roll.outw_pure (by decide) rfl), rfl⟩
      (have ec : ∀ x, a1.eval (.const x) = x := fun _ => rfl); (have ef : ∀ x, a1.eval (.func x) = .func (.func x) #[] #[] := fun _ => rfl); generalize a1.eval = ρ at *
      clear h7
      go_simp <;> (intros; first | (exfalso; omega) | rfl)
  · intro vs p hI hR
    have h0 : (vs 0) = .slice (some ⟨hb, ho, none⟩) 128 hc := hR 0 (by omega)
    have h1 : (vs 1) = .slice (some ⟨hb, ho, none⟩) 64 hc := hR 1 (by omega)
    have h2 : (vs 2) = .slice (some ⟨hb, ho, none⟩) 128 hc := hR 2 (by omega)
    have h3 : (vs 3) = .slice (some ⟨hb, ho + 64, none⟩) 64 (hc - 64) := hR 3 (by omega)
    have h4 : (vs 4) = .tuple #[.agg #[.int .u8 (rr : Int), .int .i64 (ee : Int)], .bool true] := hR 4 (by omega)
    have h5 : (vs 5) = .tuple #[.agg #[.int .u8 (rr : Int), .int .i64 (ee : Int)], .bool true] := hR 5 (by omega)
    have h6 : (vs 6) = .agg #[.int .u8 (rr : Int), .int .i64 (ee : Int)] := hR 6 (by omega)
    have h7 : (vs 7) = .bool true := hR 7 (by omega)
    have h8 : ∃ x, (vs 8) = .pointer (some ⟨x, 0, none⟩) ∧ q.heap.size ≤ x ∧ (p.heap[x]? = some (.cells #[.int .u8 0, .int .i64 0] 76 (0, 0)) ∨ p.heap[x]? = some (.cells #[.int .u8 (rr : Int), .int .i64 (ee : Int)] 76 (0, 0))) := hR 8 (by omega)
    have h9 : ∃ x, (vs 8) = .pointer (some ⟨x, 0, none⟩) ∧ q.heap.size ≤ x ∧ p.heap[x]? = some (.cells #[.int .u8 (rr : Int), .int .i64 (ee : Int)] 76 (0, 0)) := hR 9 (by omega)
    have h10 : (vs 10) = .bool true := hR 10 (by omega)
    clear hR
    simp only [List.range_succ, List.range_zero, List.nil_append, List.cons_append, Roll.putD, Act.put, List.getD_cons_zero, List.getD_cons_succ, List.setIfInBounds_toArray, List.set_cons_zero, List.set_cons_succ, List.drop_succ_cons, List.drop_zero, Dop7]
    simp only [h0, h1, h2, h3, h4, h5, h6, h7, h10]
    clear h0 h1 h2 h3 h4 h5 h6 h7 h10
    clear h8
    generalize vs 8 = v8 at *
    obtain ⟨g11, rfl, hg11, hz11⟩ := h9
    have HBp := Lib.hid hI
    have HL3 := Lib.hid (HL2.out.cons hI (o := stateO g11 rr ee) (B := fun x => x = g11) ⟨hz11, rfl⟩ (fun x hx => by subst hx; exact ⟨hg11, (Array.getElem?_eq_some_iff.1 hz11).1⟩))
    have HZ11 := Lib.hid hz11
    have HG11 := Lib.hid hg11
    have c111 : p.cell? ⟨g11, 1, none⟩ = some (.int .i64 (ee : Int)) := by rw [cell_of_row p g11 1 _ _ _ hz11]; rfl
    clear hI hz11 hg11 HL2
    have hb2 : (ee : Int) ≤ (n : Int) * 64 := by have := HEN.out; omega
    go_upto_region 10 with fail
    have hi3 : (stateO g11 rr ee :: bytesO (.slice (some ⟨hb, ho, none⟩) 128 hc) hd :: logO gl g (LM.new f n) :: L)[2]? = some (logO gl g (LM.new f n)) := rfl
    have hj3 : (stateO g11 rr ee :: bytesO (.slice (some ⟨hb, ho, none⟩) 128 hc) hd :: logO gl g (LM.new f n) :: L)[j + 3]? = some (diskO g d) := by simpa using HJ.out
    have HRD : Hid (Calls Try.prog 46 #[.pointer (some ⟨gl, 0, none⟩), .int .i64 128, .int .i64 (ee : Int)] p fun x w' => ∃ v, x = .returned (.tuple #[v, .int .i64 0]) ∧ Lv w0 w' (bytesO v (joinB rs) :: stateO g11 rr ee :: bytesO (.slice (some ⟨hb, ho, none⟩) 128 hc) hd :: logO gl g (LM.new f n) :: L)) := Lib.hid (by
      have hh := HEN.out
      have hf := HFN.out
      have hcc := HCNT.out
      have := read_log HL3.out hi3 hj3 2 ee cnt (by omega) (by omega) (by omega) (by omega) (show f + 2 + cnt ≤ d.S.length by omega) HON.out
      rw [show (secsB d ((LM.new f n).frm + 2) cnt).take (ee - 2 * 64) = joinB rs from HJB.out] at this
      exact this)
    clear hi3 hj3
    go_upto_region 11 with (go_at_call 46; refine HRD.out.mono ?_; rintro x w3 ⟨v3, rfl, hl4⟩; have HL4 := Lib.hid hl4; clear hl4 HRD)
    have hj4 := HL4.out.join (i := 3) (j := 0) (by omega) rfl rfl
    obtain ⟨B, ⟨B1, B2, ⟨kl, Bl, vl, hlg, hlB⟩, ⟨a3, c3, e3, hbs⟩, hdis, hs1, hs2⟩, hblt, _, hset⟩ := hj4.get (i := 3) rfl
    subst e3
    have hglw : gl < w3.heap.size := hlg.blk_lt gl (.inl rfl)
    have hB2gl : ¬ B2 gl := hdis gl (hlB gl (.inl rfl))
    have HSET := Lib.hid hset
    have HLG := Lib.hid hlg
    have HBGL : Hid (B gl) := Lib.hid (hs1 gl (hlB gl (.inl rfl)))
    have HB2B := Lib.hid hs2
    have HBS := Lib.hid hbs
    have HB2GL := Lib.hid hB2gl
    have HGLW := Lib.hid hglw
    clear hj4 hlg hlB hbs hdis hs1 hs2 hblt hset hB2gl hglw
    go_upto_region 14 with (go_at_call 48; refine (split_any B2 _ _ _ rs _ HBS.out H64.out HLB.out).mono ?_; rintro x w4 ⟨v5, k5, rfl, hrc, hk5, hb4⟩; have HRC := Lib.hid hrc; have HK5 := Lib.hid hk5; have HB4 := Lib.hid hb4; have HL5 := Lib.hid (HL4.out.below hb4); clear hrc hk5 hb4 HL4)
    obtain ⟨a5, c5, rfl, hc51, hc52⟩ := HRC.out.shape
    obtain ⟨rl, hrl⟩ : ∃ rl, rl = rs.length := ⟨_, rfl⟩
    rw [← hrl] at hc51 HRC
    rw [← hrl]
    have HRLE := Lib.hid hrl
    clear hrl
    go_upto_region 16 with fail
    obtain ⟨_, ⟨hz5, -⟩, -, -, -⟩ := HL5.out.get (i := 1) rfl
    have hself4 := (Kept.of_below (fun _ => False) HB4.out).heap HLG.out.self (fun h => h)
    have hl4 : Lg w4 gl g kl Bl vl (LM.new f n) := HLG.out.kept (Kept.of_below (fun _ => False) HB4.out) (fun _ _ h => h)
    obtain ⟨al4, cl4, rfl, -, -, hgl4, -, -, -, d3, d4, d5, d6, d7, fz⟩ := hl4.facts
    have HTH : Hid (w4.there gl 3 2) := Lib.hid (fun j hj => by
      have : j = 0 ∨ j = 1 := by omega
      rcases this with rfl | rfl
      · exact ⟨by rw [d3]; rfl, fz _⟩
      · exact ⟨by rw [d4]; rfl, fz _⟩)
    obtain ⟨w5, hw5⟩ : ∃ w5, w5 = w4.setCells gl 3 [.int .u8 (rr : Int), .int .i64 (ee : Int)] := ⟨_, rfl⟩
    have hs5 : w5.heap[gl]? = some (.cells #[.pointer (some ⟨g, 0, none⟩), .int .i64 (f : Int), .int .i64 (n : Int), .int .u8 (rr : Int), .int .i64 (ee : Int), .slice al4 0 cl4, .int .i64 0, .int .i64 0] 78 (0, 0)) := by
      rw [hw5]
      show ((w4.setCell ⟨gl, 3, none⟩ _).setCell ⟨gl, 4, none⟩ _).heap[gl]? = _
      rw [heap_setCell_same _ gl 4 _ _ _ (heap_setCell_same w4 gl 3 _ _ _ hl4.self)]
      rfl
    have hk5 : Kept (fun x => x = gl) w4 w5 := by rw [hw5]; exact (Kept.refl _ _).setCells _ _ (fun _ => rfl)
    have e5 : w5.cell? ⟨gl, 5, none⟩ = some (.slice al4 0 cl4) := by rw [cell_of_row w5 gl 5 _ _ _ hs5]; rfl
    have e6 : w5.cell? ⟨gl, 6, none⟩ = some (.int .i64 0) := by rw [cell_of_row w5 gl 6 _ _ _ hs5]; rfl
    have z5 : w5.frozen? ⟨gl, 5, none⟩ = false := frozen_of_row w5 gl 5 _ _ hs5
    have z6 : w5.frozen? ⟨gl, 6, none⟩ = false := frozen_of_row w5 gl 6 _ _ hs5
    have HZ5w := Lib.hid hz5
    have HW5 := Lib.hid hw5
    have HS5 := Lib.hid hs5
    have HK45 := Lib.hid hk5
    clear hz5 hself4 hl4 d3 d4 d5 d6 d7 fz hgl4 hw5 hs5 hk5
    go_upto_region 17 with (first
      | (refine wpList_load_row rfl 76 (.tmp 11) rfl g11 rfl 76 _ (0, 0) _ HZ5w.out Try.underlying76 rfl (sizeS _ _) ?_)
      | (refine wpList_store_mid rfl 76 (.tmp 77) (.tmp 72) rfl gl 3 _ rfl rfl HTH.out (sizeS _ _) (oneS _ _) ?_; show wpList _ _ _ _ _ (w4.setCells gl 3 [.int .u8 (rr : Int), .int .i64 (ee : Int)]); rw [← HW5.out]))
    obtain ⟨w6, hw6⟩ : ∃ w6, w6 = (w5.setCell ⟨gl, 5, none⟩ (.slice a5 rl c5)).setCell ⟨gl, 6, none⟩ (.int .i64 (rl : Int)) := ⟨_, rfl⟩
    rw [← hw6]
    have hk6 : Kept (fun x => x = gl) w4 w6 := by rw [hw6]; exact (HK45.out.setCell (p := ⟨gl, 5, none⟩) (fun _ => rfl) _).setCell (p := ⟨gl, 6, none⟩) (fun _ => rfl) _
    have hs6 : w6.heap[gl]? = some (.cells (LM.cells g ⟨f, n, rr, ee, rs, rl, 0⟩ (.slice a5 rl c5)).toArray 78 (0, 0)) := by
      rw [hw6, heap_setCell_same _ gl 6 _ _ _ (heap_setCell_same w5 gl 5 _ _ _ HS5.out)]
      rfl
    have hkg : k5 ≠ some gl := fun e => by have := HK5.out gl e; have := HGLW.out; omega
    have hR6 : Recs w6 k5 (fun x => B2 x ∧ x < w3.heap.size) (.slice a5 rl c5) rs := HRC.out.kept hk6 (fun x hx e => hkg (by rw [hx, e])) (fun x _ hx e => HB2GL.out (by rw [← e]; exact hx.1))
    have hLg6 : Lg w6 gl g k5 (fun x => B2 x ∧ x < w3.heap.size) (.slice a5 rl c5) ⟨f, n, rr, ee, rs, rl, 0⟩ := ⟨hs6, hR6, ⟨hkg, fun h => HB2GL.out h.1, fun x hx hb => by have := HK5.out x hx; omega⟩, fun x hx => Nat.lt_of_lt_of_le hx.2 (Nat.le_trans HB4.out.size hk6.size)⟩
    have hL6 := HSET.out w6 (logO gl g ⟨f, n, rr, ee, rs, rl, 0⟩) (LBlk gl k5 (fun x => B2 x ∧ x < w3.heap.size)) ⟨k5, _, _, hLg6, fun _ h => h⟩ ((Kept.of_below B HB4.out).trans (hk6.mono (fun x _ hx => by rw [hx]; exact HBGL.out)) (fun _ _ h => h)) (by
      rintro x (h | h | h)
      · rw [h]; exact .inl HBGL.out
      · exact .inr (HK5.out x h)
      · exact .inl (HB2B.out x h.1)) (fun x hx => hLg6.blk_lt x hx)
    have HL6 : Hid (Lv w0 w6 (noO :: stateO g11 rr ee :: bytesO (.slice (some ⟨hb, ho, none⟩) 128 hc) hd :: logO gl g ⟨f, n, rr, ee, rs, rl, 0⟩ :: L)) := Lib.hid hL6
    have HRD6 : Hid (RdR (fun x => k5 = some x ∨ (B2 x ∧ x < w3.heap.size)) w6 a5 rl c5 rs) := Lib.hid (hR6.rd (fun x hx => .inl hx) (fun x hx => .inr hx))
    have HDG : Hid (¬ (k5 = some gl ∨ (B2 gl ∧ gl < w3.heap.size))) := Lib.hid (fun h => h.elim hkg (fun h => HB2GL.out h.1))
    have HTR := HTAK
    clear hw6 hk6 hs6 hkg hR6 hLg6 hL6 HSET HLG HBGL HB2B HBS HB2GL HGLW HRC HK5 HB4 HL5 HZ5w HW5 HS5 HK45 e5 e6 z5 z6 HTH
    obtain ⟨D6, hD6⟩ : ∃ D6 : Nat → Prop, D6 = fun x => k5 = some x ∨ (B2 x ∧ x < w3.heap.size) := ⟨_, rfl⟩
    rw [← hD6] at HRD6
    have HDG2 : Hid (¬ D6 gl) := Lib.hid (by rw [hD6]; exact HDG.out)
    clear hD6 HDG
    go_wp2_with fail
    go_loopw [84] (fun t wr => ∃ i : Nat, i ≤ rl ∧ t = .int .i64 (i : Int) ∧ Lv w0 wr (noO :: stateO g11 rr ee :: bytesO (.slice (some ⟨hb, ho, none⟩) 128 hc) hd :: logO gl g ⟨f, n, rr, ee, rs, rl, takR (rs.take i)⟩ :: L) ∧ RdR D6 wr a5 rl c5 rs) (fun t _ => rl - (intOf t).toNat)
    case atStart => exact ⟨0, Nat.zero_le _, rfl, HL6.out, HRD6.out⟩
    case round =>
      obtain ⟨i, hi9, rfl, hL, hRd⟩ := hrel
      by_cases hlt : i < rl
      · have hn2 : (i : Int) < (rl : Int) := by omega
        have hlr : i < rs.length := by rw [← HRLE.out]; exact hlt
        obtain ⟨r, hr⟩ : ∃ r, r = rs[i]'hlr := ⟨_, rfl⟩
        have HTK : Hid (takR (rs.take (i + 1)) = takR (rs.take i) + (r.length + 12)) := Lib.hid (by rw [List.take_succ_eq_append_getElem hlr, takR_snoc, hr])
        have hti : takR (rs.take (i + 1)) ≤ 1000000000 := Nat.le_trans (takR_take rs _) HTR.out
        rw [HTK.out] at hti
        obtain ⟨T, hT⟩ : ∃ T, T = takR (rs.take i) := ⟨_, rfl⟩
        rw [← hT] at HTK hti hL
        obtain ⟨g8, off8, b8, cb8, -, rfl, hg8, hcell, -⟩ := hRd.2.2.2 i hlr
        rw [← hr] at hcell
        obtain ⟨_, _, -, -, hgl8, -, -, -, -, -, -, -, q7, fz⟩ := hL.logFacts (i := 3) rfl
        simp only at q7
        have z7 := fz 7
        obtain ⟨rn, hrn⟩ : ∃ rn, rn = r.length := ⟨_, rfl⟩
        rw [← hrn] at hcell HTK hti
        have hrlb := HRLB.out
        rw [← HRLE.out] at hrlb
        have hw1 : IntKind.i64.wrap ((i : Int) + 1) = (i : Int) + 1 := i64_id _ (by omega) (by omega)
        have hw2 : IntKind.i64.wrap ((rn : Int) + 12) = (rn : Int) + 12 := i64_id _ (by omega) (by omega)
        have hw3 : IntKind.i64.wrap ((T : Int) + ((rn : Int) + 12)) = ((T + (rn + 12) : Nat) : Int) := by rw [i64_id _ (by omega) (by omega)]; omega
        have HLt := Lib.hid (hL.logTak (i := 3) rfl (T + (rn + 12)))
        have HRd2 : Hid (RdR D6 (wr.setCell ⟨gl, 7, none⟩ (.int .i64 ((T + (rn + 12) : Nat) : Int))) (some ⟨g8, off8, none⟩) rl c5 rs) := Lib.hid (hRd.kept ((Kept.refl (fun x => x = gl) wr).setCell (p := ⟨gl, 7, none⟩) (fun _ => rfl) _) (fun x _ hx e => HDG2.out (by rw [← e]; exact hx)))
        clear hL hRd hr hT hrn hg8 fz hti
        go_wp2_with fail
        go_roundw
        case rel => exact ⟨i + 1, by omega, by go_num, by rw [HTK.out]; exact HLt.out, HRd2.out⟩
        case measure => simp [intOf]; omega
      · obtain rfl : i = rl := by omega
        have e1 : rs.take i = rs := List.take_of_length_le (by rw [HRLE.out]; exact Nat.le_refl _)
        rw [e1] at hL
        have HF := Lib.hid hL.tail.tail.tail
        clear hL hRd e1 hlt
        go_wp2_with fail
        go_ret2
        exact ⟨gl, rfl, by rw [← HRLE.out]; exact HF.out⟩
end
end Go.Proofs.Ythffegfcgmhppaa
namespace Go.Proofs.Ythffegfcgmhppaa
open Go.RowKit
theorem nf_write {d : DM} {k : Nat} {b : List UInt8} (h : d.fuse = 0) : (d.write k b).on = d.on ∧ (d.write k b).fuse = 0 := ⟨write_on h, (write_fuse h).trans h⟩
theorem nf_flush {d : DM} (h : d.fuse = 0) : d.flush.on = d.on ∧ d.flush.fuse = 0 := ⟨flush_on h, (flush_fuse h).trans h⟩
theorem desR_nf (m : LM) (d : DM) (e : Nat) (h : d.on = true) (hf : d.fuse = 0) : (desR m d e).1 = 0 ∧ (desR m d e).2.1 = { m with rnd := (m.rnd + 1) % 256, en := e } ∧ (desR m d e).2.2 = (d.write (m.frm + (m.rnd + 1) % 256 % 2) (desB ((m.rnd + 1) % 256) e)).flush ∧ (desR m d e).2.2.on = true ∧ (desR m d e).2.2.fuse = 0 := by
  have hw := nf_write (k := m.frm + (m.rnd + 1) % 256 % 2) (b := desB ((m.rnd + 1) % 256) e) hf
  have hw1 := hw.1.trans h
  have hfl := nf_flush hw.2
  unfold desR
  rw [if_pos h, if_pos hw1]
  exact ⟨rfl, rfl, rfl, hfl.1.trans hw1, hfl.2⟩
theorem desR_off (m : LM) (d : DM) (e : Nat) (h : d.on = false) : desR m d e = (10, m, d) := by
  unfold desR
  rw [if_neg (by rw [h]; decide)]
theorem fmtR_off (f n : Nat) (d : DM) (h : d.on = false) : (fmtR f n d).1 = 10 ∧ (fmtR f n d).2.2 = d := by
  unfold fmtR fmt1
  rw [desR_off _ _ _ h]
  exact ⟨rfl, rfl⟩
theorem fmtR_on (f n : Nat) (d : DM) (h : d.on = true) (hf : d.fuse = 0) : (fmtR f n d).1 = 0 ∧ (fmtR f n d).2.1 = ⟨f, n, 2, 128, [], 0, 0⟩ ∧ (fmtR f n d).2.2 = ((((d.write (f + 1) (desB 1 128)).flush).write f (desB 2 128)).flush) ∧ (fmtR f n d).2.2.on = true ∧ (fmtR f n d).2.2.fuse = 0 := by
  obtain ⟨a1, a2, a3, a4, a5⟩ := desR_nf (LM.new f n) d 128 h hf
  have e1 : (fmt1 f n d).1 = 0 := a1
  obtain ⟨b1, b2, b3, b4, b5⟩ := desR_nf (fmt1 f n d).2.1 (fmt1 f n d).2.2 128 a4 a5
  have e2 : (fmt1 f n d).2.1 = ⟨f, n, 1, 128, [], 0, 0⟩ := a2
  unfold fmtR
  rw [if_pos e1]
  refine ⟨b1, ?_, ?_, b4, b5⟩
  · rw [b2, e2]
    rfl
  · rw [b3, e2]
    have : (fmt1 f n d).2.2 = (d.write (f + 1) (desB 1 128)).flush := a3
    rw [this]
    simp
end Go.Proofs.Ythffegfcgmhppaa
namespace Go.Proofs.Ythffegfcgmhppaa
set_option linter.unusedSimpArgs false
set_option linter.unusedVariables false
/-- a sector: its durable bytes and the unflushed writes -/
def sec (d : DM) (k : Nat) : List (List UInt8) := d.S.getD k []
theorem sec_eq {d : DM} {k : Nat} (h : k < d.S.length) : sec d k = d.S[k] := by
  unfold sec
  rw [List.getD_eq_getElem?_getD, List.getElem?_eq_getElem h, Option.getD_some]
theorem sec_out {d : DM} {k : Nat} (h : d.S.length ≤ k) : sec d k = [] := by
  unfold sec
  rw [List.getD_eq_getElem?_getD, List.getElem?_eq_none h, Option.getD_none]
theorem sec_write (d : DM) (k : Nat) (l : List UInt8) (j : Nat) (hk : k < d.S.length) : sec (d.write k l) j = if k = j then sec d j ++ [l] else sec d j := by
  unfold sec
  rw [List.getD_eq_getElem?_getD, write_get, List.getD_eq_getElem?_getD]
  by_cases e : k = j
  · subst e
    rw [if_pos rfl, if_pos rfl, List.getElem?_eq_getElem hk]
    rfl
  · rw [if_neg e, if_neg e]
theorem sec_flush (d : DM) (k : Nat) (hk : k < d.S.length) : sec d.flush k = [lastB (sec d k)] := by
  rw [sec_eq (by rw [flush_len]; exact hk), sec_eq hk]
  unfold DM.flush
  simp only [DM.burn_S, List.getElem_map]
theorem restart_one (d : DM) (ts : List TM) : ∀ s ∈ (d.restart ts).S, s ≠ [] ∧ s.tail = [] := by
  intro s hs
  obtain ⟨s', _, rfl⟩ := List.mem_map.1 hs
  exact ⟨by simp, rfl⟩
theorem surv_last (s : List (List UInt8)) (h : s ≠ []) : lastB s = surv s (s.length : Int) 0 := by
  have hp : 0 < s.length := List.length_pos_iff.2 h
  unfold surv
  have e : min (s.length : Int).toNat (s.length - 1) = s.length - 1 := by omega
  have key : s[s.length - 1 + 1]? = none := List.getElem?_eq_none (by omega)
  rw [e]
  simp only [key]
  unfold lastB
  rw [List.getD_eq_getElem?_getD, List.getLastD_eq_getLast?, List.getLast?_eq_getElem?]
/-- what may become of a sector -/
def Poss (s : List (List UInt8)) (b : List UInt8) : Prop := b = dur s ∨ ∃ wr by_ : Int, b = surv s wr by_
theorem sec_restart (d : DM) (ts : List TM) (k : Nat) (hk : k < d.S.length) : ∃ b, sec (d.restart ts) k = [b] ∧ Poss (sec d k) b := by
  have hk2 : k < (d.restart ts).S.length := by rw [restart_len]; exact hk
  have h1 := restart_get d ts k hk hk2
  have hs := restart_one d ts _ (List.getElem_mem hk2)
  rw [sec_eq hk2, sec_eq hk]
  match hm : (d.restart ts).S[k], hs with
  | [x], _ =>
    rw [hm] at h1
    refine ⟨x, rfl, ?_⟩
    have hx : lastB [x] = x := rfl
    rw [hx] at h1
    cases hf : firstOf ts k with
    | none => rw [hf] at h1; exact .inl h1
    | some t => rw [hf] at h1; exact .inr ⟨_, _, h1⟩
  | [], h => exact absurd rfl h.1
theorem poss_one {x b : List UInt8} (h : Poss [x] b) : b = x := by
  rcases h with h | ⟨wr, by_, h⟩
  · exact h
  · rw [h]; simp [surv]
/-- a torn write: some first bytes of a later one, the others of an earlier one -/
theorem poss_mix {s : List (List UInt8)} {b : List UInt8} (hs : s ≠ []) (h : Poss s b) : ∃ x y t, x ∈ s ∧ y ∈ s ∧ b = x.take t ++ y.drop t := by
  rcases h with h | ⟨wr, by_, h⟩
  · exact ⟨dur s, dur s, 0, dur_mem hs, dur_mem hs, by rw [h]; simp⟩
  · unfold surv at h
    have hp : 0 < s.length := List.length_pos_iff.2 hs
    have hi : min wr.toNat (s.length - 1) < s.length := by omega
    have hg : s.getD (min wr.toNat (s.length - 1)) [] ∈ s := by
      rw [List.getD_eq_getElem?_getD, List.getElem?_eq_getElem hi, Option.getD_some]; exact List.getElem_mem hi
    simp only at h
    split at h
    · rename_i x hx
      exact ⟨x, _, _, List.mem_of_getElem? hx, hg, h⟩
    · exact ⟨_, _, 0, hg, hg, by rw [h]; simp⟩
theorem poss_two {x y b : List UInt8} (h : Poss [x, y] b) : ∃ t, b = y.take t ++ x.drop t ∨ b = y := by
  rcases h with h | ⟨wr, by_, h⟩
  · exact ⟨0, .inl (by rw [h]; simp [dur])⟩
  · unfold surv at h
    simp only [List.length_cons, List.length_nil] at h
    have : min wr.toNat (0 + 1 + 1 - 1) = 0 ∨ min wr.toNat (0 + 1 + 1 - 1) = 1 := by omega
    rcases this with e | e
    · rw [e] at h
      exact ⟨_, .inl (by simpa using h)⟩
    · rw [e] at h
      exact ⟨0, .inr (by simpa using h)⟩
theorem mix_getD (x y : List UInt8) (t i : Nat) (hx : x.length = 64) (hy : y.length = 64) (hi : i < 64) : (x.take t ++ y.drop t).getD i 0 = if i < t then x.getD i 0 else y.getD i 0 := by
  rw [List.getD_eq_getElem?_getD, List.getD_eq_getElem?_getD, List.getD_eq_getElem?_getD]
  by_cases h : i < t
  · rw [if_pos h, List.getElem?_append_left (by rw [List.length_take]; omega), List.getElem?_take, if_pos h]
  · rw [if_neg h, List.getElem?_append_right (by rw [List.length_take]; omega), List.getElem?_drop, List.length_take, show t + (i - min t x.length) = i by omega]
/-- all that is in the sectors agrees with some bytes, from sector F + 2 on -/
def AllOk (d : DM) (F : Nat) (l : List UInt8) : Prop := ∀ i (hi : i < l.length), ∀ x ∈ sec d (F + 2 + i / 64), x.getD (i % 64) 0 = l[i]
/-- what is read last -/
def LastOk (d : DM) (F : Nat) (l : List UInt8) : Prop := ∀ i (hi : i < l.length), (lastB (sec d (F + 2 + i / 64))).getD (i % 64) 0 = l[i]
/-- the state of a log on a disk: all that may be read of it is of round r, ends at e and has the records rs -/
structure GA (F N : Nat) (d : DM) (r e : Nat) (rs : List (List UInt8)) : Prop where
  fit : F + N ≤ d.S.length
  len : ∀ k, k < d.S.length → sec d k ≠ [] ∧ ∀ b ∈ sec d k, b.length = 64
  rb : r < 256
  new : ∃ x, sec d (F + r % 2) = [x] ∧ okS x = true ∧ bN x 0 = r ∧ endF x = e
  old : ∃ y, sec d (F + (r + 1) % 2) = [y] ∧ (okS y = false ∨ bN y 0 = (r + 255) % 256) ∧ bN y 63 ≠ (r + 1) % 256
  en : e = 128 + lenB rs
  all : AllOk d F (joinB rs)
  room : e ≤ N * 64
theorem len_of_ok {d : DM} {M : Nat} (h : d.Ok M) : ∀ k, k < d.S.length → sec d k ≠ [] ∧ ∀ b ∈ sec d k, b.length = 64 := fun k hk => by
  rw [sec_eq hk]
  have := h.2.2.2 _ (List.getElem_mem hk)
  exact ⟨this.1, this.2.2⟩
theorem dataIn {F N i L : Nat} (hi : i < L) (hL : 128 + L ≤ N * 64) : F + 2 + i / 64 < F + N := by omega
theorem GA.flush {F N : Nat} {d : DM} {r e : Nat} {rs : List (List UInt8)} (h : GA F N d r e rs) : GA F N d.flush r e rs := by
  have hN : 4 ≤ N ∨ N < 4 := by omega
  have hl := flush_len d
  obtain ⟨x, x1, x2⟩ := h.new
  obtain ⟨y, y1, y2⟩ := h.old
  have hro := h.room
  have hen := h.en
  have hfit := h.fit
  refine ⟨by rw [hl]; exact hfit, fun k hk => ?_, h.rb, ⟨x, ?_, x2⟩, ⟨y, ?_, y2⟩, hen, fun i hi b hb => ?_, hro⟩
  · rw [hl] at hk
    rw [sec_flush d k hk]
    obtain ⟨a1, a2⟩ := h.len k hk
    exact ⟨by simp, fun b hb => by rw [List.mem_singleton.1 hb]; exact a2 _ (lastB_mem a1)⟩
  · rw [sec_flush d _ (by omega), x1]; rfl
  · rw [sec_flush d _ (by omega), y1]; rfl
  · have hi2 := hi
    rw [joinB_len] at hi2
    have hk : F + 2 + i / 64 < d.S.length := by omega
    rw [sec_flush d _ hk] at hb
    rw [List.mem_singleton.1 hb]
    exact h.all i hi _ (lastB_mem (h.len _ hk).1)
/-- a power failure leaves the state -/
theorem GA.restart {F N : Nat} {d : DM} {r e : Nat} {rs : List (List UInt8)} (h : GA F N d r e rs) (ts : List TM) : GA F N (d.restart ts) r e rs := by
  have hl := restart_len d ts
  obtain ⟨x, x1, x2⟩ := h.new
  obtain ⟨y, y1, y2⟩ := h.old
  have hro := h.room
  have hen := h.en
  have hfit := h.fit
  have hlen : ∀ k, k < d.S.length → ∃ b, sec (d.restart ts) k = [b] ∧ b.length = 64 ∧ Poss (sec d k) b := fun k hk => by
    obtain ⟨b, b1, b2⟩ := sec_restart d ts k hk
    obtain ⟨a1, a2⟩ := h.len k hk
    obtain ⟨u, v, t, hu, hv, rfl⟩ := poss_mix a1 b2
    have e1 := a2 u hu
    have e2 := a2 v hv
    exact ⟨_, b1, by rw [List.length_append, List.length_take, List.length_drop]; omega, b2⟩
  refine ⟨by rw [hl]; exact hfit, fun k hk => ?_, h.rb, ⟨x, ?_, x2⟩, ⟨y, ?_, y2⟩, hen, fun i hi b hb => ?_, hro⟩
  · rw [hl] at hk
    obtain ⟨b, b1, b2, _⟩ := hlen k hk
    rw [b1]
    exact ⟨by simp, fun c hc => by rw [List.mem_singleton.1 hc]; exact b2⟩
  · obtain ⟨b, b1, _, b2⟩ := hlen (F + r % 2) (by omega)
    rw [x1] at b2
    rw [b1, poss_one b2]
  · obtain ⟨b, b1, _, b2⟩ := hlen (F + (r + 1) % 2) (by omega)
    rw [y1] at b2
    rw [b1, poss_one b2]
  · have hi2 := hi
    rw [joinB_len] at hi2
    have hk : F + 2 + i / 64 < d.S.length := by omega
    obtain ⟨c, c1, _, c2⟩ := hlen _ hk
    rw [c1] at hb
    rw [List.mem_singleton.1 hb]
    obtain ⟨a1, a2⟩ := h.len _ hk
    obtain ⟨u, v, t, hu, hv, rfl⟩ := poss_mix a1 c2
    rw [mix_getD u v t _ (a2 u hu) (a2 v hv) (Nat.mod_lt _ (by omega))]
    split
    · exact h.all i hi u hu
    · exact h.all i hi v hv
/-- a write outside of the two descriptions, that keeps the bytes -/
theorem GA.write {F N : Nat} {d : DM} {r e : Nat} {rs : List (List UInt8)} (h : GA F N d r e rs) (k : Nat) (l : List UInt8) (hk : k < d.S.length) (hl : l.length = 64) (hd : k < F ∨ F + 2 ≤ k) (hkeep : ∀ i (hi : i < (joinB rs).length), F + 2 + i / 64 = k → l.getD (i % 64) 0 = (joinB rs)[i]) : GA F N (d.write k l) r e rs := by
  obtain ⟨x, x1, x2⟩ := h.new
  obtain ⟨y, y1, y2⟩ := h.old
  refine ⟨by rw [write_len]; exact h.fit, fun j hj => ?_, h.rb, ⟨x, ?_, x2⟩, ⟨y, ?_, y2⟩, h.en, fun i hi b hb => ?_, h.room⟩
  · rw [write_len] at hj
    rw [sec_write d k l j hk]
    obtain ⟨a1, a2⟩ := h.len j hj
    split
    · refine ⟨by simp, fun b hb => ?_⟩
      rcases List.mem_append.1 hb with hb | hb
      · exact a2 b hb
      · rw [List.mem_singleton.1 hb]; exact hl
    · exact ⟨a1, a2⟩
  · rw [sec_write d k l _ hk, if_neg (by omega)]; exact x1
  · rw [sec_write d k l _ hk, if_neg (by omega)]; exact y1
  · rw [sec_write d k l _ hk] at hb
    split at hb
    · rename_i e
      rcases List.mem_append.1 hb with hb | hb
      · exact h.all i hi b hb
      · rw [List.mem_singleton.1 hb]; exact hkeep i hi e.symm
    · exact h.all i hi b hb
/-- bN of the parts of a description -/
theorem desB_get (r e i : Nat) (hr : r < 256) (he : e < 16777216) : bN (desB r e) 0 = r ∧ bN (desB r e) 63 = r ∧ endF (desB r e) = e ∧ endB (desB r e) = e := by
  have h8 : ∀ n : Nat, (UInt8.ofNat n).toNat = n % 256 := fun n => by rw [UInt8.toNat_ofNat']
  have g0 : (desB r e).getD 0 0 = UInt8.ofNat r := rfl
  have g1 : (desB r e).getD 1 0 = UInt8.ofNat (e / 65536) := rfl
  have g2 : (desB r e).getD 2 0 = UInt8.ofNat (e / 256) := rfl
  have g3 : (desB r e).getD 3 0 = UInt8.ofNat e := rfl
  have g60 : (desB r e).getD 60 0 = UInt8.ofNat e := by simp [desB, headB, footB]
  have g61 : (desB r e).getD 61 0 = UInt8.ofNat (e / 256) := by simp [desB, headB, footB]
  have g62 : (desB r e).getD 62 0 = UInt8.ofNat (e / 65536) := by simp [desB, headB, footB]
  have g63 : (desB r e).getD 63 0 = UInt8.ofNat r := by simp [desB, headB, footB]
  unfold endF endB bN
  rw [g0, g1, g2, g3, g60, g61, g62, g63, h8, h8, h8, h8]
  omega
theorem okS_des (r e : Nat) (hr : r < 256) (he : e < 16777216) (h128 : 128 ≤ e) : okS (desB r e) = true := by
  obtain ⟨a, b, c, d⟩ := desB_get r e 0 hr he
  unfold okS
  rw [a, b, c, d]
  simpa using h128
/-- the disk while a description is being written -/
theorem GA.des {F N : Nat} {d : DM} {r e : Nat} {rs : List (List UInt8)} (h : GA F N d r e rs) (e' : Nat) (qs : List (List UInt8)) (hN : 4 ≤ N) (he : e' = 128 + lenB qs) (hroom : e' ≤ N * 64) (hb : e' < 16777216) (hall : AllOk d F (joinB qs)) :
    (∀ ts, GA F N ((d.write (F + (r + 1) % 256 % 2) (desB ((r + 1) % 256) e')).restart ts) r e rs ∨ GA F N ((d.write (F + (r + 1) % 256 % 2) (desB ((r + 1) % 256) e')).restart ts) ((r + 1) % 256) e' qs) ∧
    GA F N (d.write (F + (r + 1) % 256 % 2) (desB ((r + 1) % 256) e')).flush ((r + 1) % 256) e' qs := by
  have hrb := h.rb
  have hfit := h.fit
  obtain ⟨x, x1, x2, x3, x4⟩ := h.new
  obtain ⟨y, y1, y2, y3⟩ := h.old
  obtain ⟨r', hr'⟩ : ∃ r', r' = (r + 1) % 256 := ⟨_, rfl⟩
  have hrb' : r' < 256 := by omega
  have hp1 : r' % 2 = (r + 1) % 2 := by omega
  have hp2 : (r' + 1) % 2 = r % 2 := by omega
  rw [← hr']
  obtain ⟨g1, g2, g3, g4⟩ := desB_get r' e' 0 hrb' hb
  have gok := okS_des r' e' hrb' hb (by omega)
  obtain ⟨nb, hnb⟩ : ∃ nb, nb = desB r' e' := ⟨_, rfl⟩
  have hnl : nb.length = 64 := by rw [hnb]; exact desB_len _ _
  rw [← hnb] at g1 g2 g3 g4 gok ⊢
  obtain ⟨K, hK⟩ : ∃ K, K = F + r' % 2 := ⟨_, rfl⟩
  rw [← hK]
  have hKl : K < d.S.length := by omega
  have hKy : sec d K = [y] := by rw [hK, hp1]; exact y1
  have hxlen : x.length = 64 := (h.len (F + r % 2) (by omega)).2 x (by rw [x1]; simp)
  have hylen : y.length = 64 := (h.len K hKl).2 y (by rw [hKy]; simp)
  have hx63 : bN x 63 = r := by
    unfold okS at x2
    have := of_decide_eq_true x2
    omega
  -- what is alike in all cases
  have key : ∀ (d' : DM), d'.S.length = d.S.length → (∀ k, k < d.S.length → k ≠ K → ∃ b, sec d' k = [b] ∧ b.length = 64 ∧ Poss (sec d k) b) → ∀ z, sec d' K = [z] → z.length = 64 →
      ((okS z = false ∨ bN z 0 = (r + 255) % 256) ∧ bN z 63 ≠ (r + 1) % 256 → GA F N d' r e rs) ∧ (z = nb → GA F N d' r' e' qs) := by
    intro d' hl hoth z hz hzl
    have hlen' : ∀ k, k < d'.S.length → sec d' k ≠ [] ∧ ∀ b ∈ sec d' k, b.length = 64 := fun k hk => by
      rw [hl] at hk
      by_cases e1 : k = K
      · rw [e1, hz]; exact ⟨by simp, fun b hb => by rw [List.mem_singleton.1 hb]; exact hzl⟩
      · obtain ⟨b, b1, b2, _⟩ := hoth k hk e1
        rw [b1]; exact ⟨by simp, fun c hc => by rw [List.mem_singleton.1 hc]; exact b2⟩
    have hxx : sec d' (F + r % 2) = [x] := by
      obtain ⟨b, b1, _, b2⟩ := hoth (F + r % 2) (by omega) (by omega)
      rw [x1] at b2
      rw [b1, poss_one b2]
    have hdata : ∀ us : List (List UInt8), 128 + lenB us ≤ N * 64 → AllOk d F (joinB us) → AllOk d' F (joinB us) := by
      intro us hus hao i hi b hb
      have hi2 := hi
      rw [joinB_len] at hi2
      have hk : F + 2 + i / 64 < d.S.length := by omega
      obtain ⟨c, c1, _, c2⟩ := hoth _ hk (by omega)
      rw [c1] at hb
      rw [List.mem_singleton.1 hb]
      obtain ⟨a1, a2⟩ := h.len _ hk
      obtain ⟨u, v, t, hu, hv, rfl⟩ := poss_mix a1 c2
      rw [mix_getD u v t _ (a2 u hu) (a2 v hv) (Nat.mod_lt _ (by omega))]
      split
      · exact hao i hi u hu
      · exact hao i hi v hv
    refine ⟨fun hzz => ⟨by rw [hl]; exact hfit, hlen', hrb, ⟨x, hxx, x2, x3, x4⟩, ⟨z, ?_, hzz.1, hzz.2⟩, h.en, hdata rs (by rw [← h.en]; exact h.room) h.all, h.room⟩, fun hzz => ⟨by rw [hl]; exact hfit, hlen', hrb', ⟨z, ?_, ?_, ?_, ?_⟩, ⟨x, ?_, ?_, ?_⟩, he, hdata qs (by rw [← he]; exact hroom) hall, hroom⟩⟩
    · rw [← hp1, ← hK]; exact hz
    · rw [← hK]; exact hz
    · rw [hzz]; exact gok
    · rw [hzz]; exact g1
    · rw [hzz]; exact g3
    · rw [hp2]; exact hxx
    · right; rw [x3]; omega
    · rw [hx63]; omega
  have hsw : ∀ j, sec (d.write K nb) j = if K = j then sec d j ++ [nb] else sec d j := fun j => sec_write d K nb j hKl
  refine ⟨fun ts => ?_, ?_⟩
  · have hl2 : ((d.write K nb).restart ts).S.length = d.S.length := by rw [restart_len, write_len]
    have hoth : ∀ k, k < d.S.length → k ≠ K → ∃ b, sec ((d.write K nb).restart ts) k = [b] ∧ b.length = 64 ∧ Poss (sec d k) b := fun k hk hne => by
      obtain ⟨b, b1, b2⟩ := sec_restart (d.write K nb) ts k (by rw [write_len]; exact hk)
      rw [hsw k, if_neg (fun e => hne e.symm)] at b2
      obtain ⟨a1, a2⟩ := h.len k hk
      obtain ⟨u, v, t, hu, hv, rfl⟩ := poss_mix a1 b2
      have e1 := a2 u hu
      have e2 := a2 v hv
      exact ⟨_, b1, by rw [List.length_append, List.length_take, List.length_drop]; omega, b2⟩
    obtain ⟨z, z1, z2⟩ := sec_restart (d.write K nb) ts K (by rw [write_len]; exact hKl)
    rw [hsw K, if_pos rfl, hKy] at z2
    have z3 : Poss [y, nb] z := z2
    have z4 := poss_two z3
    obtain ⟨t, hz | hz⟩ := z4
    · have hzl : z.length = 64 := by rw [hz, List.length_append, List.length_take, List.length_drop]; omega
      have k1 := key _ hl2 hoth z z1 hzl
      have gz : ∀ i, i < 64 → bN z i = if i < t then bN nb i else bN y i := fun i hi => by
        unfold bN
        rw [hz, mix_getD nb y t i hnl hylen hi]
        split <;> rfl
      by_cases ht0 : t = 0
      · left
        refine k1.1 ?_
        have : z = y := by rw [hz, ht0]; simp
        rw [this]
        exact ⟨y2, y3⟩
      · by_cases ht64 : 64 ≤ t
        · right
          refine k1.2 ?_
          rw [hz, List.take_of_length_le (by omega), List.drop_of_length_le (by omega), List.append_nil]
        · left
          have z0 : bN z 0 = r' := by rw [gz 0 (by omega), if_pos (by omega), g1]
          have z63 : bN z 63 = bN y 63 := by rw [gz 63 (by omega), if_neg (by omega)]
          refine k1.1 ⟨.inl ?_, by rw [z63]; exact y3⟩
          unfold okS
          rw [decide_eq_false]
          rintro ⟨h0, -⟩
          rw [z0, z63] at h0
          exact y3 (by rw [← h0, hr'])
    · right
      exact (key _ hl2 hoth z z1 (by rw [hz]; exact hnl)).2 hz
  · have hl2 : (d.write K nb).flush.S.length = d.S.length := by rw [flush_len, write_len]
    have hoth : ∀ k, k < d.S.length → k ≠ K → ∃ b, sec (d.write K nb).flush k = [b] ∧ b.length = 64 ∧ Poss (sec d k) b := fun k hk hne => by
      obtain ⟨a1, a2⟩ := h.len k hk
      refine ⟨lastB (sec d k), ?_, a2 _ (lastB_mem a1), .inr ⟨_, 0, surv_last _ a1⟩⟩
      rw [sec_flush _ k (by rw [write_len]; exact hk), hsw k, if_neg (fun e => hne e.symm)]
    have hzK : sec (d.write K nb).flush K = [nb] := by
      rw [sec_flush _ K (by rw [write_len]; exact hKl), hsw K, if_pos rfl, hKy]; rfl
    exact (key _ hl2 hoth nb hzK hnl).2 rfl
end Go.Proofs.Ythffegfcgmhppaa
namespace Go.Proofs.Ythffegfcgmhppaa
set_option linter.unusedSimpArgs false
set_option linter.unusedVariables false
theorem putB_lo (s b : List UInt8) (o i : Nat) (hs : s.length = 64) (ho : o < 64) (hi : i < o) : (putB s b o).getD i 0 = s.getD i 0 := by
  unfold putB
  rw [List.getD_eq_getElem?_getD, List.getD_eq_getElem?_getD, List.getElem?_append_left (by rw [List.length_take]; omega), List.getElem?_take, if_pos hi]
theorem putB_hi (s b : List UInt8) (o i : Nat) (hs : s.length = 64) (ho : o < 64) (h1 : o ≤ i) (h2 : i < o + (b.take (64 - o)).length) : (putB s b o).getD i 0 = b.getD (i - o) 0 := by
  have hl : (s.take o).length = o := by rw [List.length_take]; omega
  unfold putB
  rw [List.getD_eq_getElem?_getD, List.getD_eq_getElem?_getD, List.getElem?_append_right (by rw [hl]; exact h1), hl, List.getElem?_append_left (by omega), List.getElem?_take, if_pos (by rw [List.length_take] at h2; omega)]
theorem wrD_keep (F N : Nat) (rs : List (List UInt8)) (r e : Nat) : ∀ (f : Nat) (d : DM) (p : Nat) (b : List UInt8), GA F N d r e rs → (joinB rs).length ≤ p → 128 + p + b.length ≤ N * 64 → GA F N (wrD F f d (128 + p) b).2 r e rs
  | 0, d, p, b, h, _, _ => h
  | f + 1, d, p, b, h, hp, hr => by
    rw [wrD]
    split
    · exact h
    · rename_i hb
      split
      · rename_i hon
        have hbl : 0 < b.length := List.length_pos_iff.2 hb
        have hfit := h.fit
        obtain ⟨K, hK⟩ : ∃ K, K = F + (128 + p) / 64 := ⟨_, rfl⟩
        have hKl : K < d.S.length := by omega
        have hsl : (lastB (d.S.getD K [])).length = 64 := (h.len K hKl).2 _ (lastB_mem (h.len K hKl).1)
        obtain ⟨n, hn⟩ : ∃ n, n = (b.take (64 - (128 + p) % 64)).length := ⟨_, rfl⟩
        have hnb : n ≤ b.length := by rw [hn, List.length_take]; omega
        rw [← hK, ← hn, Nat.add_assoc]
        have hst := h.write K (putB (lastB (d.S.getD K [])) b ((128 + p) % 64)) hKl (putB_len _ _ _ hsl (Nat.mod_lt _ (by omega))) (.inr (by omega)) (fun i hi hik => by
          rw [putB_lo _ _ _ _ hsl (Nat.mod_lt _ (by omega)) (by omega)]
          have := h.all i hi (lastB (sec d (F + 2 + i / 64))) (lastB_mem (h.len _ (by omega)).1)
          rw [hik] at this
          exact this)
        exact wrD_keep F N rs r e f _ (p + n) (b.drop n) hst (by omega) (by rw [List.length_drop]; omega)
      · exact h
theorem wrD_last (F N : Nat) (rs : List (List UInt8)) (r e : Nat) : ∀ (f : Nat) (d : DM) (l b : List UInt8), GA F N d r e rs → LastOk d F l → (joinB rs).length ≤ l.length → 128 + l.length + b.length ≤ N * 64 → b.length ≤ f → (wrD F f d (128 + l.length) b).1 = 0 → LastOk (wrD F f d (128 + l.length) b).2 F (l ++ b)
  | 0, d, l, b, h, hl, _, _, hf, _ => by
    have : b = [] := List.eq_nil_of_length_eq_zero (by omega)
    rw [this, List.append_nil]
    exact hl
  | f + 1, d, l, b, h, hl, hp, hr, hf, h0 => by
    rw [wrD] at h0 ⊢
    by_cases hb : b = []
    · rw [if_pos hb] at h0 ⊢
      rw [hb, List.append_nil]
      exact hl
    · rw [if_neg hb] at h0 ⊢
      by_cases hon : d.on = true
      · rw [if_pos hon] at h0 ⊢
        have hbl : 0 < b.length := List.length_pos_iff.2 hb
        have hfit := h.fit
        obtain ⟨K, hK⟩ : ∃ K, K = F + (128 + l.length) / 64 := ⟨_, rfl⟩
        have hKl : K < d.S.length := by omega
        have hsl : (lastB (d.S.getD K [])).length = 64 := (h.len K hKl).2 _ (lastB_mem (h.len K hKl).1)
        obtain ⟨o, ho⟩ : ∃ o, o = (128 + l.length) % 64 := ⟨_, rfl⟩
        have ho64 : o < 64 := by omega
        obtain ⟨n, hn⟩ : ∃ n, n = (b.take (64 - o)).length := ⟨_, rfl⟩
        have hnb : n ≤ b.length := by rw [hn, List.length_take]; omega
        have hno : o + n ≤ 64 := by rw [hn, List.length_take]; omega
        have hn0 : 0 < n := by rw [hn, List.length_take]; omega
        rw [← hK, ← ho, ← hn] at h0 ⊢
        obtain ⟨nb, hnbb⟩ : ∃ nb, nb = putB (lastB (d.S.getD K [])) b o := ⟨_, rfl⟩
        rw [← hnbb] at h0 ⊢
        have hnl : nb.length = 64 := by rw [hnbb]; exact putB_len _ _ _ hsl ho64
        have hst : GA F N (d.write K nb) r e rs := h.write K nb hKl hnl (.inr (by omega)) (fun i hi hik => by
          rw [hnbb, putB_lo _ _ _ _ hsl ho64 (by omega)]
          have := h.all i hi (lastB (sec d (F + 2 + i / 64))) (lastB_mem (h.len _ (by omega)).1)
          rw [hik] at this
          exact this)
        have hll : (l ++ b.take n).length = l.length + n := by rw [List.length_append, List.length_take]; omega
        have hlast : LastOk (d.write K nb) F (l ++ b.take n) := by
          intro i hi
          rw [hll] at hi
          rw [sec_write d K nb _ hKl]
          by_cases hil : i < l.length
          · rw [List.getElem_append_left hil]
            by_cases e1 : K = F + 2 + i / 64
            · rw [if_pos e1]
              have : lastB (sec d (F + 2 + i / 64) ++ [nb]) = nb := by unfold lastB; simp
              rw [this, hnbb, putB_lo _ _ _ _ hsl ho64 (by omega)]
              have := hl i hil
              rw [← e1] at this
              exact this
            · rw [if_neg e1]; exact hl i hil
          · have e1 : K = F + 2 + i / 64 := by omega
            rw [if_pos e1]
            have : lastB (sec d (F + 2 + i / 64) ++ [nb]) = nb := by unfold lastB; simp
            rw [this, hnbb, putB_hi _ _ _ _ hsl ho64 (by omega) (by omega), List.getElem_append_right (by omega), List.getElem_take, List.getD_eq_getElem?_getD, show i % 64 - o = i - l.length by omega, List.getElem?_eq_getElem (by omega), Option.getD_some]
        have := wrD_last F N rs r e f (d.write K nb) (l ++ b.take n) (b.drop n) hst hlast (by rw [hll]; omega) (by rw [hll, List.length_drop]; omega) (by rw [List.length_drop]; omega) (by rw [hll, ← Nat.add_assoc]; exact h0)
        rw [hll, ← Nat.add_assoc, List.append_assoc, List.take_append_drop] at this
        exact this
      · rw [if_neg hon] at h0
        simp at h0
theorem wrD_on (F : Nat) : ∀ (f : Nat) (d : DM) (a : Nat) (b : List UInt8), (wrD F f d a b).1 = 10 → (wrD F f d a b).2.on = false
  | 0, d, a, b, h => by simp [wrD] at h
  | f + 1, d, a, b, h => by
    rw [wrD] at h ⊢
    by_cases hb : b = []
    · rw [if_pos hb] at h; simp at h
    · rw [if_neg hb] at h ⊢
      by_cases hon : d.on = true
      · rw [if_pos hon] at h ⊢; exact wrD_on F f _ _ _ h
      · rw [if_neg hon]; simpa using hon
theorem wrD_ok (F : Nat) : ∀ (f : Nat) (d : DM) (M a : Nat) (b : List UInt8), d.Ok M → (∀ k, F + a / 64 ≤ k → k < F + (a + b.length + 63) / 64 → k < d.S.length) → (wrD F f d a b).2.Ok (M + b.length)
  | 0, d, M, a, b, h, _ => h.mono (by omega)
  | f + 1, d, M, a, b, h, hk => by
    rw [wrD]
    split
    · exact h.mono (by omega)
    · rename_i hb
      split
      · have hbl : 0 < b.length := List.length_pos_iff.2 hb
        have hKl : F + a / 64 < d.S.length := hk _ (Nat.le_refl _) (by omega)
        have hm := h.2.2.2 _ (List.getElem_mem hKl)
        have hsl : (lastB (d.S.getD (F + a / 64) [])).length = 64 := by
          rw [List.getD_eq_getElem?_getD, List.getElem?_eq_getElem hKl, Option.getD_some]
          exact hm.2.2 _ (lastB_mem hm.1)
        obtain ⟨n, hn⟩ : ∃ n, n = (b.take (64 - a % 64)).length := ⟨_, rfl⟩
        have hn1 : n ≤ b.length := by rw [hn, List.length_take]; omega
        have hn0 : 0 < n := by rw [hn, List.length_take]; omega
        rw [← hn]
        refine (wrD_ok F f _ (M + 1) _ _ (DM.write_ok h (putB_len _ _ _ hsl (Nat.mod_lt _ (by omega)))) (fun k h1 h2 => by
          rw [write_len]
          rw [List.length_drop] at h2
          exact hk k (by omega) (by omega))).mono ?_
        rw [List.length_drop]
        omega
      · exact h.mono (by omega)
/-- sectors that are not written -/
theorem wrD_other (F : Nat) : ∀ (f : Nat) (d : DM) (a : Nat) (b : List UInt8) (k : Nat), F + (a + b.length) / 64 ≤ d.S.length → (k < F + a / 64 ∨ F + (a + b.length + 63) / 64 ≤ k) → F + (a + b.length + 63) / 64 ≤ d.S.length → sec (wrD F f d a b).2 k = sec d k
  | 0, d, a, b, k, _, _, _ => rfl
  | f + 1, d, a, b, k, h1, h2, h3 => by
    rw [wrD]
    split
    · rfl
    · rename_i hb
      split
      · have hbl : 0 < b.length := List.length_pos_iff.2 hb
        obtain ⟨n, hn⟩ : ∃ n, n = (b.take (64 - a % 64)).length := ⟨_, rfl⟩
        have hn1 : n ≤ b.length := by rw [hn, List.length_take]; omega
        rw [← hn]
        rw [wrD_other F f _ (a + n) (b.drop n) k (by rw [write_len, List.length_drop]; omega) (by rw [List.length_drop]; omega) (by rw [write_len, List.length_drop]; omega)]
        rw [sec_write _ _ _ _ (by omega), if_neg (by omega)]
      · rfl
theorem AllOk.last {F N : Nat} {d : DM} {r e : Nat} {rs : List (List UInt8)} (h : GA F N d r e rs) : LastOk d F (joinB rs) := by
  intro i hi
  have hi2 := hi
  rw [joinB_len] at hi2
  have := h.room
  have := h.en
  have := h.fit
  exact h.all i hi _ (lastB_mem (h.len _ (by omega)).1)
theorem LastOk.flush {d : DM} {F : Nat} {l : List UInt8} (h : LastOk d F l) (hl : F + 2 + (l.length + 63) / 64 ≤ d.S.length) : AllOk d.flush F l := by
  intro i hi x hx
  rw [sec_flush d _ (by omega)] at hx
  rw [List.mem_singleton.1 hx]
  exact h i hi
/-- what is read of it -/
theorem GA.reads {F N : Nat} {d : DM} {r e : Nat} {rs : List (List UInt8)} (h : GA F N d r e rs) (hN : 4 ≤ N) : newOk (lastB (d.S.getD F [])) (lastB (d.S.getD (F + 1) [])) = true ∧ bN (newS (lastB (d.S.getD F [])) (lastB (d.S.getD (F + 1) []))) 0 = r ∧ endF (newS (lastB (d.S.getD F [])) (lastB (d.S.getD (F + 1) []))) = e := by
  obtain ⟨x, x1, x2, x3, x4⟩ := h.new
  obtain ⟨y, y1, y2, y3⟩ := h.old
  have hrb := h.rb
  have hlx : lastB (sec d (F + r % 2)) = x := by rw [x1]; rfl
  have hly : lastB (sec d (F + (r + 1) % 2)) = y := by rw [y1]; rfl
  have hr : r % 2 = 0 ∨ r % 2 = 1 := by omega
  have hlast : bN x 63 = r := by
    unfold okS at x2
    have := of_decide_eq_true x2
    omega
  have hy0 : okS y = true → bN y 0 = bN y 63 := by
    intro h
    unfold okS at h
    exact (of_decide_eq_true h).1
  rcases hr with hr | hr
  · have e1 : F + r % 2 = F := by omega
    have e2 : F + (r + 1) % 2 = F + 1 := by omega
    rw [e1] at hlx
    rw [e2] at hly
    unfold sec at hlx hly
    rw [hlx, hly]
    have hf : firstB x y = true := by
      unfold firstB
      rw [x2, Bool.true_and]
      cases ho : okS y with
      | false => rfl
      | true =>
        rcases y2 with y2 | y2
        · rw [ho] at y2; cases y2
        · simp only [Bool.not_true, Bool.false_or, decide_eq_true_eq]
          rw [x3, y2]; omega
    unfold newOk newS
    rw [hf]
    exact ⟨rfl, x3, x4⟩
  · have e1 : F + r % 2 = F + 1 := by omega
    have e2 : F + (r + 1) % 2 = F := by omega
    rw [e1] at hlx
    rw [e2] at hly
    unfold sec at hlx hly
    rw [hlx, hly]
    have hf : firstB y x = false := by
      unfold firstB
      rw [x2]
      cases ho : okS y with
      | false => rfl
      | true =>
        rcases y2 with y2 | y2
        · rw [ho] at y2; cases y2
        · simp only [Bool.true_and, Bool.not_true, Bool.false_or, decide_eq_false_iff_not]
          rw [x3, y2]; omega
    unfold newOk newS
    rw [hf]
    exact ⟨x2, x3, x4⟩
theorem getD_some (l : List UInt8) (i : Nat) (h : i < l.length) : l[i]? = some (l.getD i 0) := by
  rw [List.getD_eq_getElem?_getD, List.getElem?_eq_getElem h, Option.getD_some]
theorem secsB_get (d : DM) (k n : Nat) (h : ∀ i, i < n → (lastB (d.S.getD (k + i) [])).length = 64) (i : Nat) (hi : i < n * 64) : (secsB d k n)[i]? = some ((lastB (d.S.getD (k + i / 64) [])).getD (i % 64) 0) := by
  induction n with
  | zero => omega
  | succ n ih =>
    have hl := secsB_len d k n (fun i hi => h i (by omega))
    rw [secsB_succ]
    by_cases hlt : i < n * 64
    · rw [List.getElem?_append_left (by rw [hl]; exact hlt)]
      exact ih (fun i hi => h i (by omega)) hlt
    · have hn := h n (by omega)
      rw [List.getElem?_append_right (by rw [hl]; omega), hl, show k + i / 64 = k + n by omega, show i % 64 = i - n * 64 by omega]
      exact getD_some _ _ (by rw [hn]; omega)
theorem GA.bytes {F N : Nat} {d : DM} {r e : Nat} {rs : List (List UInt8)} (h : GA F N d r e rs) (cnt : Nat) (hc : lenB rs ≤ cnt * 64 ∧ cnt * 64 < lenB rs + 64) : (secsB d (F + 2) cnt).take (lenB rs) = joinB rs := by
  have hro := h.room
  have hen := h.en
  have hfit := h.fit
  have h64 : ∀ i, i < cnt → (lastB (d.S.getD (F + 2 + i) [])).length = 64 := fun i hi => (h.len _ (by omega)).2 _ (lastB_mem (h.len _ (by omega)).1)
  apply List.ext_getElem?
  intro i
  rw [List.getElem?_take]
  have hjl := joinB_len rs
  by_cases hi : i < lenB rs
  · rw [if_pos hi, secsB_get d _ cnt h64 i (by omega), List.getElem?_eq_getElem (by rw [hjl]; exact hi)]
    congr 1
    exact AllOk.last h i (by rw [hjl]; exact hi)
  · rw [if_neg hi, List.getElem?_eq_none (by rw [hjl]; omega)]
end Go.Proofs.Ythffegfcgmhppaa
namespace Go.Proofs.Ythffegfcgmhppaa
set_option linter.unusedSimpArgs false
set_option linter.unusedVariables false
theorem lenB_le_takR (rs : List (List UInt8)) : lenB rs ≤ takR rs := by
  induction rs with
  | nil => exact Nat.le_refl _
  | cons r rs ih => simp only [lenB, takR, List.map_cons, List.sum_cons] at ih ⊢; omega
theorem lenB_app (rs qs : List (List UInt8)) : lenB (rs ++ qs) = lenB rs + lenB qs := by simp [lenB]
theorem length_le_takR (rs : List (List UInt8)) : rs.length ≤ takR rs := by
  induction rs with
  | nil => exact Nat.le_refl _
  | cons r rs ih => simp only [takR, List.map_cons, List.sum_cons, List.length_cons] at ih ⊢; omega
/-- a log between two calls, while the power is on -/
structure Fine (m : LM) (d : DM) : Prop where
  n4 : 4 ≤ m.n ∧ m.n ≤ 200
  syn : m.syn ≤ m.recs.length
  tak : m.tak = takR m.recs
  cap : takR m.recs + 128 ≤ 64 * m.n
  small : ∀ r ∈ m.recs, r.length ≤ 4000
  ga : GA m.frm m.n d m.rnd m.en (m.recs.take m.syn)
  ok : d.Ok 0
/-- what a power failure leaves -/
def Cr (m : LM) (d : DM) (rst : Bool) : Prop := ∀ ts, ∃ r e rs, GA m.frm m.n (d.restart ts) r e rs ∧ ((m.syn ≤ rs.length ∧ rs.length ≤ m.recs.length ∧ rs = m.recs.take rs.length) ∨ (rst = true ∧ rs = []))
theorem Fine.cr {m : LM} {d : DM} (h : Fine m d) (rst : Bool) : Cr m d rst := fun ts => by
  have hs := h.syn
  have hl : (m.recs.take m.syn).length = m.syn := by rw [List.length_take]; omega
  exact ⟨_, _, _, h.ga.restart ts, .inl ⟨by rw [hl]; exact Nat.le_refl _, by rw [hl]; exact hs, by rw [hl]⟩⟩
theorem roomZ_le {n t k : Nat} (h : ¬ roomZ n (t : Int) < (k : Int)) (hk : 0 ≤ (k : Int)) : t + k + 12 + 128 ≤ 64 * n := by
  unfold roomZ at h
  omega
theorem append_fine {m : LM} {d : DM} (h : Fine m d) (r : List UInt8) (on : Bool) (h0 : appE m on r.length = 0) : Fine (appM m on r) d ∧ (appM m on r).recs = m.recs ++ [r] ∧ (appM m on r).syn = m.syn ∧ (appM m on r).frm = m.frm ∧ (appM m on r).n = m.n := by
  have hsy := h.syn
  have he : appM m on r = { m with recs := m.recs ++ [r], tak := m.tak + (r.length + 12) } := by unfold appM; rw [if_pos h0]
  rw [he]
  unfold appE at h0
  split at h0
  · simp at h0
  · rename_i a1
    split at h0
    · simp at h0
    · rename_i a2
      have hr := roomZ_le a2 (by omega)
      have htk := h.tak
      refine ⟨⟨h.n4, by show m.syn ≤ (m.recs ++ [r]).length; rw [List.length_append]; omega, by show m.tak + _ = takR _; rw [takR_snoc, htk], by show takR (m.recs ++ [r]) + 128 ≤ _; rw [takR_snoc, ← htk]; omega, fun q hq => ?_, ?_, h.ok⟩, rfl, rfl, rfl, rfl⟩
      · rcases List.mem_append.1 hq with hq | hq
        · exact h.small q hq
        · rw [List.mem_singleton.1 hq]; omega
      · show GA m.frm m.n d m.rnd m.en ((m.recs ++ [r]).take m.syn)
        rw [List.take_append_of_le_length hsy]
        exact h.ga
theorem appE_on (m : LM) (n : Nat) : appE m true n = rappE m.n m.recs n ∨ m.tak ≠ takR m.recs := by
  by_cases h : m.tak = takR m.recs
  · left
    unfold appE rappE
    rw [h]
    simp
  · exact .inr h
section
variable {m : LM} {d : DM}
theorem Fine.addLen (h : Fine m d) : m.en + (addB m).length = 128 + lenB m.recs := by
  have h1 := h.ga.en
  unfold addB
  rw [joinB_len, h1]
  have : lenB m.recs = lenB (m.recs.take m.syn) + lenB (m.recs.drop m.syn) := by rw [← lenB_app, List.take_append_drop]
  omega
theorem Fine.bounds (h : Fine m d) : lenB m.recs + 128 ≤ 64 * m.n ∧ lenB m.recs ≤ 12800 ∧ m.en ≤ 12800 ∧ m.tak ≤ 12800 ∧ m.recs.length ≤ 12800 := by
  have h1 := lenB_le_takR m.recs
  have h2 := h.cap
  have h3 := h.n4
  have h4 := h.addLen
  have h5 := h.tak
  have h6 := length_le_takR m.recs
  omega
/-- the disk when Sync has written the records -/
theorem Fine.wr (h : Fine m d) : GA m.frm m.n (wrR m d).2 m.rnd m.en (m.recs.take m.syn) ∧ ((wrR m d).1 = 0 → AllOk (wrR m d).2.flush m.frm (joinB m.recs)) ∧ (wrR m d).2.Ok 20000 ∧ (wrR m d).2.S.length = d.S.length ∧ ((wrR m d).1 = 0 ∨ (wrR m d).1 = 10 ∧ (wrR m d).2.on = false) := by
  have hen := h.ga.en
  have hadd := h.addLen
  have hbd := h.bounds
  have hfit := h.ga.fit
  have hn4 := h.n4
  have hj : (joinB (m.recs.take m.syn)).length = lenB (m.recs.take m.syn) := joinB_len _
  have e1 : m.en = 128 + (joinB (m.recs.take m.syn)).length := by rw [hj]; exact hen
  have hlen : (wrR m d).2.S.length = d.S.length := wrD_len _ _ _ _ _
  have hk := wrD_keep m.frm m.n (m.recs.take m.syn) m.rnd m.en (addB m).length d (joinB (m.recs.take m.syn)).length (addB m) h.ga (Nat.le_refl _) (by omega)
  rw [← e1] at hk
  refine ⟨hk, fun h0 => ?_, ?_, hlen, ?_⟩
  · have hl := wrD_last m.frm m.n (m.recs.take m.syn) m.rnd m.en (addB m).length d (joinB (m.recs.take m.syn)) (addB m) h.ga (AllOk.last h.ga) (Nat.le_refl _) (by omega) (Nat.le_refl _) (by rw [← e1]; exact h0)
    rw [← e1] at hl
    have e2 : joinB (m.recs.take m.syn) ++ addB m = joinB m.recs := by unfold addB; rw [← joinB_app, List.take_append_drop]
    rw [e2] at hl
    refine LastOk.flush hl ?_
    rw [joinB_len]
    show _ ≤ (wrR m d).2.S.length
    omega
  · refine (wrD_ok m.frm (addB m).length d 0 m.en (addB m) h.ok (fun k h1 h2 => by omega)).mono ?_
    omega
  · rcases wrD_err m.frm (addB m).length d m.en (addB m) with e | e
    · exact .inl e
    · exact .inr ⟨e, wrD_on _ _ _ _ _ e⟩
theorem des_fine {F N : Nat} {d : DM} {r e : Nat} {rs : List (List UInt8)} (hm : m.frm = F ∧ m.n = N ∧ m.rnd = r) (hga : GA F N d r e rs) (hok : d.Ok 0) (e' : Nat) (qs : List (List UInt8)) (hN : 4 ≤ N) (he : e' = 128 + lenB qs) (hroom : e' ≤ N * 64) (hb : e' < 16777216) (hall : AllOk d F (joinB qs)) :
    ((desR m d e').1 = 0 → GA F N (desR m d e').2.2 ((r + 1) % 256) e' qs ∧ (desR m d e').2.2.Ok 0) ∧
    ((desR m d e').1 ≠ 0 → (desR m d e').2.2.on = false ∧ ∀ ts, GA F N ((desR m d e').2.2.restart ts) r e rs ∨ GA F N ((desR m d e').2.2.restart ts) ((r + 1) % 256) e' qs) := by
  obtain ⟨rfl, rfl, rfl⟩ := hm
  obtain ⟨k1, k2⟩ := hga.des e' qs hN he hroom hb hall
  have hfit := hga.fit
  unfold desR
  by_cases ho : d.on = true
  · rw [if_pos ho]
    by_cases ho1 : (d.write (m.frm + (m.rnd + 1) % 256 % 2) (desB ((m.rnd + 1) % 256) e')).on = true
    · rw [if_pos ho1]
      exact ⟨fun _ => ⟨k2, DM.flush_ok (DM.write_ok hok (desB_len _ _))⟩, fun h => absurd rfl h⟩
    · rw [if_neg ho1]
      exact ⟨fun h => by simp at h, fun _ => ⟨by simpa using ho1, k1⟩⟩
  · rw [if_neg ho]
    exact ⟨fun h => by simp at h, fun _ => ⟨by simpa using ho, fun ts => .inl (hga.restart ts)⟩⟩
theorem desR_m (m : LM) (d : DM) (e : Nat) : (desR m d e).2.1.frm = m.frm ∧ (desR m d e).2.1.n = m.n ∧ (desR m d e).2.1.recs = m.recs ∧ (desR m d e).2.1.syn = m.syn ∧ (desR m d e).2.1.tak = m.tak := by
  unfold desR
  split
  · split
    · exact ⟨rfl, rfl, rfl, rfl, rfl⟩
    · exact ⟨rfl, rfl, rfl, rfl, rfl⟩
  · exact ⟨rfl, rfl, rfl, rfl, rfl⟩
theorem sync_fine (h : Fine m d) : (syncR m d).2.2.S.length = d.S.length ∧ (((syncR m d).1 = 0 ∧ Fine (syncR m d).2.1 (syncR m d).2.2 ∧ (syncR m d).2.1.recs = m.recs ∧ (syncR m d).2.1.syn = m.recs.length ∧ (syncR m d).2.1.frm = m.frm ∧ (syncR m d).2.1.n = m.n) ∨
    ((syncR m d).1 = 10 ∧ (syncR m d).2.1 = m ∧ (syncR m d).2.2.on = false ∧ ∀ rst, Cr m (syncR m d).2.2 rst)) := by
  obtain ⟨w1, w2, w3, w4, w5⟩ := h.wr
  have hsy := h.syn
  have hl : (m.recs.take m.syn).length = m.syn := by rw [List.length_take]; omega
  have hold : ∀ (d' : DM), (∀ ts, GA m.frm m.n (d'.restart ts) m.rnd m.en (m.recs.take m.syn)) → ∀ rst, Cr m d' rst := fun d' hd rst ts => ⟨_, _, _, hd ts, .inl ⟨by rw [hl]; exact Nat.le_refl _, by rw [hl]; exact hsy, by rw [hl]⟩⟩
  obtain ⟨W, hW⟩ : ∃ W, W = wrR m d := ⟨_, rfl⟩
  unfold syncR
  rw [← hW] at w1 w2 w3 w4 w5 ⊢
  rcases w5 with w5 | ⟨w5, w6⟩
  · rw [if_pos w5]
    by_cases ho : W.2.on = true
    · rw [if_pos ho]
      have hbd := h.bounds
      have hadd := h.addLen
      have hn4 := h.n4
      have hok : W.2.flush.Ok 0 := DM.flush_ok w3
      have hall := w2 w5
      obtain ⟨q1, q2⟩ := des_fine (m := m) (F := m.frm) (N := m.n) ⟨rfl, rfl, rfl⟩ w1.flush hok (m.en + (addB m).length) m.recs hn4.1 hadd (by omega) (by omega) hall
      have qe := desR_err m W.2.flush (m.en + (addB m).length)
      have ql := desR_len m W.2.flush (m.en + (addB m).length)
      have qm := desR_m m W.2.flush (m.en + (addB m).length)
      have qo := desR_ok m W.2.flush (m.en + (addB m).length)
      obtain ⟨Q, hQ⟩ : ∃ Q, Q = desR m W.2.flush (m.en + (addB m).length) := ⟨_, rfl⟩
      rw [← hQ] at q1 q2 qe ql qm qo ⊢
      refine ⟨by show Q.2.2.S.length = _; rw [ql, flush_len, w4], ?_⟩
      rcases qe with qe | qe
      · left
        obtain ⟨g1, g2⟩ := q1 qe
        have qo2 := qo qe
        simp only [qe, if_true]
        refine ⟨trivial, ⟨by rw [qm.2.1]; exact hn4, by show m.recs.length ≤ Q.2.1.recs.length; rw [qm.2.2.1]; exact Nat.le_refl _, by show Q.2.1.tak = takR Q.2.1.recs; rw [qm.2.2.1, qm.2.2.2.2]; exact h.tak, by show takR Q.2.1.recs + 128 ≤ 64 * Q.2.1.n; rw [qm.2.2.1, qm.2.1]; exact h.cap, by show ∀ r ∈ Q.2.1.recs, _; rw [qm.2.2.1]; exact h.small, ?_, g2⟩, qm.2.2.1, trivial, qm.1, qm.2.1⟩
        show GA Q.2.1.frm Q.2.1.n Q.2.2 Q.2.1.rnd Q.2.1.en (Q.2.1.recs.take m.recs.length)
        rw [qo2]
        show GA m.frm m.n Q.2.2 ((m.rnd + 1) % 256) (m.en + (addB m).length) (m.recs.take m.recs.length)
        rw [List.take_of_length_le (Nat.le_refl _)]
        exact g1
      · right
        have hne : ¬ Q.1 = 0 := by rw [qe]; omega
        obtain ⟨g1, g2⟩ := q2 hne
        simp only [qe, show ¬ ((10 : Int) = 0) by omega, if_false]
        refine ⟨trivial, trivial, g1, fun rst ts => ?_⟩
        rcases g2 ts with g | g
        · exact ⟨_, _, _, g, .inl ⟨by rw [hl]; exact Nat.le_refl _, by rw [hl]; exact hsy, by rw [hl]⟩⟩
        · exact ⟨_, _, _, g, .inl ⟨hsy, Nat.le_refl _, (List.take_of_length_le (Nat.le_refl _)).symm⟩⟩
    · rw [if_neg ho]
      exact ⟨w4, .inr ⟨rfl, rfl, by simpa using ho, hold _ (fun ts => w1.restart ts)⟩⟩
  · rw [if_neg (by rw [w5]; omega)]
    exact ⟨w4, .inr ⟨rfl, rfl, w6, hold _ (fun ts => w1.restart ts)⟩⟩
theorem reset_fine (h : Fine m d) : (resetR m d).2.2.S.length = d.S.length ∧ (((resetR m d).1 = 0 ∧ Fine (resetR m d).2.1 (resetR m d).2.2 ∧ (resetR m d).2.1.recs = [] ∧ (resetR m d).2.1.syn = 0 ∧ (resetR m d).2.1.frm = m.frm ∧ (resetR m d).2.1.n = m.n) ∨
    ((resetR m d).1 = 10 ∧ (resetR m d).2.1 = m ∧ (resetR m d).2.2.on = false ∧ Cr m (resetR m d).2.2 true)) := by
  have hsy := h.syn
  have hl : (m.recs.take m.syn).length = m.syn := by rw [List.length_take]; omega
  have hn4 := h.n4
  obtain ⟨q1, q2⟩ := des_fine (m := m) (F := m.frm) (N := m.n) ⟨rfl, rfl, rfl⟩ h.ga h.ok 128 [] hn4.1 (by simp [lenB]) (by omega) (by omega) (fun i hi => by simp [joinB] at hi)
  have qe := desR_err m d 128
  have ql := desR_len m d 128
  have qm := desR_m m d 128
  have qo := desR_ok m d 128
  unfold resetR
  obtain ⟨Q, hQ⟩ : ∃ Q, Q = desR m d 128 := ⟨_, rfl⟩
  rw [← hQ] at q1 q2 qe ql qm qo ⊢
  refine ⟨ql, ?_⟩
  rcases qe with qe | qe
  · left
    obtain ⟨g1, g2⟩ := q1 qe
    have qo2 := qo qe
    simp only [qe, if_true]
    refine ⟨trivial, ⟨by rw [qm.2.1]; exact hn4, Nat.le_refl _, rfl, ?_, (fun r hr => by cases hr), ?_, g2⟩, trivial, trivial, qm.1, qm.2.1⟩
    · show takR [] + 128 ≤ 64 * Q.2.1.n
      rw [qm.2.1]
      simp [takR]
      omega
    · show GA Q.2.1.frm Q.2.1.n Q.2.2 Q.2.1.rnd Q.2.1.en ([].take 0)
      rw [qo2]
      exact g1
  · right
    have hne : ¬ Q.1 = 0 := by rw [qe]; omega
    obtain ⟨g1, g2⟩ := q2 hne
    simp only [qe, show ¬ ((10 : Int) = 0) by omega, if_false]
    refine ⟨trivial, trivial, g1, fun ts => ?_⟩
    rcases g2 ts with g | g
    · exact ⟨_, _, _, g, .inl ⟨by rw [hl]; exact Nat.le_refl _, by rw [hl]; exact hsy, by rw [hl]⟩⟩
    · exact ⟨_, _, _, g, .inr ⟨rfl, rfl⟩⟩
end
end Go.Proofs.Ythffegfcgmhppaa
namespace Go.Proofs.Ythffegfcgmhppaa
open Go.RowKit
set_option linter.unusedSimpArgs false
set_option linter.unusedVariables false
section
variable {w0 w : World} {L : List Obj}
theorem made4_lv (h : Lv w0 w L) (n : Nat) (h1 : 1 ≤ n) (h2 : n ≤ 4096) :
    Calls Try.prog 10 #[.int .i64 (n : Int)] w fun e w' => ∃ g, e = .returned (.pointer (some ⟨g, 0, none⟩)) ∧ Lv w0 w' (diskO g (DM.new n) :: L) := by
  have HL := Lib.hid h
  clear h
  go_enter Try.func10, Try.ntmps10
  go_wp2_with (go_at_call 39; refine (new_lv HL.out n h1 h2).mono ?_; rintro e w3 ⟨g, rfl, hl⟩; have HL2 := Lib.hid hl; clear hl)
  go_ret
  exact ⟨_, rfl, HL2.out⟩
theorem between_any (D1 D2 : Nat → Prop) (a b : Option Addr) (n c k e s : Nat) (rs qs : List (List UInt8)) (h1 : RdR D1 w a n c rs) (h2 : RdR D2 w b k e qs) (hn : n ≤ 1000000) (hs : s ≤ 1000000) :
    Calls Try.prog 36 #[.slice a n c, .int .i64 (s : Int), .slice b k e] w fun x w' => x = .returned (.bool (decide (s ≤ n ∧ n ≤ k) && (rs == qs.take n))) ∧ Below w.heap.size w w' := by
  have hc1 : n ≤ c := h1.2.1
  have he1 : k ≤ e := h2.2.1
  have he2 : e ≤ 9223372036854775807 := h2.2.2.1
  obtain ⟨B, hB⟩ : ∃ B, B = (decide (s ≤ n ∧ n ≤ k) && (rs == qs.take n)) := ⟨_, rfl⟩
  rw [← hB]
  have HB := Lib.hid hB
  clear hB
  by_cases a1 : s ≤ n
  · have a1' : (s : Int) ≤ (n : Int) := by omega
    by_cases a2 : n ≤ k
    · have a2' : (n : Int) ≤ (k : Int) := by omega
      have a3' : (n : Int) ≤ (e : Int) := by omega
      have HC := Lib.hid (same_any D1 D2 a b n c n e rs (qs.take n) w h1 (h2.upto n a2) hn)
      have HT : Hid (B = (rs == qs.take n)) := Lib.hid (by rw [HB.out, decide_eq_true ⟨a1, a2⟩, Bool.true_and])
      clear h1 h2 a1 a2
      go_enter Try.func36, Try.ntmps36
      go_wp2_with (go_at_call 32; refine HC.out.mono ?_; rintro x w2 ⟨rfl, hb⟩; rw [← HT.out]; have HBL := Lib.hid hb; clear hb)
      go_ret
      exact ⟨rfl, HBL.out⟩
    · have a2' : (k : Int) < (n : Int) := by omega
      have HT : Hid (B = false) := Lib.hid (by rw [HB.out, decide_eq_false (fun h => a2 h.2), Bool.false_and])
      clear h1 h2 a1 a2
      go_enter Try.func36, Try.ntmps36
      go_wp2
      go_ret
      exact ⟨by rw [HT.out]; rfl, Below.refl _ _⟩
  · have a1' : (n : Int) < (s : Int) := by omega
    have HT : Hid (B = false) := Lib.hid (by rw [HB.out, decide_eq_false (fun h => a1 h.1), Bool.false_and])
    clear h1 h2 a1
    go_enter Try.func36, Try.ntmps36
    go_wp2
    go_ret
    exact ⟨by rw [HT.out]; rfl, Below.refl _ _⟩
/-- the bytes of a record of an act -/
def recB (n : Nat) (data : List UInt8) : List UInt8 := (List.range n).map fun i => if data.length = 0 then UInt8.ofNat i else data.getD (i % data.length) 0
theorem recB_len (n : Nat) (data : List UInt8) : (recB n data).length = n := by simp [recB]
theorem recB_succ (n : Nat) (data : List UInt8) : recB (n + 1) data = recB n data ++ [if data.length = 0 then UInt8.ofNat n else data.getD (n % data.length) 0] := by simp [recB, List.range_succ]
end
end Go.Proofs.Ythffegfcgmhppaa

/-
  Texts R5, G8, Q6, one behind the other.
-/
import Derived.Orders
import Derived.Tactics
import Derived.Deep.MidRow
import Derived.WalkKit
import Derived.WalkSpells
import Derived.WalkLawsBesides
import Derived.Laws.AppendOwn
import Derived.Laws.OwnMore
import Derived.Deep.AppendSrc
import Derived.Lib.Hide
import GoSem.Claim
import Derived.Maps.RangeRun
import Derived.Maps.Range
import Derived.Maps.OwnOps
import Derived.Maps.RangeWalk
import Derived.Deep.Cut
import Derived.Deep.RegionWith
import Derived.Deep.DrawnRows
import Derived.StillTailTactics
import Derived.Carry
import Derived.Laws.CopyOwn
import Derived.Lib.AppendZerosOnto
import Derived.Deep.QuietTactic
import Derived.BigQuiet
import Derived.Laws.BytesString
import Derived.Laws.AppendOwnNone
import Derived.ProofKit
import Derived.OpenShut
import Derived.Deep.Slices
import Derived.Deep.Fields
import Derived.JoinedCond
import Derived.Laws.ShiftsVarLaws
import Derived.Laws.BitsAllLaws
import Derived.Laws.ResultCell
import Derived.Deep.CutBlock
import Derived.OwnWalk
import Derived.Deep.Grids
import Derived.Test.YthffegfcgmhppaaDoorRows
import Derived.Test.YthffegfcgmhppaaDoorZV506
namespace Go.Proofs.YthffegfcgmhppaaDoor.Roll
variable {P : Program} {ops : Array Oper} {Q : Exit → Act → World → Prop}
/-- the operations from n on come last, each behind the one before it -/
def tailOk3 (ops : Array Oper) (n : Nat) : Bool := (List.range ops.size).all fun k => decide (k < n) || match ops[k]? with | none => true | some o => ((List.range n).all fun i => aheadB ops 12 k i) && (decide (k ≤ n) || (ahead o).contains (k - 1))
theorem tail_ahead3 {n k : Nat} {o : Oper} (h : tailOk3 ops n = true) (ho : ops[k]? = some o) (hk : n ≤ k) : (∀ i, i < n → aheadB ops 12 k i = true) ∧ (n < k → k - 1 ∈ ahead o) := by
  have hlt : k < ops.size := (Array.getElem?_eq_some_iff.1 ho).1
  have h1 := List.all_eq_true.1 h k (List.mem_range.2 hlt)
  simp only [ho, Bool.or_eq_true, Bool.and_eq_true, decide_eq_true_eq] at h1
  have h2 := h1.resolve_left (by omega)
  refine ⟨fun i hi => List.all_eq_true.1 h2.1 i (List.mem_range.2 hi), fun hk2 => ?_⟩
  have h3 := h2.2.resolve_left (by omega)
  simpa using h3
theorem behindB {listed : Array Bool} {k j f : Nat} {o : Oper} (h : ∀ (j : Nat) (o : Oper), ops[j]? = some o → listed[j]? = some true → ∀ i ∈ ahead o, listed[i]? = some true) (ho : ops[k]? = some o) (hd : ∀ i ∈ ahead o, listed[i]? = some true) (hb : aheadB ops (f + 1) k j = true) : listed[j]? = some true := by
  unfold aheadB at hb
  rw [ho] at hb
  simp only [Bool.or_eq_true, List.any_eq_true, List.contains_eq_mem, decide_eq_true_eq] at hb
  rcases hb with hb | ⟨i, hi, hb⟩
  · exact hd j hb
  · exact closedB h f i j hb (hd i hi)
theorem wpAny_tail3 (hb : backOk ops = true) {n : Nat} (ht : tailOk3 ops n = true) : ∀ (fuel m : Nat) (listed : Array Bool) (a : Act) (w : World), n ≤ m → m ≤ ops.size → ops.size - m ≤ fuel → listed.size = ops.size →
    (∀ j : Nat, j < m → listed[j]? = some true) → (∀ j : Nat, m ≤ j → j < ops.size → listed[j]? = some false) → wpList P ops Q (ops.toList.drop m) a w → wpAny P .any ops Q fuel listed a w := by
  intro fuel
  induction fuel with
  | zero =>
    intro m listed a w hn hm hf hl h1 h2 h
    have : m = ops.size := by omega
    subst this
    rw [List.drop_of_length_le (by simp)] at h
    refine ⟨?_, h⟩
    cases hr : Region.ready .any ops listed with
    | nil => rfl
    | cons x r =>
      have hx : x ∈ Region.ready .any ops listed := by rw [hr]; exact List.mem_cons_self
      obtain ⟨hu, o, ho, _⟩ := mem_ready.1 hx
      have := h1 x (Array.getElem?_eq_some_iff.1 ho).1
      rw [unlisted_of_getD hu] at this
      cases this
  | succ fuel ih =>
    intro m listed a w hn hm hf hl h1 h2 h
    by_cases hms : m = ops.size
    · subst hms
      rw [List.drop_of_length_le (by simp)] at h
      refine ⟨fun _ => h, fun x hx => ?_⟩
      obtain ⟨hu, o, ho, _⟩ := mem_ready.1 hx
      have := h1 x (Array.getElem?_eq_some_iff.1 ho).1
      rw [unlisted_of_getD hu] at this
      cases this
    · have hlt : m < ops.size := by omega
      have hom : ops[m]? = some ops[m] := Array.getElem?_eq_getElem hlt
      refine ⟨fun hr => ?_, fun k hk => ?_⟩
      · have := ready_least rfl hb hl hr m hlt
        rw [h2 m (Nat.le_refl _) hlt] at this
        cases this
      · obtain ⟨hu, o, ho, hedge⟩ := mem_ready.1 hk
        have hku := unlisted_of_getD hu
        have hklt : k < ops.size := (Array.getElem?_eq_some_iff.1 ho).1
        have hkm : m ≤ k := by
          rcases Nat.lt_or_ge k m with hx | hx
          · rw [h1 k hx] at hku; cases hku
          · exact hx
        have hk : k = m := by
          rcases Nat.lt_or_ge m k with hx | hx
          · obtain ⟨e, he, hbd, hon⟩ := ahead_of_edge ((tail_ahead3 ht ho (by omega)).2 (by omega))
            have := listed_of_getD (hedge e he hbd)
            rw [hon, h2 (k - 1) (by omega) (by omega)] at this
            cases this
          · omega
        subst hk
        rw [List.drop_eq_getElem_cons (by simpa using hlt)] at h
        unfold wpList at h
        unfold wpOp
        simp only [hom]
        simp only [Array.getElem_toList] at h
        have next : ∀ a' w', wpList P ops Q (ops.toList.drop (k + 1)) a' w' → wpAny P .any ops Q fuel (listed.setIfInBounds k true) a' w' := by
          intro a' w' h'
          refine ih (k + 1) _ a' w' (by omega) hlt (by omega) (by rw [Array.size_setIfInBounds]; exact hl) ?_ ?_ h'
          · intro j hj
            rw [set_get hku]
            split
            · rfl
            · exact h1 j (by omega)
          · intro j hj hjs
            rw [set_get hku, if_neg (by omega)]
            exact h2 j (by omega) hjs
        split
        · rename_i hw
          rw [if_pos hw] at h
          exact h.imp (Oper.wp_mono next) id
        · rename_i hw
          rw [if_neg hw] at h
          exact next _ _ h
theorem wpAny_heldx (hb : backOk ops = true) (hap : apartB ops = true) {L : List (List Nat)} (hlo : looksOk ops L = true) {n : Nat} (hnle : n ≤ ops.size) (htl : tailOk3 ops n = true) {I0 : World → Prop} {I1 : Value → World → Prop} {J : World → Prop} {k0 : Nat} {PL : List Bool} {S : World → World → Prop} {R : Nat → (Nat → Value) → World → Prop} {a0 : Act}
    (hsz : ∀ j t, slot ops j = some t → t < a0.tmps.size)
    (hS : ∀ j v w w', S w w' → R j v w → R j v w') (hC : ∀ j v v' w, (∀ i, i = j ∨ i ∈ L.getD j [] → v i = v' i) → R j v w → R j v' w) (hk0 : k0 < n) (hPL : ∀ (o : Oper) (k : Nat), ops[k0]? = some o → k < n → k ≠ k0 → PL.getD k false = true ∨ aheadB ops 12 k0 k = true) (hJ0 : ∀ w, I0 w → J w) (hJ1 : ∀ u w, I1 u w → J w) (hS0 : ∀ w, S w w)
    (hop : ∀ (k : Nat) (o : Oper), k < n → ops[k]? = some o → Doesw P ops L I0 I1 J k0 PL S R a0 k o)
    (hend : ∀ (vals : Nat → Value) (w : World), I1 (vals k0) w → (∀ j : Nat, j < n → R j vals w) → wpList P ops Q (ops.toList.drop n) (putOf ops vals (List.range n) a0) w) :
    ∀ (fuel : Nat) (listed : Array Bool) (vals : Nat → Value) (a : Act) (w : World), listed.toList.count false ≤ fuel → (∀ j : Nat, n ≤ j → j < ops.size → listed[j]? = some false) → Heldw ops I0 I1 k0 R a0 vals listed a w → wpAny P .any ops Q fuel listed a w := by
  have slot_lt : ∀ {j t : Nat}, slot ops j = some t → j < ops.size := by
    intro j t hj
    unfold slot at hj
    cases hk : ops[j]? with
    | none => rw [hk] at hj; cases hj
    | some o => exact (Array.getElem?_eq_some_iff.1 hk).1
  have fin : ∀ (fuel : Nat) (listed : Array Bool) (vals : Nat → Value) (a : Act) (w : World), listed.toList.count false ≤ fuel → (∀ j : Nat, n ≤ j → j < ops.size → listed[j]? = some false) → Heldw ops I0 I1 k0 R a0 vals listed a w → (∀ j : Nat, j < n → listed[j]? = some true) → wpAny P .any ops Q fuel listed a w := by
    intro fuel listed vals a w hc hun h hall
    have e : a = putOf ops vals (List.range n) a0 := by
      have et : a.tmps = (putOf ops vals (List.range n) a0).tmps := by
        refine Array.ext_getElem? fun t => ?_
        by_cases hx : ∃ j : Nat, j < n ∧ slot ops j = some t
        · obtain ⟨j, hjn, hj⟩ := hx
          rw [h.new j t (hall j hjn) hj, putOf_mem hap vals _ _ j t (List.mem_range.2 hjn) hj (hsz j t hj)]
        · rw [h.old t (fun j hj e => ?_), putOf_other ops vals _ _ t (fun j hj e => hx ⟨j, List.mem_range.1 hj, e⟩)]
          rcases Nat.lt_or_ge j n with hjn | hjn
          · exact hx ⟨j, hjn, e⟩
          · rw [hun j hjn (slot_lt e)] at hj; cases hj
      have ed : a.defers = (putOf ops vals (List.range n) a0).defers := by rw [putOf_defers]; exact h.defers
      cases a
      generalize putOf ops vals (List.range n) a0 = b at *
      cases b
      simp_all
    have hcnt : ops.size - n ≤ fuel := by
      refine Nat.le_trans ?_ hc
      have h1 : (listed.toList.drop n).count false = ops.size - n := by
        rw [List.count_eq_length.2]
        · simp [h.len]
        · intro b hb'
          obtain ⟨i, hi, rfl⟩ := List.mem_iff_getElem.1 hb'
          simp only [List.length_drop, Array.length_toList] at hi
          have := hun (n + i) (by omega) (by rw [← h.len]; omega)
          rw [Array.getElem?_eq_getElem (by omega)] at this
          simpa using (Option.some.inj this).symm
      rw [← h1]
      exact (List.drop_sublist n _).count_le false
    exact wpAny_tail3 hb htl fuel n listed a w (Nat.le_refl _) hnle hcnt h.len hall hun (e ▸ hend vals w (h.inv.1 (hall k0 hk0)) (fun j hj => h.got j (hall j hj)))
  intro fuel
  induction fuel with
  | zero =>
    intro listed vals a w hc hun h
    refine fin 0 listed vals a w hc hun h fun j hj => ?_
    have hjl : j < listed.size := by rw [h.len]; omega
    rw [Array.getElem?_eq_getElem hjl]
    have h0 : listed.toList.count false = 0 := by omega
    have := List.count_eq_zero.1 h0
    cases hv : listed[j] with
    | true => rfl
    | false => exact (this (hv ▸ (by simp))).elim
  | succ fuel ih =>
    intro listed vals a w hc hun h
    by_cases hall : ∀ j : Nat, j < n → listed[j]? = some true
    · exact fin _ listed vals a w hc hun h hall
    refine ⟨fun hr => (hall fun j hj => ready_least rfl hb h.len hr j (by omega)).elim, fun k hk => ?_⟩
    obtain ⟨hu, o, ho, hedge⟩ := mem_ready.1 hk
    have hku := unlisted_of_getD hu
    have hklt : k < ops.size := (Array.getElem?_eq_some_iff.1 ho).1
    have hkn : k < n := by
      rcases Nat.lt_or_ge k n with hx | hx
      · exact hx
      · exact (hall fun j hj => by
          exact behindB h.closed ho (fun i hi => by
            obtain ⟨e, he, hbd, hon⟩ := ahead_of_edge hi
            exact hon ▸ listed_of_getD (hedge e he hbd)) ((tail_ahead3 htl ho hx).1 j hj)).elim
    have hah : ∀ i ∈ ahead o, listed[i]? = some true := by
      intro i hi
      obtain ⟨e, he, rfl⟩ := List.mem_map.1 hi
      obtain ⟨h1, h2⟩ := List.mem_filter.1 he
      exact listed_of_getD (hedge e (by simpa using h1) h2)
    have hlk := List.all_eq_true.1 hlo k (List.mem_range.2 hklt)
    simp only [ho, Bool.and_eq_true] at hlk
    obtain ⟨⟨hsel, hpre⟩, hlk⟩ := hlk
    have hpre' : ∀ i ∈ L.getD k [], i ∈ ahead o := fun i hi => by simpa using List.all_eq_true.1 hpre i hi
    have hsame : ∀ t ∈ o.looksAt ops, a.tmps[t]? = (putOf ops vals (L.getD k []) a0).tmps[t]? := by
      intro t ht
      have h1 := List.all_eq_true.1 hlk t ht
      by_cases hx : ∃ j : Nat, listed[j]? = some true ∧ slot ops j = some t
      · obtain ⟨j, hj, hjt⟩ := hx
        have hjlt : j < ops.size := by rw [← h.len]; exact (Array.getElem?_eq_some_iff.1 hj).1
        have h2 := List.all_eq_true.1 h1 j (List.mem_range.2 hjlt)
        have hoj : ops[j]? = some ops[j] := Array.getElem?_eq_getElem hjlt
        simp only [hoj, Bool.or_eq_true, bne_iff_ne, ne_eq, List.contains_eq_mem, decide_eq_true_eq] at h2
        have hjin : j ∈ L.getD k [] := by
          rcases h2 with (h2 | h2) | h2
          · exact (h2 hjt).elim
          · exact h2
          · have := h.closed j _ hoj hj k h2
            rw [hku] at this; cases this
        rw [h.new j t hj hjt, putOf_mem hap vals _ _ j t hjin hjt (hsz j t hjt)]
      · rw [h.old t (fun j hj e => hx ⟨j, hj, e⟩), putOf_other ops vals _ _ t (fun j hj e => hx ⟨j, hah j (hpre' j hj), e⟩)]
    have hk0l : k0 < listed.size := by rw [h.len]; omega
    have hsd := Array.getElem?_eq_getElem hk0l
    have hJ : J w := by
      cases hv : listed[k0] with
      | true => rw [hv] at hsd; exact hJ1 _ _ (h.inv.1 hsd)
      | false => rw [hv] at hsd; exact hJ0 _ (h.inv.2 hsd)
    have hph : k = k0 ∨ PL.getD k false = true ∨ listed[k0]? = some false := by
      by_cases e : k = k0
      · exact .inl e
      · have hok0 : ops[k0]? = some ops[k0] := Array.getElem?_eq_getElem (by omega)
        rcases hPL _ k hok0 hkn e with hp | hp
        · exact .inr (.inl hp)
        · refine .inr (.inr ?_)
          cases hv : listed[k0] with
          | false => rw [hsd, hv]
          | true =>
            rw [hv] at hsd
            have := closedB h.closed 12 k0 k hp hsd
            rw [hku] at this; cases this
    have hd := hop k o hkn ho vals w (by
      unfold Inw
      by_cases e : k = k0
      · rw [if_pos e]; subst e; exact h.inv.2 hku
      · rw [if_neg e]
        split
        · exact hJ
        · rename_i hnp
          rcases hph with hp | hp | hp
          · exact (e hp).elim
          · exact (hnp hp).elim
          · exact h.inv.2 hp) (fun j hj => h.got j (hah j (hpre' j hj)))
    have hdst : slot ops k = o.dst := by unfold slot; rw [ho]; rfl
    refine wpOp_mono ?_ (wpOp_of_list (Q := Q) (a := a) ho ?_ ?_ (exec_congr (fun cs c e => ?_) hsame) (wanted_congr hsame) hd)
    · rintro a' w' ⟨v, rfl, hO, hR⟩
      have hSw : S w w' := by
        unfold Outw at hO
        split at hO
        · exact hO.2
        · split at hO
          · rw [hO]; exact hS0 w
          · exact hO.2
      refine ih (listed.setIfInBounds k true) (upd vals k (if o.dst.isSome then v else undef)) _ w' (by have := count_set hku; omega) (fun j hj hjs => by rw [set_get hku, if_neg (by omega)]; exact hun j hj hjs) ?_
      refine ⟨?_, ?_, ?_, ?_, ?_, ?_, ?_, ?_⟩
      · by_cases e : k = k0
        · subst e
          unfold Outw at hO
          rw [if_pos rfl] at hO
          refine ⟨fun _ => ?_, fun hf => ?_⟩
          · rw [upd_same]; exact hO.1
          · rw [set_get hku, if_pos rfl] at hf; cases hf
        · unfold Outw at hO
          rw [if_neg e] at hO
          have e2 : k0 ≠ k := fun h => e h.symm
          refine ⟨fun ht => ?_, fun hf => ?_⟩
          · rw [set_get hku, if_neg e2] at ht
            rw [upd_other e2]
            split at hO
            · rw [hO]; exact h.inv.1 ht
            · rename_i hnp
              rcases hph with hp | hp | hp
              · exact (e hp).elim
              · exact (hnp hp).elim
              · rw [ht] at hp; cases hp
          · rw [set_get hku, if_neg e2] at hf
            split at hO
            · rw [hO]; exact h.inv.2 hf
            · exact hO.1
      · rw [Array.size_setIfInBounds]; exact h.len
      · rw [← h.defers]; cases o.dst <;> rfl
      · rw [← h.size]; cases o.dst <;> simp [Act.put]
      · intro j oj hoj hj i hi
        rw [set_get hku] at hj ⊢
        by_cases ei : i = k
        · rw [if_pos ei]
        · rw [if_neg ei]
          by_cases ej : j = k
          · subst ej
            rw [ho] at hoj; cases hoj
            exact hah i hi
          · rw [if_neg ej] at hj
            exact h.closed j oj hoj hj i hi
      · intro t ht
        have hne : o.dst ≠ some t := by rw [← hdst]; exact ht k (by rw [set_get hku, if_pos rfl])
        rw [put_get_ne hne]
        refine h.old t fun j hj => ht j ?_
        rw [set_get hku]; split <;> first | rfl | exact hj
      · intro j t hj hjt
        rw [set_get hku] at hj
        by_cases ej : j = k
        · subst ej
          rw [hdst] at hjt
          rw [hjt, put_get_eq (by rw [h.size]; exact hsz j t (by rw [hdst]; exact hjt)), upd_same]
          simp
        · rw [if_neg ej] at hj
          rw [upd_other ej]
          have hne : o.dst ≠ some t := by
            intro e
            exact ej (apart_inj hap hjt (by rw [hdst]; exact e))
          rw [put_get_ne hne]
          exact h.new j t hj hjt
      · intro j hj
        rw [set_get hku] at hj
        by_cases ej : j = k
        · subst ej
          exact hR
        · rw [if_neg ej] at hj
          have hjlt : j < ops.size := by rw [← h.len]; exact (Array.getElem?_eq_some_iff.1 hj).1
          have hoj : ops[j]? = some ops[j] := Array.getElem?_eq_getElem hjlt
          have hlj := List.all_eq_true.1 hlo j (List.mem_range.2 hjlt)
          simp only [hoj, Bool.and_eq_true] at hlj
          refine hC j vals _ w' (fun i hi => ?_) (hS j _ w w' hSw (h.got j hj))
          have hik : i ≠ k := by
            rcases hi with rfl | hi
            · exact ej
            · intro e
              have h1 : i ∈ ahead ops[j] := by simpa using List.all_eq_true.1 hlj.1.2 i hi
              have h2 := h.closed j _ hoj hj i h1
              rw [e, hku] at h2; cases h2
          rw [upd_other hik]
    · intro hnone v u w'
      unfold resg
      rw [hnone]
      exact id
    · intro t ht
      rw [putOf_size]
      exact hsz k t (by rw [hdst]; exact ht)
    · rw [e] at hsel; cases hsel
/-- the checks -/
def regOk3 (ops : Array Oper) (D : List (Option Tmp)) (L : List (List Nat)) (n N : Nat) : Bool := decide (n ≤ ops.size) && tailOk3 ops n && backOk ops && apartB ops && looksOk ops L &&
  ((List.range ops.size).all fun j => match slot ops j with | some t => decide (t < N) | none => true) && ((List.range ops.size).all fun j => slot ops j == D.getD j none) &&
  (List.range ops.size).all fun k => match (ops[k]?).bind (·.guard) with | none => true | some (g, _) => (L.getD k []).contains g && (D.getD g none).isSome
theorem region_anyx {id : Nat} {l : List Oper} {a0 : Act} {w0 : World} (n : Nat) (D : List (Option Tmp)) (L : List (List Nat)) (I0 : World → Prop) (I1 : Value → World → Prop) (J : World → Prop) (k0 : Nat) (PL : List Bool) (S : World → World → Prop) (R : Nat → (Nat → Value) → World → Prop) (hm : P.follows .mixedOrders = true)
    (hok : regOk3 l.toArray D L n a0.tmps.size = true) (h0 : I0 w0.drew) (hk0 : k0 < n) (hPL : (List.range n).all (fun k => k == k0 || PL.getD k false || aheadB l.toArray 12 k0 k) = true) (hJ0 : ∀ w, I0 w → J w) (hJ1 : ∀ u w, I1 u w → J w) (hS0 : ∀ w, S w w)
    (hS : ∀ j v w w', S w w' → R j v w → R j v w') (hC : ∀ j v v' w, (∀ i, i = j ∨ i ∈ L.getD j [] → v i = v' i) → R j v w → R j v' w)
    (hop : OwesAllw P D L I0 I1 J k0 PL S R a0 0 n l)
    (hend : ∀ (vals : Nat → Value) (w : World), I1 (vals k0) w → (∀ j : Nat, j < n → R j vals w) → wpList P l.toArray Q (l.drop n) (putD D vals (List.range n) a0) w) :
    (Code.region id l.toArray true).wp P Q a0 w0 := by
  simp only [regOk3, Bool.and_eq_true] at hok
  obtain ⟨⟨⟨⟨⟨⟨⟨hnle, htl⟩, hb⟩, hap⟩, hlo⟩, hsz⟩, hD⟩, hgd⟩ := hok
  have hnle' := of_decide_eq_true hnle
  have slot_lt : ∀ {j t : Nat}, slot l.toArray j = some t → j < l.toArray.size := by
    intro j t hj
    unfold slot at hj
    cases hk : l.toArray[j]? with
    | none => rw [hk] at hj; cases hj
    | some o => exact (Array.getElem?_eq_some_iff.1 hk).1
  have hsz' : ∀ j t, slot l.toArray j = some t → t < a0.tmps.size := by
    intro j t hj
    have h1 := List.all_eq_true.1 hsz j (List.mem_range.2 (slot_lt hj))
    simp only [hj] at h1
    exact of_decide_eq_true h1
  have hD' : ∀ j, j < l.toArray.size → slot l.toArray j = D.getD j none := fun j hj => by simpa using List.all_eq_true.1 hD j (List.mem_range.2 hj)
  refine wp_region_any hm ?_
  refine wpAny_heldx hb hap hlo hnle' htl (I0 := I0) (I1 := I1) (J := J) (k0 := k0) (PL := PL) (S := S) (R := R) (a0 := a0) hsz' hS hC hk0 (fun o k ho hk hne => ?_) hJ0 hJ1 hS0 (fun k o hk ho => ?_) (fun vals w hI hR => ?_) _ _ (fun _ => undef) a0 _ ?_ ?_ ?_
  · have h1 := List.all_eq_true.1 hPL k (List.mem_range.2 hk)
    simp only [Bool.or_eq_true, beq_iff_eq] at h1
    rcases h1 with (h1 | h1) | h1
    · exact (hne h1).elim
    · exact .inl h1
    · exact .inr h1
  · have hklt : k < l.toArray.size := (Array.getElem?_eq_some_iff.1 ho).1
    have h1 := owes_of_allw l 0 n hop k o hk (by simpa using ho)
    rw [Nat.zero_add] at h1
    have hlk := List.all_eq_true.1 hlo k (List.mem_range.2 hklt)
    simp only [ho, Bool.and_eq_true] at hlk
    refine does_of_owesw hD' (fun j hj => ?_) hap hsz' (fun g want hg => ?_) h1
    · have h2 : j ∈ ahead o := by simpa using List.all_eq_true.1 hlk.1.2 j hj
      have h3 := List.all_eq_true.1 hb k (List.mem_range.2 hklt)
      simp only [ho] at h3
      have := of_decide_eq_true (List.all_eq_true.1 h3 j h2)
      omega
    · have h2 := List.all_eq_true.1 hgd k (List.mem_range.2 hklt)
      simp only [ho, Option.bind_some, hg, Bool.and_eq_true] at h2
      have hgl : g ∈ L.getD k [] := by simpa using h2.1
      refine ⟨hgl, ?_⟩
      have h4 : g ∈ ahead o := by simpa using List.all_eq_true.1 hlk.1.2 g hgl
      have h3 := List.all_eq_true.1 hb k (List.mem_range.2 hklt)
      simp only [ho] at h3
      have := of_decide_eq_true (List.all_eq_true.1 h3 g h4)
      rw [hD' g (by omega)]; exact h2.2
  · rw [putD_eq hD' vals _ _ (fun j hj => by have := List.mem_range.1 hj; omega)]
    exact hend vals w hI hR
  · simp
  · intro j _ hj
    rw [Array.getElem?_replicate, if_pos hj]
  · refine ⟨⟨fun hf => ?_, fun _ => h0⟩, by simp, rfl, rfl, ?_, fun _ _ => rfl, ?_, ?_⟩
    · rw [Array.getElem?_replicate] at hf
      split at hf <;> simp at hf
    · intro j o _ hj
      rw [Array.getElem?_replicate] at hj
      split at hj <;> simp at hj
    · intro j t hj
      rw [Array.getElem?_replicate] at hj
      split at hj <;> simp at hj
    · intro j hj
      rw [Array.getElem?_replicate] at hj
      split at hj <;> simp at hj
/-- A REGION THAT DRAWS ITS ORDER, in which operation k0 alone writes what others may see. I0: what holds ahead of it; I1: behind it, of its result; J: throughout. -/
theorem region_x {id : Nat} {l : List Oper} {a0 : Act} {w0 : World} (n N : Nat) (D : List (Option Tmp)) (L : List (List Nat)) (LV : List (Nat × Value)) (k0 : Nat) (PL : List Bool) (I0 : World → Prop) (I1 : Value → World → Prop) (J : World → Prop) (S : World → World → Prop) (RL : List ((Nat → Value) → World → Prop)) (hm : P.follows .mixedOrders = true)
    (hok : regOk3 l.toArray D L n N = true) (hN : a0.tmps.size = N) (hLV : Lives a0 LV) (h0 : I0 w0.drew) (hk0 : k0 < n)
    (hPL : (List.range n).all (fun k => k == k0 || PL.getD k false || aheadB l.toArray 12 k0 k) = true) (hJ0 : ∀ w, I0 w → J w) (hJ1 : ∀ u w, I1 u w → J w) (hS0 : ∀ w, S w w) (hS : Stabg S RL)
    (hop : ∀ b0 : Act, b0.tmps.size = N → Lives b0 LV → OwesAllw P D L I0 I1 J k0 PL S (atg L RL) b0 0 n l)
    (hend : ∀ (vals : Nat → Value) (w : World), I1 (vals k0) w → (∀ j : Nat, j < n → atg L RL j vals w) → wpList P l.toArray Q (l.drop n) (putD D vals (List.range n) a0) w) :
    (Code.region id l.toArray true).wp P Q a0 w0 := by
  refine region_anyx n D L I0 I1 J k0 PL S (atg L RL) hm (hN ▸ hok) h0 hk0 hPL hJ0 hJ1 hS0 (fun j v w w' hs h => hS.get j _ w w' hs h) (fun j v v' w hv h => ?_) (hop a0 hN hLV) hend
  unfold atg at *
  have e : rs L j v = rs L j v' := by
    funext i
    unfold rs
    split
    · rename_i hi
      exact hv i (by simpa using hi)
    · rfl
  rw [← e]; exact h
end Go.Proofs.YthffegfcgmhppaaDoor.Roll
namespace Go.Proofs.YthffegfcgmhppaaDoor
open Go.RowKit
set_option linter.unusedSimpArgs false
set_option linter.unusedVariables false
def Dtn5 : List (Option Tmp) := [some 18, some 19, some 20, some 21, some 22, some 23, some 24, some 25, some 26, some 27, some 28, some 29, some 30, some 31, some 32, some 33, some 34, some 35, some 36, some 37, some 38, some 39, some 5]
def Ltn5 : List (List Nat) := [[], [], [], [1, 2], [3], [], [4, 5], [], [], [8], [7, 9], [10], [11], [], [], [14], [13, 15], [16], [17], [6, 12, 18], [19], [0, 20], [21]]
theorem run_tornB (x y z : Int) (W : World) : (Instr.build 73 #[(0, .int .i64 x), (1, .int .i64 y), (2, .int .i64 z)]).run Tryd.prog W = .ok (.agg #[.int .i64 x, .int .i64 y, .int .i64 z]) W := by kernel_rfl
set_option maxRecDepth 100000 in
set_option maxHeartbeats 2000000 in
theorem torn_any (D : Nat → Prop) (a : Option Addr) (n c : Nat) (l : List Int) (S : Nat) (w : World) (hI : Is D w a n c l) (h64 : Ok64 l) (hS1 : 1 ≤ S) (hS2 : S ≤ 4096) :
    Calls Tryd.prog 14 #[.slice a n c, .int .i64 (S : Int)] w fun e w' => ∃ v ts, e = .returned v ∧ ts.length ≤ 20 ∧ Lv w w' [tornO v ts] := by
  have HI := Lib.hid hI
  have H64 := Lib.hid h64
  have hl := hI.1
  have HLL := Lib.hid hl
  have hnc : n ≤ c := hI.2.2.1
  have hnm : c ≤ 9223372036854775807 := hI.2.2.2.1
  have HNC := Lib.hid hnc
  clear hI h64 hl
  go_enter Tryd.func14, Tryd.ntmps14
  go_wp2_with fail
  go_loopw [5, 6] (fun u t wr => ∃ (i : Nat) (v0 : Value) (ts : List TM), v0 = u ∧ t = .int .i64 (i : Int) ∧ i = 3 * ts.length ∧ i ≤ 60 ∧ Lv w wr [accO v0 ts]) (fun _ t _ => 100 - (intOf t).toNat)
  case atStart => exact ⟨0, _, [], rfl, rfl, rfl, by omega, (Lv.refl w).acc0⟩
  case round =>
    obtain ⟨i, v0, ts, hv0, rfl, hit, hi60, hL⟩ := hrel
    subst hv0
    have HL := Lib.hid hL
    have HIT : Hid (i = 3 * ts.length ∧ i ≤ 60) := Lib.hid ⟨hit, hi60⟩
    clear hit
    obtain ⟨i2, hi2⟩ : ∃ i2, i2 = i + 2 := ⟨_, rfl⟩
    have hw2 : IntKind.i64.wrap ((i : Int) + 2) = (i2 : Int) := by rw [i64_id _ (by omega) (by omega)]; omega
    by_cases hlt : i2 < n
    · have hlt2 : (i2 : Int) < (n : Int) := by omega
      by_cases h60 : i < 60
      · have h602 : (i : Int) < 60 := by omega
        obtain ⟨b, off, -, hbs0, rfl, hcell00⟩ := HI.out.cells (by omega)
        have hbs : b < wr.heap.size := Nat.lt_of_lt_of_le hbs0 hL.args.size
        have hcell0 : ∀ q (hq : q < l.length), wr.cell? ⟨b, off + q, none⟩ = some (.int .i64 l[q]) := fun q hq => (hL.args.cell (p := ⟨b, off + q, none⟩) hbs0).trans (hcell00 q hq)
        obtain ⟨i1, hi1⟩ : ∃ i1, i1 = i + 1 := ⟨_, rfl⟩
        have HW1 : Hid (IntKind.i64.wrap ((i : Int) + 1) = (i1 : Int)) := Lib.hid (by rw [i64_id _ (by omega) (by omega)]; omega)
        have HW2 := Lib.hid hw2
        have hw3 : IntKind.i64.wrap ((i : Int) + 3) = (i : Int) + 3 := i64_id _ (by omega) (by omega)
        have HI0 : Hid ((i : Int) < (n : Int)) := Lib.hid (by omega)
        have HI1 : Hid ((i1 : Int) < (n : Int)) := Lib.hid (by omega)
        have HI2 : Hid ((i2 : Int) < (n : Int)) := Lib.hid (by omega)
        have hq0 : i < l.length := by rw [HLL.out]; omega
        have hq1 : i1 < l.length := by rw [HLL.out]; omega
        have hq2 : i2 < l.length := by rw [HLL.out]; omega
        obtain ⟨X0, hX0⟩ : ∃ x, x = l[i]'hq0 := ⟨_, rfl⟩
        obtain ⟨X1, hX1⟩ : ∃ x, x = l[i1]'hq1 := ⟨_, rfl⟩
        obtain ⟨X2, hX2⟩ : ∃ x, x = l[i2]'hq2 := ⟨_, rfl⟩
        have C0 := Lib.hid (hcell0 i hq0)
        have C1 := Lib.hid (hcell0 i1 hq1)
        have C2 := Lib.hid (hcell0 i2 hq2)
        rw [← hX0] at C0
        rw [← hX1] at C1
        rw [← hX2] at C2
        have B0 := H64.out X0 (by rw [hX0]; exact List.getElem_mem _)
        have B1 := H64.out X1 (by rw [hX1]; exact List.getElem_mem _)
        have B2 := H64.out X2 (by rw [hX2]; exact List.getElem_mem _)
        obtain ⟨A0, hA0⟩ : ∃ x, x = around X0 (S : Int) := ⟨_, rfl⟩
        obtain ⟨A1, hA1⟩ : ∃ x, x = around X1 5 := ⟨_, rfl⟩
        obtain ⟨A2, hA2⟩ : ∃ x, x = around X2 65 := ⟨_, rfl⟩
        have ab0 := around_bd X0 (S : Int) (by omega)
        rw [← hA0] at ab0
        have HAR0 : Hid (∀ u, Calls Tryd.prog 6 #[.int .i64 X0, .int .i64 (S : Int)] u fun e w' => e = .returned (.int .i64 A0) ∧ u = w') := Lib.hid (fun u => by rw [hA0]; exact around_any X0 (S : Int) u B0.1 B0.2 (by omega) (by omega))
        have HAR1 : Hid (∀ u, Calls Tryd.prog 6 #[.int .i64 X1, .int .i64 5] u fun e w' => e = .returned (.int .i64 A1) ∧ u = w') := Lib.hid (fun u => by rw [hA1]; exact around_any X1 5 u B1.1 B1.2 (by omega) (by omega))
        have HAR2 : Hid (∀ u, Calls Tryd.prog 6 #[.int .i64 X2, .int .i64 65] u fun e w' => e = .returned (.int .i64 A2) ∧ u = w') := Lib.hid (fun u => by rw [hA2]; exact around_any X2 65 u B2.1 B2.2 (by omega) (by omega))
        obtain ⟨tm, htm⟩ : ∃ tm : TM, tm = ⟨A0, A1, A2⟩ := ⟨_, rfl⟩
        have HTC : Hid (tcells [tm] = [.int .i64 A0, .int .i64 A1, .int .i64 A2]) := Lib.hid (by rw [htm]; rfl)
        have HTK : Hid (∀ t ∈ [tm], TOk t) := Lib.hid (fun t ht => by rw [List.mem_singleton.1 ht, htm]; exact ⟨by simp only; omega, by simp only; omega⟩)
        have HBD : Hid (ts.length + [tm].length ≤ 1000000) := Lib.hid (by have := HIT.out; simp only [List.length_cons, List.length_nil]; omega)
        have HBQ := Lib.hid hbs
        obtain ⟨Bq, ⟨kq, hown, hkB, hts⟩, hltB, -, hset⟩ := hL.get (i := 0) rfl
        have HOW := Lib.hid hown
        have HKB := Lib.hid hkB
        have HTS := Lib.hid hts
        have HST := Lib.hid hset
        have HKQ : Hid (∀ x, kq = some x → x < wr.heap.size) := Lib.hid (fun x hx => hown.lt x hx)
        have HBK : Hid (¬ kq = some b) := Lib.hid (fun e => by have := (hltB b (hkB b e)).1; omega)
        clear hown hkB hts hset hltB
        clear hcell0 hcell00 hX0 hX1 hX2 hA0 hA1 hA2 htm B0 B1 B2 ab0 hL hi1 hi2
        go_upto_region 5 with fail
        refine Roll.region_v 22 41 Dtn5 Ltn5 [(0, .slice (some ⟨b, off, none⟩) n c), (1, .int .i64 (S : Int)), (5, v0), (6, .int .i64 (i : Int))] 21 [true, true, true, true, true, true, true, true, true, true, true, true, true, true, true, true, true, true, true, true, false, false] (fun p => Below wr.heap.size wr p) (fun vv p => ∃ k', Own p 73 3 k' vv (ts.length + 1) (tcells ts ++ tcells [tm]) ∧ (∀ j, k' = some j → kq = some j ∨ wr.heap.size ≤ j) ∧ Kept (fun j => kq = some j) wr p) (fun p => Kept (fun j => kq = some j) wr p) (fun p p2 => Kept (fun j => kq = some j) p p2) [fun vv p => (vv 0) = v0, fun vv p => (vv 1) = .slice (some ⟨b, off, none⟩) n c, fun vv p => (vv 2) = .int .i64 (i : Int), fun vv p => (vv 3) = .pointer (some ⟨b, off + i, none⟩), fun vv p => (vv 4) = .int .i64 X0, fun vv p => (vv 5) = .int .i64 (S : Int), fun vv p => (vv 6) = .int .i64 A0, fun vv p => (vv 7) = .slice (some ⟨b, off, none⟩) n c, fun vv p => (vv 8) = .int .i64 (i : Int), fun vv p => (vv 9) = .int .i64 (i1 : Int), fun vv p => (vv 10) = .pointer (some ⟨b, off + i1, none⟩), fun vv p => (vv 11) = .int .i64 X1, fun vv p => (vv 12) = .int .i64 A1, fun vv p => (vv 13) = .slice (some ⟨b, off, none⟩) n c, fun vv p => (vv 14) = .int .i64 (i : Int), fun vv p => (vv 15) = .int .i64 (i2 : Int), fun vv p => (vv 16) = .pointer (some ⟨b, off + i2, none⟩), fun vv p => (vv 17) = .int .i64 X2, fun vv p => (vv 18) = .int .i64 A2, fun vv p => (vv 19) = .agg #[.int .i64 A0, .int .i64 A1, .int .i64 A2], fun vv p => ∃ x, (vv 20) = .slice (some ⟨x, 0, none⟩) 1 1 ∧ wr.heap.size ≤ x ∧ p.heap[x]? = some (.cells #[.int .i64 A0, .int .i64 A1, .int .i64 A2] 73 (0, 0)), fun vv p => True] (by kernel_rfl) (by kernel_rfl) rfl ⟨rfl, rfl, rfl, rfl, trivial⟩ ((Below.refl _ _).drew) (by decide) (by kernel_rfl) (fun _ h => Kept.of_below _ h) (fun _ _ h => by obtain ⟨_, _, _, h⟩ := h; exact h) (fun _ => Kept.refl _ _) ?_ ?_ ?_
        · exact ⟨fun _ _ _ _ h => h, fun _ _ _ _ h => h, fun _ _ _ _ h => h, fun _ _ _ _ h => h, fun _ _ _ _ h => h, fun _ _ _ _ h => h, fun _ _ _ _ h => h, fun _ _ _ _ h => h, fun _ _ _ _ h => h, fun _ _ _ _ h => h, fun _ _ _ _ h => h, fun _ _ _ _ h => h, fun _ _ _ _ h => h, fun _ _ _ _ h => h, fun _ _ _ _ h => h, fun _ _ _ _ h => h, fun _ _ _ _ h => h, fun _ _ _ _ h => h, fun _ _ _ _ h => h, fun _ _ _ _ h => h, fun _ _ _ hs h => by obtain ⟨x, e1, e2, e3⟩ := h; exact ⟨x, e1, e2, hs.heap e3 (fun e => by have := HKQ.out x e; omega)⟩, fun _ _ _ _ h => h, trivial⟩
        · intro b0 hN hlv
          refine ⟨?_, ?_, ?_, ?_, ?_, ?_, ?_, ?_, ?_, ?_, ?_, ?_, ?_, ?_, ?_, ?_, ?_, ?_, ?_, ?_, ?_, ?_, trivial⟩
          · intro vs p hI0 hp
            have hI := Roll.inw_pure (by decide) rfl hI0
            clear hI0
            have e5 : (Roll.putD Dtn5 vs [] b0).eval (.tmp 5) = v0 := (Roll.eval_old rfl).trans (hlv.at 2 (5, v0) rfl)
            clear hp hlv hN
            unfold Roll.Goes
            simp only [Ltn5, List.getD_cons_zero, List.getD_cons_succ]
            generalize Roll.putD Dtn5 vs [] b0 = a1 at *
            refine Roll.goes_val (w' := p) (v0) rfl ?_ ⟨(Roll.outw_pure (by decide) rfl), rfl⟩
            (have ec : ∀ x, a1.eval (.const x) = x := fun _ => rfl); (have ef : ∀ x, a1.eval (.func x) = .func (.func x) #[] #[] := fun _ => rfl); generalize a1.eval = ρ at *
            skip
            go_simp <;> (intros; first | (exfalso; omega) | rfl)
          · intro vs p hI0 hp
            have hI := Roll.inw_pure (by decide) rfl hI0
            clear hI0
            have e0 : (Roll.putD Dtn5 vs [] b0).eval (.tmp 0) = .slice (some ⟨b, off, none⟩) n c := (Roll.eval_old rfl).trans (hlv.at 0 (0, .slice (some ⟨b, off, none⟩) n c) rfl)
            clear hp hlv hN
            unfold Roll.Goes
            simp only [Ltn5, List.getD_cons_zero, List.getD_cons_succ]
            generalize Roll.putD Dtn5 vs [] b0 = a1 at *
            refine Roll.goes_val (w' := p) (.slice (some ⟨b, off, none⟩) n c) rfl ?_ ⟨(Roll.outw_pure (by decide) rfl), rfl⟩
            (have ec : ∀ x, a1.eval (.const x) = x := fun _ => rfl); (have ef : ∀ x, a1.eval (.func x) = .func (.func x) #[] #[] := fun _ => rfl); generalize a1.eval = ρ at *
            skip
            go_simp <;> (intros; first | (exfalso; omega) | rfl)
          · intro vs p hI0 hp
            have hI := Roll.inw_pure (by decide) rfl hI0
            clear hI0
            have e6 : (Roll.putD Dtn5 vs [] b0).eval (.tmp 6) = .int .i64 (i : Int) := (Roll.eval_old rfl).trans (hlv.at 3 (6, .int .i64 (i : Int)) rfl)
            clear hp hlv hN
            unfold Roll.Goes
            simp only [Ltn5, List.getD_cons_zero, List.getD_cons_succ]
            generalize Roll.putD Dtn5 vs [] b0 = a1 at *
            refine Roll.goes_val (w' := p) (.int .i64 (i : Int)) rfl ?_ ⟨(Roll.outw_pure (by decide) rfl), rfl⟩
            (have ec : ∀ x, a1.eval (.const x) = x := fun _ => rfl); (have ef : ∀ x, a1.eval (.func x) = .func (.func x) #[] #[] := fun _ => rfl); generalize a1.eval = ρ at *
            skip
            go_simp <;> (intros; first | (exfalso; omega) | rfl)
          · intro vs p hI0 hp
            have hI := Roll.inw_pure (by decide) rfl hI0
            clear hI0
            have h1 : (vs 1) = .slice (some ⟨b, off, none⟩) n c := hp 1 (by simp [Ltn5])
            have h2 : (vs 2) = .int .i64 (i : Int) := hp 2 (by simp [Ltn5])
            have e19 : (Roll.putD Dtn5 vs [1, 2] b0).eval (.tmp 19) = .slice (some ⟨b, off, none⟩) n c := (Roll.eval_new 1 rfl (by decide) (by decide) (by omega)).trans h1
            have e20 : (Roll.putD Dtn5 vs [1, 2] b0).eval (.tmp 20) = .int .i64 (i : Int) := (Roll.eval_new 2 rfl (by decide) (by decide) (by omega)).trans h2
            clear hp hlv hN
            unfold Roll.Goes
            simp only [Ltn5, List.getD_cons_zero, List.getD_cons_succ]
            generalize Roll.putD Dtn5 vs [1, 2] b0 = a1 at *
            have hh1 := HI0.out
            have hh2 := HNC.out
            refine Roll.goes_val (w' := p) (.pointer (some ⟨b, off + i, none⟩)) rfl ?_ ⟨(Roll.outw_pure (by decide) rfl), rfl⟩
            (have ec : ∀ x, a1.eval (.const x) = x := fun _ => rfl); (have ef : ∀ x, a1.eval (.func x) = .func (.func x) #[] #[] := fun _ => rfl); generalize a1.eval = ρ at *
            clear h1 h2
            go_simp <;> (intros; first | (exfalso; omega) | rfl)
          · intro vs p hI0 hp
            have hI := Roll.inw_pure (by decide) rfl hI0
            clear hI0
            have h3 : (vs 3) = .pointer (some ⟨b, off + i, none⟩) := hp 3 (by simp [Ltn5])
            have e21 : (Roll.putD Dtn5 vs [3] b0).eval (.tmp 21) = .pointer (some ⟨b, off + i, none⟩) := (Roll.eval_new 3 rfl (by decide) (by decide) (by omega)).trans h3
            clear hp hlv hN
            unfold Roll.Goes
            simp only [Ltn5, List.getD_cons_zero, List.getD_cons_succ]
            generalize Roll.putD Dtn5 vs [3] b0 = a1 at *
            have cf : p.cell? ⟨b, off + i, none⟩ = some (.int .i64 X0) := (hI.cell (p := ⟨b, off + i, none⟩) HBQ.out HBK.out).trans C0.out
            refine Roll.goes_val (w' := p) (.int .i64 X0) rfl ?_ ⟨(Roll.outw_pure (by decide) rfl), rfl⟩
            (have ec : ∀ x, a1.eval (.const x) = x := fun _ => rfl); (have ef : ∀ x, a1.eval (.func x) = .func (.func x) #[] #[] := fun _ => rfl); generalize a1.eval = ρ at *
            clear h3
            go_simp <;> (intros; first | (exfalso; omega) | rfl)
          · intro vs p hI0 hp
            have hI := Roll.inw_pure (by decide) rfl hI0
            clear hI0
            have e1 : (Roll.putD Dtn5 vs [] b0).eval (.tmp 1) = .int .i64 (S : Int) := (Roll.eval_old rfl).trans (hlv.at 1 (1, .int .i64 (S : Int)) rfl)
            clear hp hlv hN
            unfold Roll.Goes
            simp only [Ltn5, List.getD_cons_zero, List.getD_cons_succ]
            generalize Roll.putD Dtn5 vs [] b0 = a1 at *
            refine Roll.goes_val (w' := p) (.int .i64 (S : Int)) rfl ?_ ⟨(Roll.outw_pure (by decide) rfl), rfl⟩
            (have ec : ∀ x, a1.eval (.const x) = x := fun _ => rfl); (have ef : ∀ x, a1.eval (.func x) = .func (.func x) #[] #[] := fun _ => rfl); generalize a1.eval = ρ at *
            skip
            go_simp <;> (intros; first | (exfalso; omega) | rfl)
          · intro vs p hI0 hp
            have hI := Roll.inw_pure (by decide) rfl hI0
            clear hI0
            have h4 : (vs 4) = .int .i64 X0 := hp 4 (by simp [Ltn5])
            have h5 : (vs 5) = .int .i64 (S : Int) := hp 5 (by simp [Ltn5])
            have e22 : (Roll.putD Dtn5 vs [4, 5] b0).eval (.tmp 22) = .int .i64 X0 := (Roll.eval_new 4 rfl (by decide) (by decide) (by omega)).trans h4
            have e23 : (Roll.putD Dtn5 vs [4, 5] b0).eval (.tmp 23) = .int .i64 (S : Int) := (Roll.eval_new 5 rfl (by decide) (by decide) (by omega)).trans h5
            clear hp hlv hN
            unfold Roll.Goes
            simp only [Ltn5, List.getD_cons_zero, List.getD_cons_succ]
            generalize Roll.putD Dtn5 vs [4, 5] b0 = a1 at *
            refine Roll.goes_call 6 #[.int .i64 X0, .int .i64 (S : Int)] p rfl (by have ec : ∀ x, a1.eval (.const x) = x := fun _ => rfl; have ef : ∀ x, a1.eval (.func x) = .func (.func x) #[] #[] := fun _ => rfl; generalize a1.eval = ρ at *; go_simp) ?_
            refine (HAR0.out p).mono ?_
            rintro y p2 ⟨rfl, rfl⟩
            exact ⟨_, rfl, (Roll.outw_pure (by decide) rfl), rfl⟩
          · intro vs p hI0 hp
            have hI := Roll.inw_pure (by decide) rfl hI0
            clear hI0
            have e0 : (Roll.putD Dtn5 vs [] b0).eval (.tmp 0) = .slice (some ⟨b, off, none⟩) n c := (Roll.eval_old rfl).trans (hlv.at 0 (0, .slice (some ⟨b, off, none⟩) n c) rfl)
            clear hp hlv hN
            unfold Roll.Goes
            simp only [Ltn5, List.getD_cons_zero, List.getD_cons_succ]
            generalize Roll.putD Dtn5 vs [] b0 = a1 at *
            refine Roll.goes_val (w' := p) (.slice (some ⟨b, off, none⟩) n c) rfl ?_ ⟨(Roll.outw_pure (by decide) rfl), rfl⟩
            (have ec : ∀ x, a1.eval (.const x) = x := fun _ => rfl); (have ef : ∀ x, a1.eval (.func x) = .func (.func x) #[] #[] := fun _ => rfl); generalize a1.eval = ρ at *
            skip
            go_simp <;> (intros; first | (exfalso; omega) | rfl)
          · intro vs p hI0 hp
            have hI := Roll.inw_pure (by decide) rfl hI0
            clear hI0
            have e6 : (Roll.putD Dtn5 vs [] b0).eval (.tmp 6) = .int .i64 (i : Int) := (Roll.eval_old rfl).trans (hlv.at 3 (6, .int .i64 (i : Int)) rfl)
            clear hp hlv hN
            unfold Roll.Goes
            simp only [Ltn5, List.getD_cons_zero, List.getD_cons_succ]
            generalize Roll.putD Dtn5 vs [] b0 = a1 at *
            refine Roll.goes_val (w' := p) (.int .i64 (i : Int)) rfl ?_ ⟨(Roll.outw_pure (by decide) rfl), rfl⟩
            (have ec : ∀ x, a1.eval (.const x) = x := fun _ => rfl); (have ef : ∀ x, a1.eval (.func x) = .func (.func x) #[] #[] := fun _ => rfl); generalize a1.eval = ρ at *
            skip
            go_simp <;> (intros; first | (exfalso; omega) | rfl)
          · intro vs p hI0 hp
            have hI := Roll.inw_pure (by decide) rfl hI0
            clear hI0
            have h8 : (vs 8) = .int .i64 (i : Int) := hp 8 (by simp [Ltn5])
            have e26 : (Roll.putD Dtn5 vs [8] b0).eval (.tmp 26) = .int .i64 (i : Int) := (Roll.eval_new 8 rfl (by decide) (by decide) (by omega)).trans h8
            clear hp hlv hN
            unfold Roll.Goes
            simp only [Ltn5, List.getD_cons_zero, List.getD_cons_succ]
            generalize Roll.putD Dtn5 vs [8] b0 = a1 at *
            have hw := HW1.out
            refine Roll.goes_val (w' := p) (.int .i64 (i1 : Int)) rfl ?_ ⟨(Roll.outw_pure (by decide) rfl), rfl⟩
            (have ec : ∀ x, a1.eval (.const x) = x := fun _ => rfl); (have ef : ∀ x, a1.eval (.func x) = .func (.func x) #[] #[] := fun _ => rfl); generalize a1.eval = ρ at *
            clear h8
            go_simp <;> (intros; first | (exfalso; omega) | rfl)
          · intro vs p hI0 hp
            have hI := Roll.inw_pure (by decide) rfl hI0
            clear hI0
            have h7 : (vs 7) = .slice (some ⟨b, off, none⟩) n c := hp 7 (by simp [Ltn5])
            have h9 : (vs 9) = .int .i64 (i1 : Int) := hp 9 (by simp [Ltn5])
            have e25 : (Roll.putD Dtn5 vs [7, 9] b0).eval (.tmp 25) = .slice (some ⟨b, off, none⟩) n c := (Roll.eval_new 7 rfl (by decide) (by decide) (by omega)).trans h7
            have e27 : (Roll.putD Dtn5 vs [7, 9] b0).eval (.tmp 27) = .int .i64 (i1 : Int) := (Roll.eval_new 9 rfl (by decide) (by decide) (by omega)).trans h9
            clear hp hlv hN
            unfold Roll.Goes
            simp only [Ltn5, List.getD_cons_zero, List.getD_cons_succ]
            generalize Roll.putD Dtn5 vs [7, 9] b0 = a1 at *
            have hh1 := HI1.out
            have hh2 := HNC.out
            refine Roll.goes_val (w' := p) (.pointer (some ⟨b, off + i1, none⟩)) rfl ?_ ⟨(Roll.outw_pure (by decide) rfl), rfl⟩
            (have ec : ∀ x, a1.eval (.const x) = x := fun _ => rfl); (have ef : ∀ x, a1.eval (.func x) = .func (.func x) #[] #[] := fun _ => rfl); generalize a1.eval = ρ at *
            clear h7 h9
            go_simp <;> (intros; first | (exfalso; omega) | rfl)
          · intro vs p hI0 hp
            have hI := Roll.inw_pure (by decide) rfl hI0
            clear hI0
            have h10 : (vs 10) = .pointer (some ⟨b, off + i1, none⟩) := hp 10 (by simp [Ltn5])
            have e28 : (Roll.putD Dtn5 vs [10] b0).eval (.tmp 28) = .pointer (some ⟨b, off + i1, none⟩) := (Roll.eval_new 10 rfl (by decide) (by decide) (by omega)).trans h10
            clear hp hlv hN
            unfold Roll.Goes
            simp only [Ltn5, List.getD_cons_zero, List.getD_cons_succ]
            generalize Roll.putD Dtn5 vs [10] b0 = a1 at *
            have cf : p.cell? ⟨b, off + i1, none⟩ = some (.int .i64 X1) := (hI.cell (p := ⟨b, off + i1, none⟩) HBQ.out HBK.out).trans C1.out
            refine Roll.goes_val (w' := p) (.int .i64 X1) rfl ?_ ⟨(Roll.outw_pure (by decide) rfl), rfl⟩
            (have ec : ∀ x, a1.eval (.const x) = x := fun _ => rfl); (have ef : ∀ x, a1.eval (.func x) = .func (.func x) #[] #[] := fun _ => rfl); generalize a1.eval = ρ at *
            clear h10
            go_simp <;> (intros; first | (exfalso; omega) | rfl)
          · intro vs p hI0 hp
            have hI := Roll.inw_pure (by decide) rfl hI0
            clear hI0
            have h11 : (vs 11) = .int .i64 X1 := hp 11 (by simp [Ltn5])
            have e29 : (Roll.putD Dtn5 vs [11] b0).eval (.tmp 29) = .int .i64 X1 := (Roll.eval_new 11 rfl (by decide) (by decide) (by omega)).trans h11
            clear hp hlv hN
            unfold Roll.Goes
            simp only [Ltn5, List.getD_cons_zero, List.getD_cons_succ]
            generalize Roll.putD Dtn5 vs [11] b0 = a1 at *
            refine Roll.goes_call 6 #[.int .i64 X1, .int .i64 5] p rfl (by have ec : ∀ x, a1.eval (.const x) = x := fun _ => rfl; have ef : ∀ x, a1.eval (.func x) = .func (.func x) #[] #[] := fun _ => rfl; generalize a1.eval = ρ at *; go_simp) ?_
            refine (HAR1.out p).mono ?_
            rintro y p2 ⟨rfl, rfl⟩
            exact ⟨_, rfl, (Roll.outw_pure (by decide) rfl), rfl⟩
          · intro vs p hI0 hp
            have hI := Roll.inw_pure (by decide) rfl hI0
            clear hI0
            have e0 : (Roll.putD Dtn5 vs [] b0).eval (.tmp 0) = .slice (some ⟨b, off, none⟩) n c := (Roll.eval_old rfl).trans (hlv.at 0 (0, .slice (some ⟨b, off, none⟩) n c) rfl)
            clear hp hlv hN
            unfold Roll.Goes
            simp only [Ltn5, List.getD_cons_zero, List.getD_cons_succ]
            generalize Roll.putD Dtn5 vs [] b0 = a1 at *
            refine Roll.goes_val (w' := p) (.slice (some ⟨b, off, none⟩) n c) rfl ?_ ⟨(Roll.outw_pure (by decide) rfl), rfl⟩
            (have ec : ∀ x, a1.eval (.const x) = x := fun _ => rfl); (have ef : ∀ x, a1.eval (.func x) = .func (.func x) #[] #[] := fun _ => rfl); generalize a1.eval = ρ at *
            skip
            go_simp <;> (intros; first | (exfalso; omega) | rfl)
          · intro vs p hI0 hp
            have hI := Roll.inw_pure (by decide) rfl hI0
            clear hI0
            have e6 : (Roll.putD Dtn5 vs [] b0).eval (.tmp 6) = .int .i64 (i : Int) := (Roll.eval_old rfl).trans (hlv.at 3 (6, .int .i64 (i : Int)) rfl)
            clear hp hlv hN
            unfold Roll.Goes
            simp only [Ltn5, List.getD_cons_zero, List.getD_cons_succ]
            generalize Roll.putD Dtn5 vs [] b0 = a1 at *
            refine Roll.goes_val (w' := p) (.int .i64 (i : Int)) rfl ?_ ⟨(Roll.outw_pure (by decide) rfl), rfl⟩
            (have ec : ∀ x, a1.eval (.const x) = x := fun _ => rfl); (have ef : ∀ x, a1.eval (.func x) = .func (.func x) #[] #[] := fun _ => rfl); generalize a1.eval = ρ at *
            skip
            go_simp <;> (intros; first | (exfalso; omega) | rfl)
          · intro vs p hI0 hp
            have hI := Roll.inw_pure (by decide) rfl hI0
            clear hI0
            have h14 : (vs 14) = .int .i64 (i : Int) := hp 14 (by simp [Ltn5])
            have e32 : (Roll.putD Dtn5 vs [14] b0).eval (.tmp 32) = .int .i64 (i : Int) := (Roll.eval_new 14 rfl (by decide) (by decide) (by omega)).trans h14
            clear hp hlv hN
            unfold Roll.Goes
            simp only [Ltn5, List.getD_cons_zero, List.getD_cons_succ]
            generalize Roll.putD Dtn5 vs [14] b0 = a1 at *
            have hw := HW2.out
            refine Roll.goes_val (w' := p) (.int .i64 (i2 : Int)) rfl ?_ ⟨(Roll.outw_pure (by decide) rfl), rfl⟩
            (have ec : ∀ x, a1.eval (.const x) = x := fun _ => rfl); (have ef : ∀ x, a1.eval (.func x) = .func (.func x) #[] #[] := fun _ => rfl); generalize a1.eval = ρ at *
            clear h14
            go_simp <;> (intros; first | (exfalso; omega) | rfl)
          · intro vs p hI0 hp
            have hI := Roll.inw_pure (by decide) rfl hI0
            clear hI0
            have h13 : (vs 13) = .slice (some ⟨b, off, none⟩) n c := hp 13 (by simp [Ltn5])
            have h15 : (vs 15) = .int .i64 (i2 : Int) := hp 15 (by simp [Ltn5])
            have e31 : (Roll.putD Dtn5 vs [13, 15] b0).eval (.tmp 31) = .slice (some ⟨b, off, none⟩) n c := (Roll.eval_new 13 rfl (by decide) (by decide) (by omega)).trans h13
            have e33 : (Roll.putD Dtn5 vs [13, 15] b0).eval (.tmp 33) = .int .i64 (i2 : Int) := (Roll.eval_new 15 rfl (by decide) (by decide) (by omega)).trans h15
            clear hp hlv hN
            unfold Roll.Goes
            simp only [Ltn5, List.getD_cons_zero, List.getD_cons_succ]
            generalize Roll.putD Dtn5 vs [13, 15] b0 = a1 at *
            have hh1 := HI2.out
            have hh2 := HNC.out
            refine Roll.goes_val (w' := p) (.pointer (some ⟨b, off + i2, none⟩)) rfl ?_ ⟨(Roll.outw_pure (by decide) rfl), rfl⟩
            (have ec : ∀ x, a1.eval (.const x) = x := fun _ => rfl); (have ef : ∀ x, a1.eval (.func x) = .func (.func x) #[] #[] := fun _ => rfl); generalize a1.eval = ρ at *
            clear h13 h15
            go_simp <;> (intros; first | (exfalso; omega) | rfl)
          · intro vs p hI0 hp
            have hI := Roll.inw_pure (by decide) rfl hI0
            clear hI0
            have h16 : (vs 16) = .pointer (some ⟨b, off + i2, none⟩) := hp 16 (by simp [Ltn5])
            have e34 : (Roll.putD Dtn5 vs [16] b0).eval (.tmp 34) = .pointer (some ⟨b, off + i2, none⟩) := (Roll.eval_new 16 rfl (by decide) (by decide) (by omega)).trans h16
            clear hp hlv hN
            unfold Roll.Goes
            simp only [Ltn5, List.getD_cons_zero, List.getD_cons_succ]
            generalize Roll.putD Dtn5 vs [16] b0 = a1 at *
            have cf : p.cell? ⟨b, off + i2, none⟩ = some (.int .i64 X2) := (hI.cell (p := ⟨b, off + i2, none⟩) HBQ.out HBK.out).trans C2.out
            refine Roll.goes_val (w' := p) (.int .i64 X2) rfl ?_ ⟨(Roll.outw_pure (by decide) rfl), rfl⟩
            (have ec : ∀ x, a1.eval (.const x) = x := fun _ => rfl); (have ef : ∀ x, a1.eval (.func x) = .func (.func x) #[] #[] := fun _ => rfl); generalize a1.eval = ρ at *
            clear h16
            go_simp <;> (intros; first | (exfalso; omega) | rfl)
          · intro vs p hI0 hp
            have hI := Roll.inw_pure (by decide) rfl hI0
            clear hI0
            have h17 : (vs 17) = .int .i64 X2 := hp 17 (by simp [Ltn5])
            have e35 : (Roll.putD Dtn5 vs [17] b0).eval (.tmp 35) = .int .i64 X2 := (Roll.eval_new 17 rfl (by decide) (by decide) (by omega)).trans h17
            clear hp hlv hN
            unfold Roll.Goes
            simp only [Ltn5, List.getD_cons_zero, List.getD_cons_succ]
            generalize Roll.putD Dtn5 vs [17] b0 = a1 at *
            refine Roll.goes_call 6 #[.int .i64 X2, .int .i64 65] p rfl (by have ec : ∀ x, a1.eval (.const x) = x := fun _ => rfl; have ef : ∀ x, a1.eval (.func x) = .func (.func x) #[] #[] := fun _ => rfl; generalize a1.eval = ρ at *; go_simp) ?_
            refine (HAR2.out p).mono ?_
            rintro y p2 ⟨rfl, rfl⟩
            exact ⟨_, rfl, (Roll.outw_pure (by decide) rfl), rfl⟩
          · intro vs p hI0 hp
            have hI := Roll.inw_pure (by decide) rfl hI0
            clear hI0
            have h6 : (vs 6) = .int .i64 A0 := hp 6 (by simp [Ltn5])
            have h12 : (vs 12) = .int .i64 A1 := hp 12 (by simp [Ltn5])
            have h18 : (vs 18) = .int .i64 A2 := hp 18 (by simp [Ltn5])
            have e24 : (Roll.putD Dtn5 vs [6, 12, 18] b0).eval (.tmp 24) = .int .i64 A0 := (Roll.eval_new 6 rfl (by decide) (by decide) (by omega)).trans h6
            have e30 : (Roll.putD Dtn5 vs [6, 12, 18] b0).eval (.tmp 30) = .int .i64 A1 := (Roll.eval_new 12 rfl (by decide) (by decide) (by omega)).trans h12
            have e36 : (Roll.putD Dtn5 vs [6, 12, 18] b0).eval (.tmp 36) = .int .i64 A2 := (Roll.eval_new 18 rfl (by decide) (by decide) (by omega)).trans h18
            clear hp hlv hN
            unfold Roll.Goes
            simp only [Ltn5, List.getD_cons_zero, List.getD_cons_succ]
            generalize Roll.putD Dtn5 vs [6, 12, 18] b0 = a1 at *
            have hb1 := run_tornB
            refine Roll.goes_val (w' := p) (.agg #[.int .i64 A0, .int .i64 A1, .int .i64 A2]) rfl ?_ ⟨(Roll.outw_pure (by decide) rfl), rfl⟩
            (have ec : ∀ x, a1.eval (.const x) = x := fun _ => rfl); (have ef : ∀ x, a1.eval (.func x) = .func (.func x) #[] #[] := fun _ => rfl); generalize a1.eval = ρ at *
            clear h6 h12 h18
            go_simp <;> (intros; first | (exfalso; omega) | rfl)
          · intro vs p hI0 hp
            have hI := Roll.inw_pre (by decide) rfl hI0
            clear hI0
            have h19 : (vs 19) = .agg #[.int .i64 A0, .int .i64 A1, .int .i64 A2] := hp 19 (by simp [Ltn5])
            have e37 : (Roll.putD Dtn5 vs [19] b0).eval (.tmp 37) = .agg #[.int .i64 A0, .int .i64 A1, .int .i64 A2] := (Roll.eval_new 19 rfl (by decide) (by decide) (by omega)).trans h19
            clear hp hlv hN
            unfold Roll.Goes
            simp only [Ltn5, List.getD_cons_zero, List.getD_cons_succ]
            generalize Roll.putD Dtn5 vs [19] b0 = a1 at *
            have hal : Below p.heap.size p (p.alloc (.cells #[.int .i64 A0, .int .i64 A1, .int .i64 A2] 73)) := (Below.refl _ _).alloc (Nat.le_refl _) _
            refine Roll.goes_val (w' := p.alloc (.cells #[.int .i64 A0, .int .i64 A1, .int .i64 A2] 73)) (.slice (some ⟨p.heap.size, 0, none⟩) 1 1) rfl (by have ec : ∀ x, a1.eval (.const x) = x := fun _ => rfl; have ef : ∀ x, a1.eval (.func x) = .func (.func x) #[] #[] := fun _ => rfl; have hbs := run_bld67; generalize a1.eval = ρ at *; go_simp <;> (intros; first | (exfalso; omega) | rfl)) ⟨Roll.outw_pre (by decide) rfl (hI.trans (hal.mono hI.size)) (Kept.of_below _ hal), p.heap.size, rfl, hI.size, heap_new rfl⟩
          · intro vs p hI0 hp
            have hI := Roll.inw_k0 rfl hI0
            clear hI0
            have h0 : (vs 0) = v0 := hp 0 (by simp [Ltn5])
            have h20 : ∃ x, (vs 20) = .slice (some ⟨x, 0, none⟩) 1 1 ∧ wr.heap.size ≤ x ∧ p.heap[x]? = some (.cells #[.int .i64 A0, .int .i64 A1, .int .i64 A2] 73 (0, 0)) := hp 20 (by simp [Ltn5])
            have e18 : (Roll.putD Dtn5 vs [0, 20] b0).eval (.tmp 18) = v0 := (Roll.eval_new 0 rfl (by decide) (by decide) (by omega)).trans h0
            have e38 : (Roll.putD Dtn5 vs [0, 20] b0).eval (.tmp 38) = vs 20 := (Roll.eval_new 20 rfl (by decide) (by decide) (by omega))
            clear hp hlv hN
            unfold Roll.Goes
            simp only [Ltn5, List.getD_cons_zero, List.getD_cons_succ]
            generalize Roll.putD Dtn5 vs [0, 20] b0 = a1 at *
            obtain ⟨x, hv20, hx, hc⟩ := h20
            rw [hv20] at e38
            obtain ⟨i0, hi0, hz0, hz1, hz2⟩ := info_parts info67
            refine wpList_append_any _ rfl (.tmp 18) (.tmp 38) _ _ rfl 73 i0 _ 3 24 Tryd.underlying42 hi0 hz0 hz1 hz2 tsize67 kq v0 ts.length (tcells ts) e18 (HOW.out.kept (Kept.of_below (fun _ => False) hI) (fun _ _ h => h)) 1 (tcells [tm]) (by rw [e38]; exact src_new (us := [tm]) (by rw [HTC.out]; exact hc)) (by have := HBD.out; simp only [List.length_cons, List.length_nil] at this; unfold maxLen; omega) (by have := HBD.out; simp only [List.length_cons, List.length_nil] at this; omega) ?_
            intro k' v' w' ho' hf' hK' hn'
            exact ⟨v', rfl, Roll.outw_k0 rfl ⟨k', ho', fun j hj => (hf' j hj).imp id (fun e => Nat.le_trans hI.size e), (Kept.of_below (fun j => kq = some j) hI).trans hK' (fun _ _ h => h)⟩ hK', trivial⟩
        · intro vs p hI hR
          have h0 : (vs 0) = v0 := hR 0 (by omega)
          have h1 : (vs 1) = .slice (some ⟨b, off, none⟩) n c := hR 1 (by omega)
          have h2 : (vs 2) = .int .i64 (i : Int) := hR 2 (by omega)
          have h3 : (vs 3) = .pointer (some ⟨b, off + i, none⟩) := hR 3 (by omega)
          have h4 : (vs 4) = .int .i64 X0 := hR 4 (by omega)
          have h5 : (vs 5) = .int .i64 (S : Int) := hR 5 (by omega)
          have h6 : (vs 6) = .int .i64 A0 := hR 6 (by omega)
          have h7 : (vs 7) = .slice (some ⟨b, off, none⟩) n c := hR 7 (by omega)
          have h8 : (vs 8) = .int .i64 (i : Int) := hR 8 (by omega)
          have h9 : (vs 9) = .int .i64 (i1 : Int) := hR 9 (by omega)
          have h10 : (vs 10) = .pointer (some ⟨b, off + i1, none⟩) := hR 10 (by omega)
          have h11 : (vs 11) = .int .i64 X1 := hR 11 (by omega)
          have h12 : (vs 12) = .int .i64 A1 := hR 12 (by omega)
          have h13 : (vs 13) = .slice (some ⟨b, off, none⟩) n c := hR 13 (by omega)
          have h14 : (vs 14) = .int .i64 (i : Int) := hR 14 (by omega)
          have h15 : (vs 15) = .int .i64 (i2 : Int) := hR 15 (by omega)
          have h16 : (vs 16) = .pointer (some ⟨b, off + i2, none⟩) := hR 16 (by omega)
          have h17 : (vs 17) = .int .i64 X2 := hR 17 (by omega)
          have h18 : (vs 18) = .int .i64 A2 := hR 18 (by omega)
          have h19 : (vs 19) = .agg #[.int .i64 A0, .int .i64 A1, .int .i64 A2] := hR 19 (by omega)
          have h20 : ∃ x, (vs 20) = .slice (some ⟨x, 0, none⟩) 1 1 ∧ wr.heap.size ≤ x ∧ p.heap[x]? = some (.cells #[.int .i64 A0, .int .i64 A1, .int .i64 A2] 73 (0, 0)) := hR 20 (by omega)
          have h21 : True := hR 21 (by omega)
          clear hR
          simp only [List.range_succ, List.range_zero, List.nil_append, List.cons_append, Roll.putD, Act.put, List.getD_cons_zero, List.getD_cons_succ, List.setIfInBounds_toArray, List.set_cons_zero, List.set_cons_succ, List.drop_succ_cons, List.drop_zero, Dtn5]
          simp only [h0, h1, h2, h3, h4, h5, h6, h7, h8, h9, h10, h11, h12, h13, h14, h15, h16, h17, h18, h19]
          clear h0 h1 h2 h3 h4 h5 h6 h7 h8 h9 h10 h11 h12 h13 h14 h15 h16 h17 h18 h19
          generalize vs 21 = v21 at *
          obtain ⟨k', g1, g2, g3⟩ := hI
          have HL3 : Hid (Lv w p [accO v21 (ts ++ [tm])]) := Lib.hid (by
            refine HST.out p (accO v21 (ts ++ [tm])) (fun j => k' = some j) ⟨k', ?_, fun _ h => h, fun t ht => ?_⟩ (g3.mono (fun j _ hj => HKB.out j hj)) (fun j hj => (g2 j hj).imp (HKB.out j) id) (fun j hj => g1.lt j hj)
            · rw [List.length_append, tcells_app]; exact g1
            · rcases List.mem_append.1 ht with ht | ht
              · exact HTS.out t ht
              · exact HTK.out t ht)
          clear g1 g2 g3 h20 h21
          go_wp2_with fail
          go_roundw
          case rel => exact ⟨i + 3, v21, ts ++ [tm], rfl, by go_num, by rw [List.length_append]; have := HIT.out; simp only [List.length_cons, List.length_nil]; omega, by have := HIT.out; omega, HL3.out⟩
          case measure => simp [intOf]; omega
      · have h602 : (60 : Int) ≤ (i : Int) := by omega
        have HT := Lib.hid (HL.out.accTorn (i := 0) rfl)
        clear hL HL
        go_wp2
        go_ret
        first | exact ⟨_, rfl, ts, by have := HIT.out; omega, HT.out⟩ | exact ⟨_, ts, rfl, by have := HIT.out; omega, HT.out⟩
    · have hlt2 : (n : Int) ≤ (i2 : Int) := by omega
      have HT := Lib.hid (HL.out.accTorn (i := 0) rfl)
      clear hL HL
      go_wp2
      go_ret
      first | exact ⟨_, rfl, ts, by have := HIT.out; omega, HT.out⟩ | exact ⟨_, ts, rfl, by have := HIT.out; omega, HT.out⟩
end Go.Proofs.YthffegfcgmhppaaDoor
namespace Go.Proofs.YthffegfcgmhppaaDoor
open Go.ChangeShapes Go.WideShapes Go.ChangeAt Go.RowKit
set_option linter.unusedSimpArgs false
set_option linter.unusedVariables false
attribute [local go_sem ↓] exec_loadAct exec_at_zero' exec_at_succ' Go.wp_at_zero Go.wp_at_succ
def DofR25 : List (Option Tmp) := [some 148, some 149, some 150, some 151, some 152, some 153, some 154, some 155, some 156, some 157, some 158, some 159, some 160, some 161, some 162, some 163, some 164, some 165, some 166, some 167, some 168, some 169, some 170, some 22]
def LofR25 : List (List Nat) := [[], [0], [], [2], [3], [4], [], [6], [7], [8], [1, 5, 9], [10], [11], [12, 11], [13, 11], [14, 11], [15, 11], [16], [17, 16], [18, 16], [19, 16], [16, 20, 11], [11, 21], [22]]
def DofR26 : List (Option Tmp) := [some 171, some 172, some 173, some 174, some 175, some 176, some 177, some 178, some 179, some 180, some 181, some 182, some 183, some 184, some 185, some 186, some 187, some 188, some 189, some 190, some 191, some 192, some 193, some 23]
def LofR26 : List (List Nat) := [[], [0], [], [2], [3], [4], [], [6], [7], [8], [1, 5, 9], [10], [11], [12, 11], [13, 11], [14, 11], [15, 11], [16], [17, 16], [18, 16], [19, 16], [16, 20, 11], [11, 21], [22]]
/-- a slice of truth values -/
def Bls (D : Nat → Prop) (w : World) (a : Option Addr) (n c : Nat) (l : List Bool) : Prop := l.length = n ∧ Sl D w a n c (l.map Value.bool) 1
theorem Bls.kept {D S : Nat → Prop} {w w' : World} {a : Option Addr} {n c : Nat} {l : List Bool} (h : Bls D w a n c l) (hk : Kept S w w') (hd : ∀ b, b < w.heap.size → D b → ¬ S b) : Bls D w' a n c l := ⟨h.1, h.2.kept (by decide) hk hd⟩
theorem Bls.cells {D : Nat → Prop} {w : World} {a : Option Addr} {n c : Nat} {l : List Bool} (h : Bls D w a n c l) (hn : 0 < n) : ∃ b off, D b ∧ b < w.heap.size ∧ a = some ⟨b, off, none⟩ ∧ ∀ i (hi : i < l.length), w.cell? ⟨b, off + i, none⟩ = some (.bool l[i]) := by
  obtain ⟨h1, h2, h3, h4, h5, h6⟩ := h
  obtain ⟨b, off, hD, ha, hr⟩ := h6 hn
  exact ⟨b, off, hD, range_lt hr (by rw [List.length_map]; omega), ha, fun i hi => hr i _ (by simp [hi])⟩
section
variable {H : Type} {enc : TypeId × Value → H} {W : World} {base : Nat} {held : Bool}
set_option maxRecDepth 100000 in
theorem open_bls {base0 : Nat} {v : Value} {d : DataW H} {p : List MemPlace} (hval : Value.okWide Tryd.prog W .any base0 23 v) (h : DataW.Trod enc Tryd.prog W base (fun _ => true) held 23 v d p) :
    ∃ a n c l, v = .slice a n c ∧ Bls (Old W) W a n c l := by
  obtain ⟨aR1, n1, c1, rfl⟩ := okWide_slice Tryd.underlying23 hval
  obtain ⟨fuel, hf⟩ := h
  rcases Go.Deep.open_bools Tryd.underlying23 Tryd.underlying4 (by kernel_rfl) hf with ⟨hcs, hx⟩ | ⟨a, n, c, B, hcs, _, hl, hm, hx, hcell⟩
  · simp [Value.cells] at hcs
    obtain ⟨rfl, rfl, rfl⟩ := hcs
    exact ⟨none, 0, 0, [], rfl, rfl, Sl.empty _ _ _ _ _ (Nat.zero_le _) (fun _ => rfl)⟩
  · simp [Value.cells] at hcs
    obtain ⟨rfl, rfl, rfl⟩ := hcs
    refine ⟨some a, n1, c1, (List.range n1).map B, rfl, by simp, Sl.of_cells (by decide) (by simp) hl hm fun j u hu => ?_⟩
    have hj : j < n1 := by
      have := (List.getElem?_eq_some_iff.1 hu).1
      simpa using this
    rw [hcell j (by omega)]
    rw [← hu]
    simp [hj]
end
/-- the two logs change places -/
theorem Lv.sides {w0 w : World} {a0 aR1 aR2 d b0 b1 b2 : Obj} (h : Lv w0 w [a0, aR1, aR2, d, b0, b1, b2]) : Lv w0 w [b0, b1, b2, d, a0, aR1, aR2] :=
  h.pick [b0, b1, b2, d, a0, aR1, aR2] (fun i => if i = 3 then 3 else if i < 3 then i + 4 else i - 4) (fun i j hi hj => by
    have hi : i < 7 := hi
    have hj : j < 7 := hj
    intro e
    split at e <;> split at e <;> (try split at e) <;> (try split at e) <;> omega) (fun i hi => by
    have hi : i < 7 := hi
    have hi3 : i = 0 ∨ i = 1 ∨ i = 2 ∨ i = 3 ∨ i = 4 ∨ i = 5 ∨ i = 6 := by omega
    rcases hi3 with rfl | rfl | rfl | rfl | rfl | rfl | rfl <;> rfl)
theorem Past.moved {FR DS n F2 n2 : Nat} {m : LM} {d d' : DM} {r : Bool} (h : Past FR DS n m d r) (hon : d.on = true) (hm : Moved F2 n2 d d') (ha : FR + n ≤ F2 ∨ F2 + n2 ≤ FR) (hok : d'.on = true → d'.Ok 0) : Past FR DS n m d' r := by
  have hf := h.live hon
  have hg : GA m.frm m.n d' m.rnd m.en (m.recs.take m.syn) := hf.ga.moved hf.n4.1 hm (by rw [h.frm, h.n_]; exact ha)
  refine ⟨h.frm, h.n_, hm.len.trans h.len, h.fit, h.n4, fun ho => ⟨hf.n4, hf.syn, hf.tak, hf.cap, hf.small, hg, hok ho⟩, fun ts => ?_, h.cap, h.small, h.syn⟩
  have hl : (m.recs.take m.syn).length = m.syn := by rw [List.length_take]; have := h.syn; omega
  exact ⟨_, _, _, hg.restart ts, .inl ⟨by rw [hl]; exact Nat.le_refl _, by rw [hl]; exact h.syn, by rw [hl]⟩⟩
theorem Moved.one {F n : Nat} {d d' : DM} (h : Moved F n d d') {k : Nat} (hk : k < F ∨ F + n ≤ k) {l : List UInt8} (hs : sec d k = [l]) : sec d' k = [l] := by
  rcases h.out k hk with a | a
  · rw [a, hs]
  · rw [a, hs]; rfl
def b7 : List UInt8 := bytesB 64 7
def b8 : List UInt8 := bytesB 64 8
def rgD : DM := (((DM.new 20).write 0 b7).write 19 b8).flush
theorem rg0 : rgD.Ok 0 ∧ rgD.on = true ∧ rgD.fuse = 0 ∧ rgD.S.length = 20 ∧ sec rgD 0 = [b7] ∧ sec rgD 19 = [b8] := by
  have h7 : b7.length = 64 := bytesB_len _ _
  have h8 : b8.length = 64 := bytesB_len _ _
  have l0 : (DM.new 20).S.length = 20 := by simp [DM.new]
  have l1 : ((DM.new 20).write 0 b7).S.length = 20 := by rw [write_len, l0]
  have l2 : (((DM.new 20).write 0 b7).write 19 b8).S.length = 20 := by rw [write_len, l1]
  refine ⟨DM.flush_ok (DM.write_ok (DM.write_ok (DM.new_ok (by omega) (by omega)) h7) h8), ?_, ?_, by unfold rgD; rw [flush_len, l2], ?_, ?_⟩
  · have := (nf_flush (nf_write (d := (DM.new 20).write 0 b7) (k := 19) (b := b8) (nf_write (d := DM.new 20) (k := 0) (b := b7) rfl).2).2).1
    unfold rgD
    rw [this, (nf_write (nf_write (d := DM.new 20) (k := 0) (b := b7) rfl).2).1, (nf_write (d := DM.new 20) (k := 0) (b := b7) rfl).1]
    rfl
  · exact (nf_flush (nf_write (nf_write (d := DM.new 20) (k := 0) (b := b7) rfl).2).2).2
  · unfold rgD
    rw [sec_flush _ _ (by omega), sec_write _ _ _ _ (by omega), if_neg (by omega), sec_write _ _ _ _ (by omega), if_pos rfl, lastB_snoc]
  · unfold rgD
    rw [sec_flush _ _ (by omega), sec_write _ _ _ _ (by omega), if_pos rfl, lastB_snoc]
theorem fmt_moved (f n : Nat) (d : DM) (hon : d.on = true) (hf : d.fuse = 0) (hfit : f + n ≤ d.S.length) (h4 : 4 ≤ n) (hok : d.Ok 0) : Moved f n d (fmtR f n d).2.2 := by
  obtain ⟨e1, e2, e3, e4, e5⟩ := fmtR_on f n d hon hf
  rw [e3]
  have h0 : Moved f n d d := Moved.refl hok
  have h1 := (h0.write (f + 1) (desB 1 128) (by omega) (desB_len _ _) (by omega)).flush
  exact (h1.write f (desB 2 128) (by have := h1.len; omega) (desB_len _ _) (by omega)).flush
/-- the disk with both logs -/
def rgA : DM := (fmtR 1 9 rgD).2.2
def rgB : DM := (fmtR 10 9 rgA).2.2
theorem rg1 : (fmtR 1 9 rgD).1 = 0 ∧ (fmtR 1 9 rgD).2.1 = mFresh 1 9 ∧ rgA.on = true ∧ rgA.fuse = 0 ∧ rgA.S.length = 20 ∧ rgA.Ok 0 ∧ GA 1 9 rgA 2 128 [] ∧ sec rgA 0 = [b7] ∧ sec rgA 19 = [b8] := by
  obtain ⟨o, p, f, l, s0, s1⟩ := rg0
  obtain ⟨a, b, c, d, e, g⟩ := fmt_fine 1 9 rgD p f (by omega) (by omega) (by omega) o
  have hm := fmt_moved 1 9 rgD p f (by omega) (by omega) o
  exact ⟨a, b, d, e, g.trans l, c.ok, c.ga, hm.one (.inl (by omega)) s0, hm.one (.inr (by omega)) s1⟩
theorem rg2 : (fmtR 10 9 rgA).1 = 0 ∧ (fmtR 10 9 rgA).2.1 = mFresh 10 9 ∧ rgB.on = true ∧ rgB.S.length = 20 ∧ Past 1 20 9 (mFresh 1 9) rgB false ∧ Past 10 20 9 (mFresh 10 9) rgB false ∧ Fine (mFresh 1 9) rgB ∧ Fine (mFresh 10 9) rgB ∧ sec rgB 0 = [b7] ∧ sec rgB 19 = [b8] := by
  obtain ⟨-, -, p, f, l, o, ga, s0, s1⟩ := rg1
  obtain ⟨a, b, c, d, e, g⟩ := fmt_fine 10 9 rgA p f (by omega) (by omega) (by omega) o
  have hm := fmt_moved 10 9 rgA p f (by omega) (by omega) o
  have hl : rgB.S.length = 20 := g.trans l
  have hF : Fine (mFresh 1 9) rgB := ⟨⟨by show 4 ≤ 9; omega, by show 9 ≤ 200; omega⟩, Nat.le_refl _, rfl, by show takR [] + 128 ≤ 64 * 9; simp [takR], (fun r hr => by cases hr), ga.moved (by omega) hm (by omega), c.ok⟩
  exact ⟨a, b, d, hl, hF.past (FR := 1) (DS := 20) (n := 9) rfl rfl hl ⟨by omega, by omega⟩ ⟨by omega, by omega⟩ false, c.past (FR := 10) (DS := 20) (n := 9) rfl rfl hl ⟨by omega, by omega⟩ ⟨by omega, by omega⟩ false, hF, c, hm.one (.inl (by omega)) s0, hm.one (.inr (by omega)) s1⟩
theorem sec_cut {d : DM} {k : Nat} {l : List UInt8} (hk : k < d.S.length) (h : sec d k = [l]) (ts : List TM) : ∃ hk2 : k < (cutD d ts).S.length, lastB (cutD d ts).S[k] = l := by
  have hk2 : k < (cutD d ts).S.length := by rw [cutD_len]; exact hk
  refine ⟨hk2, ?_⟩
  obtain ⟨b, b1, b2⟩ := sec_restart (d.setFuse 0) ts k (by rw [setFuse_S]; exact hk)
  have : sec (d.setFuse 0) k = [l] := by unfold sec at h ⊢; rw [setFuse_S]; exact h
  rw [this] at b2
  have hb := poss_one b2
  have h3 : sec (cutD d ts) k = [b] := b1
  rw [sec_eq hk2] at h3
  rw [h3, hb]
  rfl
/-- what the law's loop keeps -/
def RL (gpa gla gpb glb g : Nat) (va : Value) (ma : LM) (ra : Bool) (vb : Value) (mb : LM) (rb : Bool) (d : DM) : List Obj := PL gpa g gla 9 va ma d ra [pastO gpb g glb 9 vb mb.syn rb, recsO vb mb.recs, logO glb g mb]
structure Both (ma mb : LM) (ra rb : Bool) (d : DM) : Prop where
  a : Past 1 20 9 ma d ra
  b : Past 10 20 9 mb d rb
  s0 : sec d 0 = [b7]
  s1 : sec d 19 = [b8]
theorem Both.fuse {ma mb : LM} {d : DM} (h : Both ma mb false false d) (ha : Fine ma d) (hb : Fine mb d) (k : Int) (hk : k ≤ 9223372036854775807) : Both ma mb false false (d.setFuse k) :=
  ⟨h.a.fused ha k hk false, h.b.fused hb k hk false, by have := h.s0; unfold sec at this ⊢; rw [setFuse_S]; exact this, by have := h.s1; unfold sec at this ⊢; rw [setFuse_S]; exact this⟩
theorem Both.one {ma mb m' : LM} {ra rb r' : Bool} {d d' : DM} (h : Both ma mb ra rb d) (hon : d.on = true) (hp : Past 1 20 9 m' d' r') (hm : Moved 1 9 d d') : Both m' mb r' rb d' :=
  ⟨hp, h.b.moved hon hm (.inr (by omega)) (fun ho => (hp.live ho).ok), hm.one (.inl (by omega)) h.s0, hm.one (.inr (by omega)) h.s1⟩
theorem Both.two {ma mb m' : LM} {ra rb r' : Bool} {d d' : DM} (h : Both ma mb ra rb d) (hon : d.on = true) (hp : Past 10 20 9 m' d' r') (hm : Moved 10 9 d d') : Both ma m' ra r' d' :=
  ⟨h.a.moved hon hm (.inl (by omega)) (fun ho => (hp.live ho).ok), hp, hm.one (.inl (by omega)) h.s0, hm.one (.inr (by omega)) h.s1⟩
end Go.Proofs.YthffegfcgmhppaaDoor

/-
  Texts R2, R3, R4, NL, NM, one behind the other.
-/
import Derived.Orders
import Derived.Tactics
import Derived.Deep.MidRow
import Derived.WalkKit
import Derived.WalkSpells
import Derived.WalkLawsBesides
import Derived.Laws.AppendOwn
import Derived.Laws.OwnMore
import Derived.Deep.AppendSrc
import Derived.Lib.Hide
import GoSem.Claim
import Derived.Lib.Bytealg
import Derived.Laws.Externs
import Derived.Deep.QuietTactic
import Derived.BigQuiet
import Derived.Deep.CutBlock
import Derived.OwnWalk
import Derived.Deep.DrawnRows
import Derived.Deep.CutRange
import Derived.Deep.LoopGhost
import Derived.Laws.Tables
import Derived.Laws.ResultCell
import Derived.Deep.WholeRow
import Derived.Lib.Strings
import Derived.Shelf.Spec.SlicesInsert
import Derived.Lib.AppendZerosOnto
import Derived.Lib.Overlaps
import Derived.Laws.CopyRow
import Derived.Deep.RegionLaw
import Derived.Test.YtfgmhidgkemfoaaRows
import Derived.Test.YtfgmhidgkemfoaaZT901
namespace Go.Proofs.Ytfgmhidgkemfoaa.Roll
variable {P : Program} {ops : Array Oper} {Q : Exit → Act → World → Prop}
def upd (vals : Nat → Value) (k : Nat) (x : Value) : Nat → Value := fun j => if j = k then x else vals j
theorem upd_same (vals : Nat → Value) (k : Nat) (x : Value) : upd vals k x k = x := by unfold upd; rw [if_pos rfl]
theorem upd_other {vals : Nat → Value} {k : Nat} {x : Value} {j : Nat} (h : j ≠ k) : upd vals k x j = vals j := by unfold upd; rw [if_neg h]
def resg (o : Oper) (R : Nat → (Nat → Value) → World → Prop) (k : Nat) (vals : Nat → Value) (v : Value) (w : World) : Prop := R k (upd vals k (if o.dst.isSome then v else undef)) w
def Doesg (P : Program) (ops : Array Oper) (L : List (List Nat)) (I : World → Prop) (S : World → World → Prop) (R : Nat → (Nat → Value) → World → Prop) (a0 : Act) (k : Nat) (o : Oper) : Prop :=
  ∀ (vals : Nat → Value) (w : World), I w → (∀ j ∈ L.getD k [], R j vals w) →
    wpList P ops (Post (putOf ops vals (L.getD k []) a0) o.dst fun v w' => I w' ∧ S w w' ∧ resg o R k vals v w') [o] (putOf ops vals (L.getD k []) a0) w
structure Heldg (ops : Array Oper) (I : World → Prop) (R : Nat → (Nat → Value) → World → Prop) (a0 : Act) (vals : Nat → Value) (listed : Array Bool) (a : Act) (w : World) : Prop where
  inv : I w
  len : listed.size = ops.size
  defers : a.defers = a0.defers
  size : a.tmps.size = a0.tmps.size
  closed : ∀ (j : Nat) (o : Oper), ops[j]? = some o → listed[j]? = some true → ∀ i ∈ ahead o, listed[i]? = some true
  old : ∀ t : Nat, (∀ j : Nat, listed[j]? = some true → slot ops j ≠ some t) → a.tmps[t]? = a0.tmps[t]?
  new : ∀ (j t : Nat), listed[j]? = some true → slot ops j = some t → a.tmps[t]? = some (vals j)
  got : ∀ j : Nat, listed[j]? = some true → R j vals w
theorem wpAny_heldg (hb : backOk ops = true) (hap : apartB ops = true) {L : List (List Nat)} (hlo : looksOk ops L = true) {n : Nat} (hnle : n ≤ ops.size) (htl : tailOk ops n = true) {I : World → Prop} {S : World → World → Prop} {R : Nat → (Nat → Value) → World → Prop} {a0 : Act}
    (hsz : ∀ j t, slot ops j = some t → t < a0.tmps.size)
    (hS : ∀ j v w w', S w w' → R j v w → R j v w') (hC : ∀ j v v' w, (∀ i, i = j ∨ i ∈ L.getD j [] → v i = v' i) → R j v w → R j v' w) (hop : ∀ (k : Nat) (o : Oper), k < n → ops[k]? = some o → Doesg P ops L I S R a0 k o)
    (hend : ∀ (vals : Nat → Value) (w : World), I w → (∀ j : Nat, j < n → R j vals w) → wpList P ops Q (ops.toList.drop n) (putOf ops vals (List.range n) a0) w) :
    ∀ (fuel : Nat) (listed : Array Bool) (vals : Nat → Value) (a : Act) (w : World), listed.toList.count false ≤ fuel → (∀ j : Nat, n ≤ j → j < ops.size → listed[j]? = some false) → Heldg ops I R a0 vals listed a w → wpAny P .any ops Q fuel listed a w := by
  have slot_lt : ∀ {j t : Nat}, slot ops j = some t → j < ops.size := by
    intro j t hj
    unfold slot at hj
    cases hk : ops[j]? with
    | none => rw [hk] at hj; cases hj
    | some o => exact (Array.getElem?_eq_some_iff.1 hk).1
  have fin : ∀ (fuel : Nat) (listed : Array Bool) (vals : Nat → Value) (a : Act) (w : World), listed.toList.count false ≤ fuel → (∀ j : Nat, n ≤ j → j < ops.size → listed[j]? = some false) → Heldg ops I R a0 vals listed a w → (∀ j : Nat, j < n → listed[j]? = some true) → wpAny P .any ops Q fuel listed a w := by
    intro fuel listed vals a w hc hun h hall
    have e : a = putOf ops vals (List.range n) a0 := by
      have et : a.tmps = (putOf ops vals (List.range n) a0).tmps := by
        refine Array.ext_getElem? fun t => ?_
        by_cases hx : ∃ j : Nat, j < n ∧ slot ops j = some t
        · obtain ⟨j, hjn, hj⟩ := hx
          rw [h.new j t (hall j hjn) hj, putOf_mem hap vals _ _ j t (List.mem_range.2 hjn) hj (hsz j t hj)]
        · rw [h.old t (fun j hj e => ?_), putOf_other ops vals _ _ t (fun j hj e => hx ⟨j, List.mem_range.1 hj, e⟩)]
          rcases Nat.lt_or_ge j n with hjn | hjn
          · exact hx ⟨j, hjn, e⟩
          · rw [hun j hjn (slot_lt e)] at hj; cases hj
      have ed : a.defers = (putOf ops vals (List.range n) a0).defers := by rw [putOf_defers]; exact h.defers
      cases a
      generalize putOf ops vals (List.range n) a0 = b at *
      cases b
      simp_all
    have hcnt : ops.size - n ≤ fuel := by
      refine Nat.le_trans ?_ hc
      have h1 : (listed.toList.drop n).count false = ops.size - n := by
        rw [List.count_eq_length.2]
        · simp [h.len]
        · intro b hb'
          obtain ⟨i, hi, rfl⟩ := List.mem_iff_getElem.1 hb'
          simp only [List.length_drop, Array.length_toList] at hi
          have := hun (n + i) (by omega) (by rw [← h.len]; omega)
          rw [Array.getElem?_eq_getElem (by omega)] at this
          simpa using (Option.some.inj this).symm
      rw [← h1]
      exact (List.drop_sublist n _).count_le false
    exact wpAny_tail hb htl fuel n listed a w (Nat.le_refl _) hnle hcnt h.len hall hun (e ▸ hend vals w h.inv (fun j hj => h.got j (hall j hj)))
  intro fuel
  induction fuel with
  | zero =>
    intro listed vals a w hc hun h
    refine fin 0 listed vals a w hc hun h fun j hj => ?_
    have hjl : j < listed.size := by rw [h.len]; omega
    rw [Array.getElem?_eq_getElem hjl]
    have h0 : listed.toList.count false = 0 := by omega
    have := List.count_eq_zero.1 h0
    cases hv : listed[j] with
    | true => rfl
    | false => exact (this (hv ▸ (by simp))).elim
  | succ fuel ih =>
    intro listed vals a w hc hun h
    by_cases hall : ∀ j : Nat, j < n → listed[j]? = some true
    · exact fin _ listed vals a w hc hun h hall
    refine ⟨fun hr => (hall fun j hj => ready_least rfl hb h.len hr j (by omega)).elim, fun k hk => ?_⟩
    obtain ⟨hu, o, ho, hedge⟩ := mem_ready.1 hk
    have hku := unlisted_of_getD hu
    have hklt : k < ops.size := (Array.getElem?_eq_some_iff.1 ho).1
    have hkn : k < n := by
      rcases Nat.lt_or_ge k n with hx | hx
      · exact hx
      · exact (hall fun j hj => by
          obtain ⟨e, he, hbd, hon⟩ := ahead_of_edge (tail_ahead htl ho hx (show j < k by omega))
          exact hon ▸ listed_of_getD (hedge e he hbd)).elim
    have hah : ∀ i ∈ ahead o, listed[i]? = some true := by
      intro i hi
      obtain ⟨e, he, rfl⟩ := List.mem_map.1 hi
      obtain ⟨h1, h2⟩ := List.mem_filter.1 he
      exact listed_of_getD (hedge e (by simpa using h1) h2)
    have hlk := List.all_eq_true.1 hlo k (List.mem_range.2 hklt)
    simp only [ho, Bool.and_eq_true] at hlk
    obtain ⟨⟨hsel, hpre⟩, hlk⟩ := hlk
    have hpre' : ∀ i ∈ L.getD k [], i ∈ ahead o := fun i hi => by simpa using List.all_eq_true.1 hpre i hi
    have hsame : ∀ t ∈ o.looksAt ops, a.tmps[t]? = (putOf ops vals (L.getD k []) a0).tmps[t]? := by
      intro t ht
      have h1 := List.all_eq_true.1 hlk t ht
      by_cases hx : ∃ j : Nat, listed[j]? = some true ∧ slot ops j = some t
      · obtain ⟨j, hj, hjt⟩ := hx
        have hjlt : j < ops.size := by rw [← h.len]; exact (Array.getElem?_eq_some_iff.1 hj).1
        have h2 := List.all_eq_true.1 h1 j (List.mem_range.2 hjlt)
        have hoj : ops[j]? = some ops[j] := Array.getElem?_eq_getElem hjlt
        simp only [hoj, Bool.or_eq_true, bne_iff_ne, ne_eq, List.contains_eq_mem, decide_eq_true_eq] at h2
        have hjin : j ∈ L.getD k [] := by
          rcases h2 with (h2 | h2) | h2
          · exact (h2 hjt).elim
          · exact h2
          · have := h.closed j _ hoj hj k h2
            rw [hku] at this; cases this
        rw [h.new j t hj hjt, putOf_mem hap vals _ _ j t hjin hjt (hsz j t hjt)]
      · rw [h.old t (fun j hj e => hx ⟨j, hj, e⟩), putOf_other ops vals _ _ t (fun j hj e => hx ⟨j, hah j (hpre' j hj), e⟩)]
    have hd := hop k o hkn ho vals w h.inv (fun j hj => h.got j (hah j (hpre' j hj)))
    have hdst : slot ops k = o.dst := by unfold slot; rw [ho]; rfl
    refine wpOp_mono ?_ (wpOp_of_list (Q := Q) (a := a) ho ?_ ?_ (exec_congr (fun cs c e => ?_) hsame) (wanted_congr hsame) hd)
    · rintro a' w' ⟨v, rfl, hI, hSw, hR⟩
      refine ih (listed.setIfInBounds k true) (upd vals k (if o.dst.isSome then v else undef)) _ w' (by have := count_set hku; omega) (fun j hj hjs => by rw [set_get hku, if_neg (by omega)]; exact hun j hj hjs) ?_
      refine ⟨hI, ?_, ?_, ?_, ?_, ?_, ?_, ?_⟩
      · rw [Array.size_setIfInBounds]; exact h.len
      · rw [← h.defers]; cases o.dst <;> rfl
      · rw [← h.size]; cases o.dst <;> simp [Act.put]
      · intro j oj hoj hj i hi
        rw [set_get hku] at hj ⊢
        by_cases ei : i = k
        · rw [if_pos ei]
        · rw [if_neg ei]
          by_cases ej : j = k
          · subst ej
            rw [ho] at hoj; cases hoj
            exact hah i hi
          · rw [if_neg ej] at hj
            exact h.closed j oj hoj hj i hi
      · intro t ht
        have hne : o.dst ≠ some t := by rw [← hdst]; exact ht k (by rw [set_get hku, if_pos rfl])
        rw [put_get_ne hne]
        refine h.old t fun j hj => ht j ?_
        rw [set_get hku]; split <;> first | rfl | exact hj
      · intro j t hj hjt
        rw [set_get hku] at hj
        by_cases ej : j = k
        · subst ej
          rw [hdst] at hjt
          rw [hjt, put_get_eq (by rw [h.size]; exact hsz j t (by rw [hdst]; exact hjt)), upd_same]
          simp
        · rw [if_neg ej] at hj
          rw [upd_other ej]
          have hne : o.dst ≠ some t := by
            intro e
            exact ej (apart_inj hap hjt (by rw [hdst]; exact e))
          rw [put_get_ne hne]
          exact h.new j t hj hjt
      · intro j hj
        rw [set_get hku] at hj
        by_cases ej : j = k
        · subst ej
          exact hR
        · rw [if_neg ej] at hj
          have hjlt : j < ops.size := by rw [← h.len]; exact (Array.getElem?_eq_some_iff.1 hj).1
          have hoj : ops[j]? = some ops[j] := Array.getElem?_eq_getElem hjlt
          have hlj := List.all_eq_true.1 hlo j (List.mem_range.2 hjlt)
          simp only [hoj, Bool.and_eq_true] at hlj
          refine hC j vals _ w' (fun i hi => ?_) (hS j _ w w' hSw (h.got j hj))
          have hik : i ≠ k := by
            rcases hi with rfl | hi
            · exact ej
            · intro e
              have h1 : i ∈ ahead ops[j] := by simpa using List.all_eq_true.1 hlj.1.2 i hi
              have h2 := h.closed j _ hoj hj i h1
              rw [e, hku] at h2; cases h2
          rw [upd_other hik]
    · intro hnone v u w'
      unfold resg
      rw [hnone]
      exact id
    · intro t ht
      rw [putOf_size]
      exact hsz k t (by rw [hdst]; exact ht)
    · rw [e] at hsel; cases hsel
/-- what is owed for one operation -/
def Owesg (P : Program) (D : List (Option Tmp)) (ps : List Nat) (I : World → Prop) (S : World → World → Prop) (R : Nat → (Nat → Value) → World → Prop) (a0 : Act) (k : Nat) (o : Oper) : Prop :=
  ∀ (vals : Nat → Value) (w : World), I w → (∀ j ∈ ps, R j vals w) → match o.guard with
    | none => Goes P D ps (fun w v w' => I w' ∧ S w w' ∧ resg o R k vals v w') a0 o vals w
    | some (g, want) => (vals g = .bool want → Goes P D ps (fun w v w' => I w' ∧ S w w' ∧ resg o R k vals v w') a0 o vals w) ∧ (vals g ≠ .bool want → S w w ∧ R k (upd vals k undef) w)
/-- what is owed for the operations, one after the other -/
def OwesAllg (P : Program) (D : List (Option Tmp)) (L : List (List Nat)) (I : World → Prop) (S : World → World → Prop) (R : Nat → (Nat → Value) → World → Prop) (a0 : Act) : Nat → Nat → List Oper → Prop
  | _, 0, _ => True
  | _, _ + 1, [] => True
  | k, n + 1, o :: r => Owesg P D (L.getD k []) I S R a0 k o ∧ OwesAllg P D L I S R a0 (k + 1) n r
theorem owes_of_allg {D : List (Option Tmp)} {L : List (List Nat)} {I : World → Prop} {S : World → World → Prop} {R : Nat → (Nat → Value) → World → Prop} {a0 : Act} : ∀ (l : List Oper) (m n : Nat), OwesAllg P D L I S R a0 m n l → ∀ (k : Nat) (o : Oper), k < n → l[k]? = some o → Owesg P D (L.getD (m + k) []) I S R a0 (m + k) o := by
  intro l
  induction l with
  | nil => intro m n _ k o _ h; simp at h
  | cons x r ih =>
    intro m n h k o hk hx
    cases n with
    | zero => omega
    | succ n =>
      obtain ⟨h1, h2⟩ := h
      cases k with
      | zero => simp only [List.getElem?_cons_zero, Option.some.injEq] at hx; subst hx; exact h1
      | succ k =>
        simp only [List.getElem?_cons_succ] at hx
        have := ih (m + 1) n h2 k o (by omega) hx
        rwa [show m + 1 + k = m + (k + 1) by omega] at this
theorem does_of_owesg {D : List (Option Tmp)} {L : List (List Nat)} {I : World → Prop} {S : World → World → Prop} {R : Nat → (Nat → Value) → World → Prop} {a0 : Act} {k : Nat} {o : Oper}
    (hD : ∀ j, j < ops.size → slot ops j = D.getD j none) (hL : ∀ j ∈ L.getD k [], j < ops.size) (hap : apartB ops = true) (hsz : ∀ j t, slot ops j = some t → t < a0.tmps.size)
    (hg : ∀ g want, o.guard = some (g, want) → g ∈ L.getD k [] ∧ (slot ops g).isSome = true) (h : Owesg P D (L.getD k []) I S R a0 k o) : Doesg P ops L I S R a0 k o := by
  intro vals w hI hR
  have h := h vals w hI hR
  unfold Goes at h
  rw [← putD_eq hD vals _ _ hL] at h
  generalize he : putOf ops vals (L.getD k []) a0 = a1 at *
  unfold wpList
  cases hgd : o.guard with
  | none =>
    rw [hgd] at h
    rw [if_pos (by simp [Region.wanted, hgd])]
    exact .inl (wpList_unguarded h)
  | some gw =>
    obtain ⟨g, want⟩ := gw
    rw [hgd] at h
    obtain ⟨h1, h2⟩ := h
    obtain ⟨hgl, hgs⟩ := hg g want hgd
    obtain ⟨t, ht⟩ := Option.isSome_iff_exists.1 hgs
    have hv : a1.tmps[t]? = some (vals g) := by rw [← he]; exact putOf_mem hap vals _ _ g t hgl ht (hsz g t ht)
    have hy : yielded ops a1.tmps g = match vals g with | .bool b => some b | _ => none := by
      unfold yielded
      have : (ops[g]?).bind (·.dst) = some t := ht
      rw [this, Option.bind_some, hv]
      cases vals g <;> rfl
    by_cases hb : vals g = .bool want
    · rw [if_pos (by simp [Region.wanted, hgd, hy, hb])]
      exact .inl (wpList_unguarded (h1 hb))
    · rw [if_neg]
      · obtain ⟨hS, hR⟩ := h2 hb
        refine ⟨undef, rfl, hI, hS, ?_⟩
        unfold resg
        cases o.dst <;> exact hR
      · simp only [Region.wanted, hgd, hy]
        cases hx : vals g <;> simp
        rename_i b
        rw [hx] at hb
        intro e
        exact hb (by rw [e])
/-- A REGION THAT DRAWS ITS ORDER: its first n operations come up in any order that the edges allow, the others behind them. Each operation is walked once. I: what holds throughout; S: what a step may change; R k: what the result of operation k is. -/
theorem region_anyg {id : Nat} {l : List Oper} {a0 : Act} {w0 : World} (n : Nat) (D : List (Option Tmp)) (L : List (List Nat)) (I : World → Prop) (S : World → World → Prop) (R : Nat → (Nat → Value) → World → Prop) (hm : P.follows .mixedOrders = true)
    (hok : regOk l.toArray D L n a0.tmps.size = true) (h0 : I w0.drew)
    (hS : ∀ j v w w', S w w' → R j v w → R j v w') (hC : ∀ j v v' w, (∀ i, i = j ∨ i ∈ L.getD j [] → v i = v' i) → R j v w → R j v' w)
    (hop : OwesAllg P D L I S R a0 0 n l)
    (hend : ∀ (vals : Nat → Value) (w : World), I w → (∀ j : Nat, j < n → R j vals w) → wpList P l.toArray Q (l.drop n) (putD D vals (List.range n) a0) w) :
    (Code.region id l.toArray true).wp P Q a0 w0 := by
  simp only [regOk, Bool.and_eq_true] at hok
  obtain ⟨⟨⟨⟨⟨⟨⟨hnle, htl⟩, hb⟩, hap⟩, hlo⟩, hsz⟩, hD⟩, hgd⟩ := hok
  have hnle' := of_decide_eq_true hnle
  have slot_lt : ∀ {j t : Nat}, slot l.toArray j = some t → j < l.toArray.size := by
    intro j t hj
    unfold slot at hj
    cases hk : l.toArray[j]? with
    | none => rw [hk] at hj; cases hj
    | some o => exact (Array.getElem?_eq_some_iff.1 hk).1
  have hsz' : ∀ j t, slot l.toArray j = some t → t < a0.tmps.size := by
    intro j t hj
    have h1 := List.all_eq_true.1 hsz j (List.mem_range.2 (slot_lt hj))
    simp only [hj] at h1
    exact of_decide_eq_true h1
  have hD' : ∀ j, j < l.toArray.size → slot l.toArray j = D.getD j none := fun j hj => by simpa using List.all_eq_true.1 hD j (List.mem_range.2 hj)
  refine wp_region_any hm ?_
  refine wpAny_heldg hb hap hlo hnle' htl (I := I) (S := S) (R := R) (a0 := a0) hsz' hS hC (fun k o hk ho => ?_) (fun vals w hI hR => ?_) _ _ (fun _ => undef) a0 _ ?_ ?_ ?_
  · have hklt : k < l.toArray.size := (Array.getElem?_eq_some_iff.1 ho).1
    have h1 := owes_of_allg l 0 n hop k o hk (by simpa using ho)
    rw [Nat.zero_add] at h1
    have hlk := List.all_eq_true.1 hlo k (List.mem_range.2 hklt)
    simp only [ho, Bool.and_eq_true] at hlk
    refine does_of_owesg hD' (fun j hj => ?_) hap hsz' (fun g want hg => ?_) h1
    · have h2 : j ∈ ahead o := by simpa using List.all_eq_true.1 hlk.1.2 j hj
      have h3 := List.all_eq_true.1 hb k (List.mem_range.2 hklt)
      simp only [ho] at h3
      have := of_decide_eq_true (List.all_eq_true.1 h3 j h2)
      omega
    · have h2 := List.all_eq_true.1 hgd k (List.mem_range.2 hklt)
      simp only [ho, Option.bind_some, hg, Bool.and_eq_true] at h2
      have hgl : g ∈ L.getD k [] := by simpa using h2.1
      refine ⟨hgl, ?_⟩
      have h4 : g ∈ ahead o := by simpa using List.all_eq_true.1 hlk.1.2 g hgl
      have h3 := List.all_eq_true.1 hb k (List.mem_range.2 hklt)
      simp only [ho] at h3
      have := of_decide_eq_true (List.all_eq_true.1 h3 g h4)
      rw [hD' g (by omega)]; exact h2.2
  · rw [putD_eq hD' vals _ _ (fun j hj => by have := List.mem_range.1 hj; omega)]
    exact hend vals w hI hR
  · simp
  · intro j _ hj
    rw [Array.getElem?_replicate, if_pos hj]
  · refine ⟨h0, by simp, rfl, rfl, ?_, fun _ _ => rfl, ?_, ?_⟩
    · intro j o _ hj
      rw [Array.getElem?_replicate] at hj
      split at hj <;> simp at hj
    · intro j t hj
      rw [Array.getElem?_replicate] at hj
      split at hj <;> simp at hj
    · intro j hj
      rw [Array.getElem?_replicate] at hj
      split at hj <;> simp at hj
/-- what is known may speak of the results that an operation builds on, and of its own -/
def rs (L : List (List Nat)) (j : Nat) (vals : Nat → Value) : Nat → Value := fun i => if (j :: L.getD j []).contains i then vals i else undef
def Stabg (S : World → World → Prop) : List ((Nat → Value) → World → Prop) → Prop
  | [] => True
  | r :: t => (∀ v w w', S w w' → r v w → r v w') ∧ Stabg S t
def atg (L : List (List Nat)) (RL : List ((Nat → Value) → World → Prop)) (j : Nat) (vals : Nat → Value) (w : World) : Prop := RL.getD j (fun _ _ => True) (rs L j vals) w
theorem Stabg.get {S : World → World → Prop} : ∀ {RL : List ((Nat → Value) → World → Prop)}, Stabg S RL → ∀ j v w w', S w w' → RL.getD j (fun _ _ => True) v w → RL.getD j (fun _ _ => True) v w' := by
  intro RL
  induction RL with
  | nil => intro _ j v w w' _ _; exact trivial
  | cons r t ih =>
    rintro ⟨h1, h2⟩ j v w w' hS h
    cases j with
    | zero => exact h1 v w w' hS h
    | succ j => exact ih h2 j v w w' hS h
/-- A REGION THAT DRAWS ITS ORDER, as region_f; each relation takes the values of the operations: its own and those that it builds on. -/
theorem region_g {id : Nat} {l : List Oper} {a0 : Act} {w0 : World} (n N : Nat) (D : List (Option Tmp)) (L : List (List Nat)) (LV : List (Nat × Value)) (I : World → Prop) (S : World → World → Prop) (RL : List ((Nat → Value) → World → Prop)) (hm : P.follows .mixedOrders = true)
    (hok : regOk l.toArray D L n N = true) (hN : a0.tmps.size = N) (hLV : Lives a0 LV) (h0 : I w0.drew) (hS : Stabg S RL)
    (hop : ∀ b0 : Act, b0.tmps.size = N → Lives b0 LV → OwesAllg P D L I S (atg L RL) b0 0 n l)
    (hend : ∀ (vals : Nat → Value) (w : World), I w → (∀ j : Nat, j < n → atg L RL j vals w) → wpList P l.toArray Q (l.drop n) (putD D vals (List.range n) a0) w) :
    (Code.region id l.toArray true).wp P Q a0 w0 := by
  refine region_anyg n D L I S (atg L RL) hm (hN ▸ hok) h0 (fun j v w w' hs h => hS.get j _ w w' hs h) (fun j v v' w hv h => ?_) (hop a0 hN hLV) hend
  unfold atg at *
  have e : rs L j v = rs L j v' := by
    funext i
    unfold rs
    split
    · rename_i hi
      exact hv i (by simpa using hi)
    · rfl
  rw [← e]; exact h
end Go.Proofs.Ytfgmhidgkemfoaa.Roll
namespace Go.Proofs.Ytfgmhidgkemfoaa.Roll
variable {P : Program} {ops : Array Oper} {Q : Exit → Act → World → Prop}
/-- what an operation may take for granted -/
def Inw (I0 J : World → Prop) (k0 : Nat) (PL : List Bool) (k : Nat) (w : World) : Prop := if k = k0 then I0 w else if PL.getD k false = true then J w else I0 w
/-- what an operation leaves -/
def Outw (I0 : World → Prop) (I1 : Value → World → Prop) (k0 : Nat) (PL : List Bool) (S : World → World → Prop) (k : Nat) (v : Value) (w w' : World) : Prop := if k = k0 then I1 v w' ∧ S w w' else if PL.getD k false = true then w' = w else I0 w' ∧ S w w'
def Doesw (P : Program) (ops : Array Oper) (L : List (List Nat)) (I0 : World → Prop) (I1 : Value → World → Prop) (J : World → Prop) (k0 : Nat) (PL : List Bool) (S : World → World → Prop) (R : Nat → (Nat → Value) → World → Prop) (a0 : Act) (k : Nat) (o : Oper) : Prop :=
  ∀ (vals : Nat → Value) (w : World), Inw I0 J k0 PL k w → (∀ j ∈ L.getD k [], R j vals w) →
    wpList P ops (Post (putOf ops vals (L.getD k []) a0) o.dst fun v w' => Outw I0 I1 k0 PL S k (if o.dst.isSome then v else undef) w w' ∧ resg o R k vals v w') [o] (putOf ops vals (L.getD k []) a0) w
structure Heldw (ops : Array Oper) (I0 : World → Prop) (I1 : Value → World → Prop) (k0 : Nat) (R : Nat → (Nat → Value) → World → Prop) (a0 : Act) (vals : Nat → Value) (listed : Array Bool) (a : Act) (w : World) : Prop where
  inv : (listed[k0]? = some true → I1 (vals k0) w) ∧ (listed[k0]? = some false → I0 w)
  len : listed.size = ops.size
  defers : a.defers = a0.defers
  size : a.tmps.size = a0.tmps.size
  closed : ∀ (j : Nat) (o : Oper), ops[j]? = some o → listed[j]? = some true → ∀ i ∈ ahead o, listed[i]? = some true
  old : ∀ t : Nat, (∀ j : Nat, listed[j]? = some true → slot ops j ≠ some t) → a.tmps[t]? = a0.tmps[t]?
  new : ∀ (j t : Nat), listed[j]? = some true → slot ops j = some t → a.tmps[t]? = some (vals j)
  got : ∀ j : Nat, listed[j]? = some true → R j vals w
/-- operation k must stand ahead of operation j, by at most so many steps -/
def aheadB (ops : Array Oper) : Nat → Nat → Nat → Bool
  | 0, _, _ => false
  | f + 1, j, k => match ops[j]? with
    | none => false
    | some o => (ahead o).contains k || (ahead o).any fun i => aheadB ops f i k
theorem closedB {ops : Array Oper} {listed : Array Bool} (h : ∀ (j : Nat) (o : Oper), ops[j]? = some o → listed[j]? = some true → ∀ i ∈ ahead o, listed[i]? = some true) : ∀ (f j k : Nat), aheadB ops f j k = true → listed[j]? = some true → listed[k]? = some true
  | 0, _, _, hb, _ => by cases hb
  | f + 1, j, k, hb, hl => by
    unfold aheadB at hb
    cases ho : ops[j]? with
    | none => rw [ho] at hb; cases hb
    | some o =>
      rw [ho] at hb
      simp only [Bool.or_eq_true, List.any_eq_true, List.contains_eq_mem, decide_eq_true_eq] at hb
      rcases hb with hb | ⟨i, hi, hb⟩
      · exact h j o ho hl k hb
      · exact closedB h f i k hb (h j o ho hl i hi)
theorem wpAny_heldw (hb : backOk ops = true) (hap : apartB ops = true) {L : List (List Nat)} (hlo : looksOk ops L = true) {n : Nat} (hnle : n ≤ ops.size) (htl : tailOk ops n = true) {I0 : World → Prop} {I1 : Value → World → Prop} {J : World → Prop} {k0 : Nat} {PL : List Bool} {S : World → World → Prop} {R : Nat → (Nat → Value) → World → Prop} {a0 : Act}
    (hsz : ∀ j t, slot ops j = some t → t < a0.tmps.size)
    (hS : ∀ j v w w', S w w' → R j v w → R j v w') (hC : ∀ j v v' w, (∀ i, i = j ∨ i ∈ L.getD j [] → v i = v' i) → R j v w → R j v' w) (hk0 : k0 < n) (hPL : ∀ (o : Oper) (k : Nat), ops[k0]? = some o → k < n → k ≠ k0 → PL.getD k false = true ∨ aheadB ops 12 k0 k = true) (hJ0 : ∀ w, I0 w → J w) (hJ1 : ∀ u w, I1 u w → J w) (hS0 : ∀ w, S w w)
    (hop : ∀ (k : Nat) (o : Oper), k < n → ops[k]? = some o → Doesw P ops L I0 I1 J k0 PL S R a0 k o)
    (hend : ∀ (vals : Nat → Value) (w : World), I1 (vals k0) w → (∀ j : Nat, j < n → R j vals w) → wpList P ops Q (ops.toList.drop n) (putOf ops vals (List.range n) a0) w) :
    ∀ (fuel : Nat) (listed : Array Bool) (vals : Nat → Value) (a : Act) (w : World), listed.toList.count false ≤ fuel → (∀ j : Nat, n ≤ j → j < ops.size → listed[j]? = some false) → Heldw ops I0 I1 k0 R a0 vals listed a w → wpAny P .any ops Q fuel listed a w := by
  have slot_lt : ∀ {j t : Nat}, slot ops j = some t → j < ops.size := by
    intro j t hj
    unfold slot at hj
    cases hk : ops[j]? with
    | none => rw [hk] at hj; cases hj
    | some o => exact (Array.getElem?_eq_some_iff.1 hk).1
  have fin : ∀ (fuel : Nat) (listed : Array Bool) (vals : Nat → Value) (a : Act) (w : World), listed.toList.count false ≤ fuel → (∀ j : Nat, n ≤ j → j < ops.size → listed[j]? = some false) → Heldw ops I0 I1 k0 R a0 vals listed a w → (∀ j : Nat, j < n → listed[j]? = some true) → wpAny P .any ops Q fuel listed a w := by
    intro fuel listed vals a w hc hun h hall
    have e : a = putOf ops vals (List.range n) a0 := by
      have et : a.tmps = (putOf ops vals (List.range n) a0).tmps := by
        refine Array.ext_getElem? fun t => ?_
        by_cases hx : ∃ j : Nat, j < n ∧ slot ops j = some t
        · obtain ⟨j, hjn, hj⟩ := hx
          rw [h.new j t (hall j hjn) hj, putOf_mem hap vals _ _ j t (List.mem_range.2 hjn) hj (hsz j t hj)]
        · rw [h.old t (fun j hj e => ?_), putOf_other ops vals _ _ t (fun j hj e => hx ⟨j, List.mem_range.1 hj, e⟩)]
          rcases Nat.lt_or_ge j n with hjn | hjn
          · exact hx ⟨j, hjn, e⟩
          · rw [hun j hjn (slot_lt e)] at hj; cases hj
      have ed : a.defers = (putOf ops vals (List.range n) a0).defers := by rw [putOf_defers]; exact h.defers
      cases a
      generalize putOf ops vals (List.range n) a0 = b at *
      cases b
      simp_all
    have hcnt : ops.size - n ≤ fuel := by
      refine Nat.le_trans ?_ hc
      have h1 : (listed.toList.drop n).count false = ops.size - n := by
        rw [List.count_eq_length.2]
        · simp [h.len]
        · intro b hb'
          obtain ⟨i, hi, rfl⟩ := List.mem_iff_getElem.1 hb'
          simp only [List.length_drop, Array.length_toList] at hi
          have := hun (n + i) (by omega) (by rw [← h.len]; omega)
          rw [Array.getElem?_eq_getElem (by omega)] at this
          simpa using (Option.some.inj this).symm
      rw [← h1]
      exact (List.drop_sublist n _).count_le false
    exact wpAny_tail hb htl fuel n listed a w (Nat.le_refl _) hnle hcnt h.len hall hun (e ▸ hend vals w (h.inv.1 (hall k0 hk0)) (fun j hj => h.got j (hall j hj)))
  intro fuel
  induction fuel with
  | zero =>
    intro listed vals a w hc hun h
    refine fin 0 listed vals a w hc hun h fun j hj => ?_
    have hjl : j < listed.size := by rw [h.len]; omega
    rw [Array.getElem?_eq_getElem hjl]
    have h0 : listed.toList.count false = 0 := by omega
    have := List.count_eq_zero.1 h0
    cases hv : listed[j] with
    | true => rfl
    | false => exact (this (hv ▸ (by simp))).elim
  | succ fuel ih =>
    intro listed vals a w hc hun h
    by_cases hall : ∀ j : Nat, j < n → listed[j]? = some true
    · exact fin _ listed vals a w hc hun h hall
    refine ⟨fun hr => (hall fun j hj => ready_least rfl hb h.len hr j (by omega)).elim, fun k hk => ?_⟩
    obtain ⟨hu, o, ho, hedge⟩ := mem_ready.1 hk
    have hku := unlisted_of_getD hu
    have hklt : k < ops.size := (Array.getElem?_eq_some_iff.1 ho).1
    have hkn : k < n := by
      rcases Nat.lt_or_ge k n with hx | hx
      · exact hx
      · exact (hall fun j hj => by
          obtain ⟨e, he, hbd, hon⟩ := ahead_of_edge (tail_ahead htl ho hx (show j < k by omega))
          exact hon ▸ listed_of_getD (hedge e he hbd)).elim
    have hah : ∀ i ∈ ahead o, listed[i]? = some true := by
      intro i hi
      obtain ⟨e, he, rfl⟩ := List.mem_map.1 hi
      obtain ⟨h1, h2⟩ := List.mem_filter.1 he
      exact listed_of_getD (hedge e (by simpa using h1) h2)
    have hlk := List.all_eq_true.1 hlo k (List.mem_range.2 hklt)
    simp only [ho, Bool.and_eq_true] at hlk
    obtain ⟨⟨hsel, hpre⟩, hlk⟩ := hlk
    have hpre' : ∀ i ∈ L.getD k [], i ∈ ahead o := fun i hi => by simpa using List.all_eq_true.1 hpre i hi
    have hsame : ∀ t ∈ o.looksAt ops, a.tmps[t]? = (putOf ops vals (L.getD k []) a0).tmps[t]? := by
      intro t ht
      have h1 := List.all_eq_true.1 hlk t ht
      by_cases hx : ∃ j : Nat, listed[j]? = some true ∧ slot ops j = some t
      · obtain ⟨j, hj, hjt⟩ := hx
        have hjlt : j < ops.size := by rw [← h.len]; exact (Array.getElem?_eq_some_iff.1 hj).1
        have h2 := List.all_eq_true.1 h1 j (List.mem_range.2 hjlt)
        have hoj : ops[j]? = some ops[j] := Array.getElem?_eq_getElem hjlt
        simp only [hoj, Bool.or_eq_true, bne_iff_ne, ne_eq, List.contains_eq_mem, decide_eq_true_eq] at h2
        have hjin : j ∈ L.getD k [] := by
          rcases h2 with (h2 | h2) | h2
          · exact (h2 hjt).elim
          · exact h2
          · have := h.closed j _ hoj hj k h2
            rw [hku] at this; cases this
        rw [h.new j t hj hjt, putOf_mem hap vals _ _ j t hjin hjt (hsz j t hjt)]
      · rw [h.old t (fun j hj e => hx ⟨j, hj, e⟩), putOf_other ops vals _ _ t (fun j hj e => hx ⟨j, hah j (hpre' j hj), e⟩)]
    have hk0l : k0 < listed.size := by rw [h.len]; omega
    have hsd := Array.getElem?_eq_getElem hk0l
    have hJ : J w := by
      cases hv : listed[k0] with
      | true => rw [hv] at hsd; exact hJ1 _ _ (h.inv.1 hsd)
      | false => rw [hv] at hsd; exact hJ0 _ (h.inv.2 hsd)
    have hph : k = k0 ∨ PL.getD k false = true ∨ listed[k0]? = some false := by
      by_cases e : k = k0
      · exact .inl e
      · have hok0 : ops[k0]? = some ops[k0] := Array.getElem?_eq_getElem (by omega)
        rcases hPL _ k hok0 hkn e with hp | hp
        · exact .inr (.inl hp)
        · refine .inr (.inr ?_)
          cases hv : listed[k0] with
          | false => rw [hsd, hv]
          | true =>
            rw [hv] at hsd
            have := closedB h.closed 12 k0 k hp hsd
            rw [hku] at this; cases this
    have hd := hop k o hkn ho vals w (by
      unfold Inw
      by_cases e : k = k0
      · rw [if_pos e]; subst e; exact h.inv.2 hku
      · rw [if_neg e]
        split
        · exact hJ
        · rename_i hnp
          rcases hph with hp | hp | hp
          · exact (e hp).elim
          · exact (hnp hp).elim
          · exact h.inv.2 hp) (fun j hj => h.got j (hah j (hpre' j hj)))
    have hdst : slot ops k = o.dst := by unfold slot; rw [ho]; rfl
    refine wpOp_mono ?_ (wpOp_of_list (Q := Q) (a := a) ho ?_ ?_ (exec_congr (fun cs c e => ?_) hsame) (wanted_congr hsame) hd)
    · rintro a' w' ⟨v, rfl, hO, hR⟩
      have hSw : S w w' := by
        unfold Outw at hO
        split at hO
        · exact hO.2
        · split at hO
          · rw [hO]; exact hS0 w
          · exact hO.2
      refine ih (listed.setIfInBounds k true) (upd vals k (if o.dst.isSome then v else undef)) _ w' (by have := count_set hku; omega) (fun j hj hjs => by rw [set_get hku, if_neg (by omega)]; exact hun j hj hjs) ?_
      refine ⟨?_, ?_, ?_, ?_, ?_, ?_, ?_, ?_⟩
      · by_cases e : k = k0
        · subst e
          unfold Outw at hO
          rw [if_pos rfl] at hO
          refine ⟨fun _ => ?_, fun hf => ?_⟩
          · rw [upd_same]; exact hO.1
          · rw [set_get hku, if_pos rfl] at hf; cases hf
        · unfold Outw at hO
          rw [if_neg e] at hO
          have e2 : k0 ≠ k := fun h => e h.symm
          refine ⟨fun ht => ?_, fun hf => ?_⟩
          · rw [set_get hku, if_neg e2] at ht
            rw [upd_other e2]
            split at hO
            · rw [hO]; exact h.inv.1 ht
            · rename_i hnp
              rcases hph with hp | hp | hp
              · exact (e hp).elim
              · exact (hnp hp).elim
              · rw [ht] at hp; cases hp
          · rw [set_get hku, if_neg e2] at hf
            split at hO
            · rw [hO]; exact h.inv.2 hf
            · exact hO.1
      · rw [Array.size_setIfInBounds]; exact h.len
      · rw [← h.defers]; cases o.dst <;> rfl
      · rw [← h.size]; cases o.dst <;> simp [Act.put]
      · intro j oj hoj hj i hi
        rw [set_get hku] at hj ⊢
        by_cases ei : i = k
        · rw [if_pos ei]
        · rw [if_neg ei]
          by_cases ej : j = k
          · subst ej
            rw [ho] at hoj; cases hoj
            exact hah i hi
          · rw [if_neg ej] at hj
            exact h.closed j oj hoj hj i hi
      · intro t ht
        have hne : o.dst ≠ some t := by rw [← hdst]; exact ht k (by rw [set_get hku, if_pos rfl])
        rw [put_get_ne hne]
        refine h.old t fun j hj => ht j ?_
        rw [set_get hku]; split <;> first | rfl | exact hj
      · intro j t hj hjt
        rw [set_get hku] at hj
        by_cases ej : j = k
        · subst ej
          rw [hdst] at hjt
          rw [hjt, put_get_eq (by rw [h.size]; exact hsz j t (by rw [hdst]; exact hjt)), upd_same]
          simp
        · rw [if_neg ej] at hj
          rw [upd_other ej]
          have hne : o.dst ≠ some t := by
            intro e
            exact ej (apart_inj hap hjt (by rw [hdst]; exact e))
          rw [put_get_ne hne]
          exact h.new j t hj hjt
      · intro j hj
        rw [set_get hku] at hj
        by_cases ej : j = k
        · subst ej
          exact hR
        · rw [if_neg ej] at hj
          have hjlt : j < ops.size := by rw [← h.len]; exact (Array.getElem?_eq_some_iff.1 hj).1
          have hoj : ops[j]? = some ops[j] := Array.getElem?_eq_getElem hjlt
          have hlj := List.all_eq_true.1 hlo j (List.mem_range.2 hjlt)
          simp only [hoj, Bool.and_eq_true] at hlj
          refine hC j vals _ w' (fun i hi => ?_) (hS j _ w w' hSw (h.got j hj))
          have hik : i ≠ k := by
            rcases hi with rfl | hi
            · exact ej
            · intro e
              have h1 : i ∈ ahead ops[j] := by simpa using List.all_eq_true.1 hlj.1.2 i hi
              have h2 := h.closed j _ hoj hj i h1
              rw [e, hku] at h2; cases h2
          rw [upd_other hik]
    · intro hnone v u w'
      unfold resg
      rw [hnone]
      exact id
    · intro t ht
      rw [putOf_size]
      exact hsz k t (by rw [hdst]; exact ht)
    · rw [e] at hsel; cases hsel
/-- what is owed for one operation -/
def Owesw (P : Program) (D : List (Option Tmp)) (ps : List Nat) (I0 : World → Prop) (I1 : Value → World → Prop) (J : World → Prop) (k0 : Nat) (PL : List Bool) (S : World → World → Prop) (R : Nat → (Nat → Value) → World → Prop) (a0 : Act) (k : Nat) (o : Oper) : Prop :=
  ∀ (vals : Nat → Value) (w : World), Inw I0 J k0 PL k w → (∀ j ∈ ps, R j vals w) → match o.guard with
    | none => Goes P D ps (fun w v w' => Outw I0 I1 k0 PL S k (if o.dst.isSome then v else undef) w w' ∧ resg o R k vals v w') a0 o vals w
    | some (g, want) => (vals g = .bool want → Goes P D ps (fun w v w' => Outw I0 I1 k0 PL S k (if o.dst.isSome then v else undef) w w' ∧ resg o R k vals v w') a0 o vals w) ∧ (vals g ≠ .bool want → Outw I0 I1 k0 PL S k undef w w ∧ R k (upd vals k undef) w)
/-- what is owed for the operations, one after the other -/
def OwesAllw (P : Program) (D : List (Option Tmp)) (L : List (List Nat)) (I0 : World → Prop) (I1 : Value → World → Prop) (J : World → Prop) (k0 : Nat) (PL : List Bool) (S : World → World → Prop) (R : Nat → (Nat → Value) → World → Prop) (a0 : Act) : Nat → Nat → List Oper → Prop
  | _, 0, _ => True
  | _, _ + 1, [] => True
  | k, n + 1, o :: r => Owesw P D (L.getD k []) I0 I1 J k0 PL S R a0 k o ∧ OwesAllw P D L I0 I1 J k0 PL S R a0 (k + 1) n r
theorem owes_of_allw {D : List (Option Tmp)} {L : List (List Nat)} {I0 : World → Prop} {I1 : Value → World → Prop} {J : World → Prop} {k0 : Nat} {PL : List Bool} {S : World → World → Prop} {R : Nat → (Nat → Value) → World → Prop} {a0 : Act} : ∀ (l : List Oper) (m n : Nat), OwesAllw P D L I0 I1 J k0 PL S R a0 m n l → ∀ (k : Nat) (o : Oper), k < n → l[k]? = some o → Owesw P D (L.getD (m + k) []) I0 I1 J k0 PL S R a0 (m + k) o := by
  intro l
  induction l with
  | nil => intro m n _ k o _ h; simp at h
  | cons x r ih =>
    intro m n h k o hk hx
    cases n with
    | zero => omega
    | succ n =>
      obtain ⟨h1, h2⟩ := h
      cases k with
      | zero => simp only [List.getElem?_cons_zero, Option.some.injEq] at hx; subst hx; exact h1
      | succ k =>
        simp only [List.getElem?_cons_succ] at hx
        have := ih (m + 1) n h2 k o (by omega) hx
        rwa [show m + 1 + k = m + (k + 1) by omega] at this
theorem does_of_owesw {D : List (Option Tmp)} {L : List (List Nat)} {I0 : World → Prop} {I1 : Value → World → Prop} {J : World → Prop} {k0 : Nat} {PL : List Bool} {S : World → World → Prop} {R : Nat → (Nat → Value) → World → Prop} {a0 : Act} {k : Nat} {o : Oper}
    (hD : ∀ j, j < ops.size → slot ops j = D.getD j none) (hL : ∀ j ∈ L.getD k [], j < ops.size) (hap : apartB ops = true) (hsz : ∀ j t, slot ops j = some t → t < a0.tmps.size)
    (hg : ∀ g want, o.guard = some (g, want) → g ∈ L.getD k [] ∧ (slot ops g).isSome = true) (h : Owesw P D (L.getD k []) I0 I1 J k0 PL S R a0 k o) : Doesw P ops L I0 I1 J k0 PL S R a0 k o := by
  intro vals w hI hR
  have h := h vals w hI hR
  unfold Goes at h
  rw [← putD_eq hD vals _ _ hL] at h
  generalize he : putOf ops vals (L.getD k []) a0 = a1 at *
  unfold wpList
  cases hgd : o.guard with
  | none =>
    rw [hgd] at h
    rw [if_pos (by simp [Region.wanted, hgd])]
    exact .inl (wpList_unguarded h)
  | some gw =>
    obtain ⟨g, want⟩ := gw
    rw [hgd] at h
    obtain ⟨h1, h2⟩ := h
    obtain ⟨hgl, hgs⟩ := hg g want hgd
    obtain ⟨t, ht⟩ := Option.isSome_iff_exists.1 hgs
    have hv : a1.tmps[t]? = some (vals g) := by rw [← he]; exact putOf_mem hap vals _ _ g t hgl ht (hsz g t ht)
    have hy : yielded ops a1.tmps g = match vals g with | .bool b => some b | _ => none := by
      unfold yielded
      have : (ops[g]?).bind (·.dst) = some t := ht
      rw [this, Option.bind_some, hv]
      cases vals g <;> rfl
    by_cases hb : vals g = .bool want
    · rw [if_pos (by simp [Region.wanted, hgd, hy, hb])]
      exact .inl (wpList_unguarded (h1 hb))
    · rw [if_neg]
      · obtain ⟨hS, hR⟩ := h2 hb
        refine ⟨undef, rfl, ?_, ?_⟩
        · cases o.dst <;> exact hS
        · unfold resg
          cases o.dst <;> exact hR
      · simp only [Region.wanted, hgd, hy]
        cases hx : vals g <;> simp
        rename_i b
        rw [hx] at hb
        intro e
        exact hb (by rw [e])
/-- A REGION THAT DRAWS ITS ORDER: its first n operations come up in any order that the edges allow, the others behind them. Each operation is walked once. I: what holds throughout; S: what a step may change; R k: what the result of operation k is. -/
theorem region_anyw {id : Nat} {l : List Oper} {a0 : Act} {w0 : World} (n : Nat) (D : List (Option Tmp)) (L : List (List Nat)) (I0 : World → Prop) (I1 : Value → World → Prop) (J : World → Prop) (k0 : Nat) (PL : List Bool) (S : World → World → Prop) (R : Nat → (Nat → Value) → World → Prop) (hm : P.follows .mixedOrders = true)
    (hok : regOk l.toArray D L n a0.tmps.size = true) (h0 : I0 w0.drew) (hk0 : k0 < n) (hPL : (List.range n).all (fun k => k == k0 || PL.getD k false || aheadB l.toArray 12 k0 k) = true) (hJ0 : ∀ w, I0 w → J w) (hJ1 : ∀ u w, I1 u w → J w) (hS0 : ∀ w, S w w)
    (hS : ∀ j v w w', S w w' → R j v w → R j v w') (hC : ∀ j v v' w, (∀ i, i = j ∨ i ∈ L.getD j [] → v i = v' i) → R j v w → R j v' w)
    (hop : OwesAllw P D L I0 I1 J k0 PL S R a0 0 n l)
    (hend : ∀ (vals : Nat → Value) (w : World), I1 (vals k0) w → (∀ j : Nat, j < n → R j vals w) → wpList P l.toArray Q (l.drop n) (putD D vals (List.range n) a0) w) :
    (Code.region id l.toArray true).wp P Q a0 w0 := by
  simp only [regOk, Bool.and_eq_true] at hok
  obtain ⟨⟨⟨⟨⟨⟨⟨hnle, htl⟩, hb⟩, hap⟩, hlo⟩, hsz⟩, hD⟩, hgd⟩ := hok
  have hnle' := of_decide_eq_true hnle
  have slot_lt : ∀ {j t : Nat}, slot l.toArray j = some t → j < l.toArray.size := by
    intro j t hj
    unfold slot at hj
    cases hk : l.toArray[j]? with
    | none => rw [hk] at hj; cases hj
    | some o => exact (Array.getElem?_eq_some_iff.1 hk).1
  have hsz' : ∀ j t, slot l.toArray j = some t → t < a0.tmps.size := by
    intro j t hj
    have h1 := List.all_eq_true.1 hsz j (List.mem_range.2 (slot_lt hj))
    simp only [hj] at h1
    exact of_decide_eq_true h1
  have hD' : ∀ j, j < l.toArray.size → slot l.toArray j = D.getD j none := fun j hj => by simpa using List.all_eq_true.1 hD j (List.mem_range.2 hj)
  refine wp_region_any hm ?_
  refine wpAny_heldw hb hap hlo hnle' htl (I0 := I0) (I1 := I1) (J := J) (k0 := k0) (PL := PL) (S := S) (R := R) (a0 := a0) hsz' hS hC hk0 (fun o k ho hk hne => ?_) hJ0 hJ1 hS0 (fun k o hk ho => ?_) (fun vals w hI hR => ?_) _ _ (fun _ => undef) a0 _ ?_ ?_ ?_
  · have h1 := List.all_eq_true.1 hPL k (List.mem_range.2 hk)
    simp only [Bool.or_eq_true, beq_iff_eq] at h1
    rcases h1 with (h1 | h1) | h1
    · exact (hne h1).elim
    · exact .inl h1
    · exact .inr h1
  · have hklt : k < l.toArray.size := (Array.getElem?_eq_some_iff.1 ho).1
    have h1 := owes_of_allw l 0 n hop k o hk (by simpa using ho)
    rw [Nat.zero_add] at h1
    have hlk := List.all_eq_true.1 hlo k (List.mem_range.2 hklt)
    simp only [ho, Bool.and_eq_true] at hlk
    refine does_of_owesw hD' (fun j hj => ?_) hap hsz' (fun g want hg => ?_) h1
    · have h2 : j ∈ ahead o := by simpa using List.all_eq_true.1 hlk.1.2 j hj
      have h3 := List.all_eq_true.1 hb k (List.mem_range.2 hklt)
      simp only [ho] at h3
      have := of_decide_eq_true (List.all_eq_true.1 h3 j h2)
      omega
    · have h2 := List.all_eq_true.1 hgd k (List.mem_range.2 hklt)
      simp only [ho, Option.bind_some, hg, Bool.and_eq_true] at h2
      have hgl : g ∈ L.getD k [] := by simpa using h2.1
      refine ⟨hgl, ?_⟩
      have h4 : g ∈ ahead o := by simpa using List.all_eq_true.1 hlk.1.2 g hgl
      have h3 := List.all_eq_true.1 hb k (List.mem_range.2 hklt)
      simp only [ho] at h3
      have := of_decide_eq_true (List.all_eq_true.1 h3 g h4)
      rw [hD' g (by omega)]; exact h2.2
  · rw [putD_eq hD' vals _ _ (fun j hj => by have := List.mem_range.1 hj; omega)]
    exact hend vals w hI hR
  · simp
  · intro j _ hj
    rw [Array.getElem?_replicate, if_pos hj]
  · refine ⟨⟨fun hf => ?_, fun _ => h0⟩, by simp, rfl, rfl, ?_, fun _ _ => rfl, ?_, ?_⟩
    · rw [Array.getElem?_replicate] at hf
      split at hf <;> simp at hf
    · intro j o _ hj
      rw [Array.getElem?_replicate] at hj
      split at hj <;> simp at hj
    · intro j t hj
      rw [Array.getElem?_replicate] at hj
      split at hj <;> simp at hj
    · intro j hj
      rw [Array.getElem?_replicate] at hj
      split at hj <;> simp at hj
section
variable {I0 : World → Prop} {I1 : Value → World → Prop} {J : World → Prop} {k0 : Nat} {PL : List Bool} {S : World → World → Prop} {k : Nat} {v : Value} {w w' : World}
theorem inw_pure (hk : k ≠ k0) (hp : PL.getD k false = true) (h : Inw I0 J k0 PL k w) : J w := by unfold Inw at h; rwa [if_neg hk, if_pos hp] at h
theorem inw_pre (hk : k ≠ k0) (hp : PL.getD k false = false) (h : Inw I0 J k0 PL k w) : I0 w := by unfold Inw at h; rwa [if_neg hk, if_neg (by rw [hp]; simp)] at h
theorem inw_k0 (hk : k = k0) (h : Inw I0 J k0 PL k w) : I0 w := by unfold Inw at h; rwa [if_pos hk] at h
theorem outw_pure (hk : k ≠ k0) (hp : PL.getD k false = true) : Outw I0 I1 k0 PL S k v w w := by unfold Outw; rw [if_neg hk, if_pos hp]
theorem outw_pre (hk : k ≠ k0) (hp : PL.getD k false = false) (h : I0 w') (h2 : S w w') : Outw I0 I1 k0 PL S k v w w' := by unfold Outw; rw [if_neg hk, if_neg (by rw [hp]; simp)]; exact ⟨h, h2⟩
theorem outw_k0 (hk : k = k0) (h : I1 v w') (h2 : S w w') : Outw I0 I1 k0 PL S k v w w' := by unfold Outw; rw [if_pos hk]; exact ⟨h, h2⟩
end
/-- A REGION THAT DRAWS ITS ORDER, in which operation k0 alone writes what others may see. I0: what holds ahead of it; I1: behind it, of its result; J: throughout. -/
theorem region_w {id : Nat} {l : List Oper} {a0 : Act} {w0 : World} (n N : Nat) (D : List (Option Tmp)) (L : List (List Nat)) (LV : List (Nat × Value)) (k0 : Nat) (PL : List Bool) (I0 : World → Prop) (I1 : Value → World → Prop) (J : World → Prop) (S : World → World → Prop) (RL : List ((Nat → Value) → World → Prop)) (hm : P.follows .mixedOrders = true)
    (hok : regOk l.toArray D L n N = true) (hN : a0.tmps.size = N) (hLV : Lives a0 LV) (h0 : I0 w0.drew) (hk0 : k0 < n)
    (hPL : (List.range n).all (fun k => k == k0 || PL.getD k false || aheadB l.toArray 12 k0 k) = true) (hJ0 : ∀ w, I0 w → J w) (hJ1 : ∀ u w, I1 u w → J w) (hS0 : ∀ w, S w w) (hS : Stabg S RL)
    (hop : ∀ b0 : Act, b0.tmps.size = N → Lives b0 LV → OwesAllw P D L I0 I1 J k0 PL S (atg L RL) b0 0 n l)
    (hend : ∀ (vals : Nat → Value) (w : World), I1 (vals k0) w → (∀ j : Nat, j < n → atg L RL j vals w) → wpList P l.toArray Q (l.drop n) (putD D vals (List.range n) a0) w) :
    (Code.region id l.toArray true).wp P Q a0 w0 := by
  refine region_anyw n D L I0 I1 J k0 PL S (atg L RL) hm (hN ▸ hok) h0 hk0 hPL hJ0 hJ1 hS0 (fun j v w w' hs h => hS.get j _ w w' hs h) (fun j v v' w hv h => ?_) (hop a0 hN hLV) hend
  unfold atg at *
  have e : rs L j v = rs L j v' := by
    funext i
    unfold rs
    split
    · rename_i hi
      exact hv i (by simpa using hi)
    · rfl
  rw [← e]; exact h
end Go.Proofs.Ytfgmhidgkemfoaa.Roll
namespace Go.Proofs.Ytfgmhidgkemfoaa.Roll
variable {P : Program} {ops : Array Oper} {Q : Exit → Act → World → Prop}
/-- the operations from n on come last, each behind the one before it -/
def tailOk2 (ops : Array Oper) (n : Nat) : Bool := (List.range ops.size).all fun k => decide (k < n) || match ops[k]? with | none => true | some o => ((List.range n).all fun i => (ahead o).contains i) && (decide (k ≤ n) || (ahead o).contains (k - 1))
theorem tail_ahead2 {n k : Nat} {o : Oper} (h : tailOk2 ops n = true) (ho : ops[k]? = some o) (hk : n ≤ k) : (∀ i, i < n → i ∈ ahead o) ∧ (n < k → k - 1 ∈ ahead o) := by
  have hlt : k < ops.size := (Array.getElem?_eq_some_iff.1 ho).1
  have h1 := List.all_eq_true.1 h k (List.mem_range.2 hlt)
  simp only [ho, Bool.or_eq_true, Bool.and_eq_true, decide_eq_true_eq] at h1
  have h2 := h1.resolve_left (by omega)
  refine ⟨fun i hi => by simpa using List.all_eq_true.1 h2.1 i (List.mem_range.2 hi), fun hk2 => ?_⟩
  have h3 := h2.2.resolve_left (by omega)
  simpa using h3
theorem wpAny_tail2 (hb : backOk ops = true) {n : Nat} (ht : tailOk2 ops n = true) : ∀ (fuel m : Nat) (listed : Array Bool) (a : Act) (w : World), n ≤ m → m ≤ ops.size → ops.size - m ≤ fuel → listed.size = ops.size →
    (∀ j : Nat, j < m → listed[j]? = some true) → (∀ j : Nat, m ≤ j → j < ops.size → listed[j]? = some false) → wpList P ops Q (ops.toList.drop m) a w → wpAny P .any ops Q fuel listed a w := by
  intro fuel
  induction fuel with
  | zero =>
    intro m listed a w hn hm hf hl h1 h2 h
    have : m = ops.size := by omega
    subst this
    rw [List.drop_of_length_le (by simp)] at h
    refine ⟨?_, h⟩
    cases hr : Region.ready .any ops listed with
    | nil => rfl
    | cons x r =>
      have hx : x ∈ Region.ready .any ops listed := by rw [hr]; exact List.mem_cons_self
      obtain ⟨hu, o, ho, _⟩ := mem_ready.1 hx
      have := h1 x (Array.getElem?_eq_some_iff.1 ho).1
      rw [unlisted_of_getD hu] at this
      cases this
  | succ fuel ih =>
    intro m listed a w hn hm hf hl h1 h2 h
    by_cases hms : m = ops.size
    · subst hms
      rw [List.drop_of_length_le (by simp)] at h
      refine ⟨fun _ => h, fun x hx => ?_⟩
      obtain ⟨hu, o, ho, _⟩ := mem_ready.1 hx
      have := h1 x (Array.getElem?_eq_some_iff.1 ho).1
      rw [unlisted_of_getD hu] at this
      cases this
    · have hlt : m < ops.size := by omega
      have hom : ops[m]? = some ops[m] := Array.getElem?_eq_getElem hlt
      refine ⟨fun hr => ?_, fun k hk => ?_⟩
      · have := ready_least rfl hb hl hr m hlt
        rw [h2 m (Nat.le_refl _) hlt] at this
        cases this
      · obtain ⟨hu, o, ho, hedge⟩ := mem_ready.1 hk
        have hku := unlisted_of_getD hu
        have hklt : k < ops.size := (Array.getElem?_eq_some_iff.1 ho).1
        have hkm : m ≤ k := by
          rcases Nat.lt_or_ge k m with hx | hx
          · rw [h1 k hx] at hku; cases hku
          · exact hx
        have hk : k = m := by
          rcases Nat.lt_or_ge m k with hx | hx
          · obtain ⟨e, he, hbd, hon⟩ := ahead_of_edge ((tail_ahead2 ht ho (by omega)).2 (by omega))
            have := listed_of_getD (hedge e he hbd)
            rw [hon, h2 (k - 1) (by omega) (by omega)] at this
            cases this
          · omega
        subst hk
        rw [List.drop_eq_getElem_cons (by simpa using hlt)] at h
        unfold wpList at h
        unfold wpOp
        simp only [hom]
        simp only [Array.getElem_toList] at h
        have next : ∀ a' w', wpList P ops Q (ops.toList.drop (k + 1)) a' w' → wpAny P .any ops Q fuel (listed.setIfInBounds k true) a' w' := by
          intro a' w' h'
          refine ih (k + 1) _ a' w' (by omega) hlt (by omega) (by rw [Array.size_setIfInBounds]; exact hl) ?_ ?_ h'
          · intro j hj
            rw [set_get hku]
            split
            · rfl
            · exact h1 j (by omega)
          · intro j hj hjs
            rw [set_get hku, if_neg (by omega)]
            exact h2 j (by omega) hjs
        split
        · rename_i hw
          rw [if_pos hw] at h
          exact h.imp (Oper.wp_mono next) id
        · rename_i hw
          rw [if_neg hw] at h
          exact next _ _ h
theorem wpAny_heldv (hb : backOk ops = true) (hap : apartB ops = true) {L : List (List Nat)} (hlo : looksOk ops L = true) {n : Nat} (hnle : n ≤ ops.size) (htl : tailOk2 ops n = true) {I0 : World → Prop} {I1 : Value → World → Prop} {J : World → Prop} {k0 : Nat} {PL : List Bool} {S : World → World → Prop} {R : Nat → (Nat → Value) → World → Prop} {a0 : Act}
    (hsz : ∀ j t, slot ops j = some t → t < a0.tmps.size)
    (hS : ∀ j v w w', S w w' → R j v w → R j v w') (hC : ∀ j v v' w, (∀ i, i = j ∨ i ∈ L.getD j [] → v i = v' i) → R j v w → R j v' w) (hk0 : k0 < n) (hPL : ∀ (o : Oper) (k : Nat), ops[k0]? = some o → k < n → k ≠ k0 → PL.getD k false = true ∨ aheadB ops 12 k0 k = true) (hJ0 : ∀ w, I0 w → J w) (hJ1 : ∀ u w, I1 u w → J w) (hS0 : ∀ w, S w w)
    (hop : ∀ (k : Nat) (o : Oper), k < n → ops[k]? = some o → Doesw P ops L I0 I1 J k0 PL S R a0 k o)
    (hend : ∀ (vals : Nat → Value) (w : World), I1 (vals k0) w → (∀ j : Nat, j < n → R j vals w) → wpList P ops Q (ops.toList.drop n) (putOf ops vals (List.range n) a0) w) :
    ∀ (fuel : Nat) (listed : Array Bool) (vals : Nat → Value) (a : Act) (w : World), listed.toList.count false ≤ fuel → (∀ j : Nat, n ≤ j → j < ops.size → listed[j]? = some false) → Heldw ops I0 I1 k0 R a0 vals listed a w → wpAny P .any ops Q fuel listed a w := by
  have slot_lt : ∀ {j t : Nat}, slot ops j = some t → j < ops.size := by
    intro j t hj
    unfold slot at hj
    cases hk : ops[j]? with
    | none => rw [hk] at hj; cases hj
    | some o => exact (Array.getElem?_eq_some_iff.1 hk).1
  have fin : ∀ (fuel : Nat) (listed : Array Bool) (vals : Nat → Value) (a : Act) (w : World), listed.toList.count false ≤ fuel → (∀ j : Nat, n ≤ j → j < ops.size → listed[j]? = some false) → Heldw ops I0 I1 k0 R a0 vals listed a w → (∀ j : Nat, j < n → listed[j]? = some true) → wpAny P .any ops Q fuel listed a w := by
    intro fuel listed vals a w hc hun h hall
    have e : a = putOf ops vals (List.range n) a0 := by
      have et : a.tmps = (putOf ops vals (List.range n) a0).tmps := by
        refine Array.ext_getElem? fun t => ?_
        by_cases hx : ∃ j : Nat, j < n ∧ slot ops j = some t
        · obtain ⟨j, hjn, hj⟩ := hx
          rw [h.new j t (hall j hjn) hj, putOf_mem hap vals _ _ j t (List.mem_range.2 hjn) hj (hsz j t hj)]
        · rw [h.old t (fun j hj e => ?_), putOf_other ops vals _ _ t (fun j hj e => hx ⟨j, List.mem_range.1 hj, e⟩)]
          rcases Nat.lt_or_ge j n with hjn | hjn
          · exact hx ⟨j, hjn, e⟩
          · rw [hun j hjn (slot_lt e)] at hj; cases hj
      have ed : a.defers = (putOf ops vals (List.range n) a0).defers := by rw [putOf_defers]; exact h.defers
      cases a
      generalize putOf ops vals (List.range n) a0 = b at *
      cases b
      simp_all
    have hcnt : ops.size - n ≤ fuel := by
      refine Nat.le_trans ?_ hc
      have h1 : (listed.toList.drop n).count false = ops.size - n := by
        rw [List.count_eq_length.2]
        · simp [h.len]
        · intro b hb'
          obtain ⟨i, hi, rfl⟩ := List.mem_iff_getElem.1 hb'
          simp only [List.length_drop, Array.length_toList] at hi
          have := hun (n + i) (by omega) (by rw [← h.len]; omega)
          rw [Array.getElem?_eq_getElem (by omega)] at this
          simpa using (Option.some.inj this).symm
      rw [← h1]
      exact (List.drop_sublist n _).count_le false
    exact wpAny_tail2 hb htl fuel n listed a w (Nat.le_refl _) hnle hcnt h.len hall hun (e ▸ hend vals w (h.inv.1 (hall k0 hk0)) (fun j hj => h.got j (hall j hj)))
  intro fuel
  induction fuel with
  | zero =>
    intro listed vals a w hc hun h
    refine fin 0 listed vals a w hc hun h fun j hj => ?_
    have hjl : j < listed.size := by rw [h.len]; omega
    rw [Array.getElem?_eq_getElem hjl]
    have h0 : listed.toList.count false = 0 := by omega
    have := List.count_eq_zero.1 h0
    cases hv : listed[j] with
    | true => rfl
    | false => exact (this (hv ▸ (by simp))).elim
  | succ fuel ih =>
    intro listed vals a w hc hun h
    by_cases hall : ∀ j : Nat, j < n → listed[j]? = some true
    · exact fin _ listed vals a w hc hun h hall
    refine ⟨fun hr => (hall fun j hj => ready_least rfl hb h.len hr j (by omega)).elim, fun k hk => ?_⟩
    obtain ⟨hu, o, ho, hedge⟩ := mem_ready.1 hk
    have hku := unlisted_of_getD hu
    have hklt : k < ops.size := (Array.getElem?_eq_some_iff.1 ho).1
    have hkn : k < n := by
      rcases Nat.lt_or_ge k n with hx | hx
      · exact hx
      · exact (hall fun j hj => by
          obtain ⟨e, he, hbd, hon⟩ := ahead_of_edge ((tail_ahead2 htl ho hx).1 j hj)
          exact hon ▸ listed_of_getD (hedge e he hbd)).elim
    have hah : ∀ i ∈ ahead o, listed[i]? = some true := by
      intro i hi
      obtain ⟨e, he, rfl⟩ := List.mem_map.1 hi
      obtain ⟨h1, h2⟩ := List.mem_filter.1 he
      exact listed_of_getD (hedge e (by simpa using h1) h2)
    have hlk := List.all_eq_true.1 hlo k (List.mem_range.2 hklt)
    simp only [ho, Bool.and_eq_true] at hlk
    obtain ⟨⟨hsel, hpre⟩, hlk⟩ := hlk
    have hpre' : ∀ i ∈ L.getD k [], i ∈ ahead o := fun i hi => by simpa using List.all_eq_true.1 hpre i hi
    have hsame : ∀ t ∈ o.looksAt ops, a.tmps[t]? = (putOf ops vals (L.getD k []) a0).tmps[t]? := by
      intro t ht
      have h1 := List.all_eq_true.1 hlk t ht
      by_cases hx : ∃ j : Nat, listed[j]? = some true ∧ slot ops j = some t
      · obtain ⟨j, hj, hjt⟩ := hx
        have hjlt : j < ops.size := by rw [← h.len]; exact (Array.getElem?_eq_some_iff.1 hj).1
        have h2 := List.all_eq_true.1 h1 j (List.mem_range.2 hjlt)
        have hoj : ops[j]? = some ops[j] := Array.getElem?_eq_getElem hjlt
        simp only [hoj, Bool.or_eq_true, bne_iff_ne, ne_eq, List.contains_eq_mem, decide_eq_true_eq] at h2
        have hjin : j ∈ L.getD k [] := by
          rcases h2 with (h2 | h2) | h2
          · exact (h2 hjt).elim
          · exact h2
          · have := h.closed j _ hoj hj k h2
            rw [hku] at this; cases this
        rw [h.new j t hj hjt, putOf_mem hap vals _ _ j t hjin hjt (hsz j t hjt)]
      · rw [h.old t (fun j hj e => hx ⟨j, hj, e⟩), putOf_other ops vals _ _ t (fun j hj e => hx ⟨j, hah j (hpre' j hj), e⟩)]
    have hk0l : k0 < listed.size := by rw [h.len]; omega
    have hsd := Array.getElem?_eq_getElem hk0l
    have hJ : J w := by
      cases hv : listed[k0] with
      | true => rw [hv] at hsd; exact hJ1 _ _ (h.inv.1 hsd)
      | false => rw [hv] at hsd; exact hJ0 _ (h.inv.2 hsd)
    have hph : k = k0 ∨ PL.getD k false = true ∨ listed[k0]? = some false := by
      by_cases e : k = k0
      · exact .inl e
      · have hok0 : ops[k0]? = some ops[k0] := Array.getElem?_eq_getElem (by omega)
        rcases hPL _ k hok0 hkn e with hp | hp
        · exact .inr (.inl hp)
        · refine .inr (.inr ?_)
          cases hv : listed[k0] with
          | false => rw [hsd, hv]
          | true =>
            rw [hv] at hsd
            have := closedB h.closed 12 k0 k hp hsd
            rw [hku] at this; cases this
    have hd := hop k o hkn ho vals w (by
      unfold Inw
      by_cases e : k = k0
      · rw [if_pos e]; subst e; exact h.inv.2 hku
      · rw [if_neg e]
        split
        · exact hJ
        · rename_i hnp
          rcases hph with hp | hp | hp
          · exact (e hp).elim
          · exact (hnp hp).elim
          · exact h.inv.2 hp) (fun j hj => h.got j (hah j (hpre' j hj)))
    have hdst : slot ops k = o.dst := by unfold slot; rw [ho]; rfl
    refine wpOp_mono ?_ (wpOp_of_list (Q := Q) (a := a) ho ?_ ?_ (exec_congr (fun cs c e => ?_) hsame) (wanted_congr hsame) hd)
    · rintro a' w' ⟨v, rfl, hO, hR⟩
      have hSw : S w w' := by
        unfold Outw at hO
        split at hO
        · exact hO.2
        · split at hO
          · rw [hO]; exact hS0 w
          · exact hO.2
      refine ih (listed.setIfInBounds k true) (upd vals k (if o.dst.isSome then v else undef)) _ w' (by have := count_set hku; omega) (fun j hj hjs => by rw [set_get hku, if_neg (by omega)]; exact hun j hj hjs) ?_
      refine ⟨?_, ?_, ?_, ?_, ?_, ?_, ?_, ?_⟩
      · by_cases e : k = k0
        · subst e
          unfold Outw at hO
          rw [if_pos rfl] at hO
          refine ⟨fun _ => ?_, fun hf => ?_⟩
          · rw [upd_same]; exact hO.1
          · rw [set_get hku, if_pos rfl] at hf; cases hf
        · unfold Outw at hO
          rw [if_neg e] at hO
          have e2 : k0 ≠ k := fun h => e h.symm
          refine ⟨fun ht => ?_, fun hf => ?_⟩
          · rw [set_get hku, if_neg e2] at ht
            rw [upd_other e2]
            split at hO
            · rw [hO]; exact h.inv.1 ht
            · rename_i hnp
              rcases hph with hp | hp | hp
              · exact (e hp).elim
              · exact (hnp hp).elim
              · rw [ht] at hp; cases hp
          · rw [set_get hku, if_neg e2] at hf
            split at hO
            · rw [hO]; exact h.inv.2 hf
            · exact hO.1
      · rw [Array.size_setIfInBounds]; exact h.len
      · rw [← h.defers]; cases o.dst <;> rfl
      · rw [← h.size]; cases o.dst <;> simp [Act.put]
      · intro j oj hoj hj i hi
        rw [set_get hku] at hj ⊢
        by_cases ei : i = k
        · rw [if_pos ei]
        · rw [if_neg ei]
          by_cases ej : j = k
          · subst ej
            rw [ho] at hoj; cases hoj
            exact hah i hi
          · rw [if_neg ej] at hj
            exact h.closed j oj hoj hj i hi
      · intro t ht
        have hne : o.dst ≠ some t := by rw [← hdst]; exact ht k (by rw [set_get hku, if_pos rfl])
        rw [put_get_ne hne]
        refine h.old t fun j hj => ht j ?_
        rw [set_get hku]; split <;> first | rfl | exact hj
      · intro j t hj hjt
        rw [set_get hku] at hj
        by_cases ej : j = k
        · subst ej
          rw [hdst] at hjt
          rw [hjt, put_get_eq (by rw [h.size]; exact hsz j t (by rw [hdst]; exact hjt)), upd_same]
          simp
        · rw [if_neg ej] at hj
          rw [upd_other ej]
          have hne : o.dst ≠ some t := by
            intro e
            exact ej (apart_inj hap hjt (by rw [hdst]; exact e))
          rw [put_get_ne hne]
          exact h.new j t hj hjt
      · intro j hj
        rw [set_get hku] at hj
        by_cases ej : j = k
        · subst ej
          exact hR
        · rw [if_neg ej] at hj
          have hjlt : j < ops.size := by rw [← h.len]; exact (Array.getElem?_eq_some_iff.1 hj).1
          have hoj : ops[j]? = some ops[j] := Array.getElem?_eq_getElem hjlt
          have hlj := List.all_eq_true.1 hlo j (List.mem_range.2 hjlt)
          simp only [hoj, Bool.and_eq_true] at hlj
          refine hC j vals _ w' (fun i hi => ?_) (hS j _ w w' hSw (h.got j hj))
          have hik : i ≠ k := by
            rcases hi with rfl | hi
            · exact ej
            · intro e
              have h1 : i ∈ ahead ops[j] := by simpa using List.all_eq_true.1 hlj.1.2 i hi
              have h2 := h.closed j _ hoj hj i h1
              rw [e, hku] at h2; cases h2
          rw [upd_other hik]
    · intro hnone v u w'
      unfold resg
      rw [hnone]
      exact id
    · intro t ht
      rw [putOf_size]
      exact hsz k t (by rw [hdst]; exact ht)
    · rw [e] at hsel; cases hsel
/-- the checks -/
def regOk2 (ops : Array Oper) (D : List (Option Tmp)) (L : List (List Nat)) (n N : Nat) : Bool := decide (n ≤ ops.size) && tailOk2 ops n && backOk ops && apartB ops && looksOk ops L &&
  ((List.range ops.size).all fun j => match slot ops j with | some t => decide (t < N) | none => true) && ((List.range ops.size).all fun j => slot ops j == D.getD j none) &&
  (List.range ops.size).all fun k => match (ops[k]?).bind (·.guard) with | none => true | some (g, _) => (L.getD k []).contains g && (D.getD g none).isSome
theorem region_anyv {id : Nat} {l : List Oper} {a0 : Act} {w0 : World} (n : Nat) (D : List (Option Tmp)) (L : List (List Nat)) (I0 : World → Prop) (I1 : Value → World → Prop) (J : World → Prop) (k0 : Nat) (PL : List Bool) (S : World → World → Prop) (R : Nat → (Nat → Value) → World → Prop) (hm : P.follows .mixedOrders = true)
    (hok : regOk2 l.toArray D L n a0.tmps.size = true) (h0 : I0 w0.drew) (hk0 : k0 < n) (hPL : (List.range n).all (fun k => k == k0 || PL.getD k false || aheadB l.toArray 12 k0 k) = true) (hJ0 : ∀ w, I0 w → J w) (hJ1 : ∀ u w, I1 u w → J w) (hS0 : ∀ w, S w w)
    (hS : ∀ j v w w', S w w' → R j v w → R j v w') (hC : ∀ j v v' w, (∀ i, i = j ∨ i ∈ L.getD j [] → v i = v' i) → R j v w → R j v' w)
    (hop : OwesAllw P D L I0 I1 J k0 PL S R a0 0 n l)
    (hend : ∀ (vals : Nat → Value) (w : World), I1 (vals k0) w → (∀ j : Nat, j < n → R j vals w) → wpList P l.toArray Q (l.drop n) (putD D vals (List.range n) a0) w) :
    (Code.region id l.toArray true).wp P Q a0 w0 := by
  simp only [regOk2, Bool.and_eq_true] at hok
  obtain ⟨⟨⟨⟨⟨⟨⟨hnle, htl⟩, hb⟩, hap⟩, hlo⟩, hsz⟩, hD⟩, hgd⟩ := hok
  have hnle' := of_decide_eq_true hnle
  have slot_lt : ∀ {j t : Nat}, slot l.toArray j = some t → j < l.toArray.size := by
    intro j t hj
    unfold slot at hj
    cases hk : l.toArray[j]? with
    | none => rw [hk] at hj; cases hj
    | some o => exact (Array.getElem?_eq_some_iff.1 hk).1
  have hsz' : ∀ j t, slot l.toArray j = some t → t < a0.tmps.size := by
    intro j t hj
    have h1 := List.all_eq_true.1 hsz j (List.mem_range.2 (slot_lt hj))
    simp only [hj] at h1
    exact of_decide_eq_true h1
  have hD' : ∀ j, j < l.toArray.size → slot l.toArray j = D.getD j none := fun j hj => by simpa using List.all_eq_true.1 hD j (List.mem_range.2 hj)
  refine wp_region_any hm ?_
  refine wpAny_heldv hb hap hlo hnle' htl (I0 := I0) (I1 := I1) (J := J) (k0 := k0) (PL := PL) (S := S) (R := R) (a0 := a0) hsz' hS hC hk0 (fun o k ho hk hne => ?_) hJ0 hJ1 hS0 (fun k o hk ho => ?_) (fun vals w hI hR => ?_) _ _ (fun _ => undef) a0 _ ?_ ?_ ?_
  · have h1 := List.all_eq_true.1 hPL k (List.mem_range.2 hk)
    simp only [Bool.or_eq_true, beq_iff_eq] at h1
    rcases h1 with (h1 | h1) | h1
    · exact (hne h1).elim
    · exact .inl h1
    · exact .inr h1
  · have hklt : k < l.toArray.size := (Array.getElem?_eq_some_iff.1 ho).1
    have h1 := owes_of_allw l 0 n hop k o hk (by simpa using ho)
    rw [Nat.zero_add] at h1
    have hlk := List.all_eq_true.1 hlo k (List.mem_range.2 hklt)
    simp only [ho, Bool.and_eq_true] at hlk
    refine does_of_owesw hD' (fun j hj => ?_) hap hsz' (fun g want hg => ?_) h1
    · have h2 : j ∈ ahead o := by simpa using List.all_eq_true.1 hlk.1.2 j hj
      have h3 := List.all_eq_true.1 hb k (List.mem_range.2 hklt)
      simp only [ho] at h3
      have := of_decide_eq_true (List.all_eq_true.1 h3 j h2)
      omega
    · have h2 := List.all_eq_true.1 hgd k (List.mem_range.2 hklt)
      simp only [ho, Option.bind_some, hg, Bool.and_eq_true] at h2
      have hgl : g ∈ L.getD k [] := by simpa using h2.1
      refine ⟨hgl, ?_⟩
      have h4 : g ∈ ahead o := by simpa using List.all_eq_true.1 hlk.1.2 g hgl
      have h3 := List.all_eq_true.1 hb k (List.mem_range.2 hklt)
      simp only [ho] at h3
      have := of_decide_eq_true (List.all_eq_true.1 h3 g h4)
      rw [hD' g (by omega)]; exact h2.2
  · rw [putD_eq hD' vals _ _ (fun j hj => by have := List.mem_range.1 hj; omega)]
    exact hend vals w hI hR
  · simp
  · intro j _ hj
    rw [Array.getElem?_replicate, if_pos hj]
  · refine ⟨⟨fun hf => ?_, fun _ => h0⟩, by simp, rfl, rfl, ?_, fun _ _ => rfl, ?_, ?_⟩
    · rw [Array.getElem?_replicate] at hf
      split at hf <;> simp at hf
    · intro j o _ hj
      rw [Array.getElem?_replicate] at hj
      split at hj <;> simp at hj
    · intro j t hj
      rw [Array.getElem?_replicate] at hj
      split at hj <;> simp at hj
    · intro j hj
      rw [Array.getElem?_replicate] at hj
      split at hj <;> simp at hj
/-- A REGION THAT DRAWS ITS ORDER, in which operation k0 alone writes what others may see. I0: what holds ahead of it; I1: behind it, of its result; J: throughout. -/
theorem region_v {id : Nat} {l : List Oper} {a0 : Act} {w0 : World} (n N : Nat) (D : List (Option Tmp)) (L : List (List Nat)) (LV : List (Nat × Value)) (k0 : Nat) (PL : List Bool) (I0 : World → Prop) (I1 : Value → World → Prop) (J : World → Prop) (S : World → World → Prop) (RL : List ((Nat → Value) → World → Prop)) (hm : P.follows .mixedOrders = true)
    (hok : regOk2 l.toArray D L n N = true) (hN : a0.tmps.size = N) (hLV : Lives a0 LV) (h0 : I0 w0.drew) (hk0 : k0 < n)
    (hPL : (List.range n).all (fun k => k == k0 || PL.getD k false || aheadB l.toArray 12 k0 k) = true) (hJ0 : ∀ w, I0 w → J w) (hJ1 : ∀ u w, I1 u w → J w) (hS0 : ∀ w, S w w) (hS : Stabg S RL)
    (hop : ∀ b0 : Act, b0.tmps.size = N → Lives b0 LV → OwesAllw P D L I0 I1 J k0 PL S (atg L RL) b0 0 n l)
    (hend : ∀ (vals : Nat → Value) (w : World), I1 (vals k0) w → (∀ j : Nat, j < n → atg L RL j vals w) → wpList P l.toArray Q (l.drop n) (putD D vals (List.range n) a0) w) :
    (Code.region id l.toArray true).wp P Q a0 w0 := by
  refine region_anyv n D L I0 I1 J k0 PL S (atg L RL) hm (hN ▸ hok) h0 hk0 hPL hJ0 hJ1 hS0 (fun j v w w' hs h => hS.get j _ w w' hs h) (fun j v v' w hv h => ?_) (hop a0 hN hLV) hend
  unfold atg at *
  have e : rs L j v = rs L j v' := by
    funext i
    unfold rs
    split
    · rename_i hi
      exact hv i (by simpa using hi)
    · rfl
  rw [← e]; exact h
end Go.Proofs.Ytfgmhidgkemfoaa.Roll
namespace Go.Proofs.Ytfgmhidgkemfoaa
open Go.RowKit
set_option linter.unusedSimpArgs false
set_option linter.unusedVariables false
theorem range_below {w p : World} {b off : Nat} {xs : List Value} (h : w.rangeAt b off xs) (hx : 0 < xs.length) (hb : Below w.heap.size w p) : p.rangeAt b off xs := fun j v hv => (hb.cell (p := ⟨b, off + j, none⟩) (range_lt h hx)).trans (h j v hv)
theorem range_kept {S : Nat → Prop} {w p : World} {b off : Nat} {xs : List Value} (h : w.rangeAt b off xs) (hx : 0 < xs.length) (hb : Kept S w p) (hs : ¬ S b) : p.rangeAt b off xs := fun j v hv => (hb.cell (p := ⟨b, off + j, none⟩) (range_lt h hx) hs).trans (h j v hv)
theorem pcells_app (a b : List KV) : pcells (a ++ b) = pcells a ++ pcells b := by unfold pcells; rw [List.flatMap_append]
theorem pcells_cons (q : KV) (b : List KV) : pcells (q :: b) = q.cells ++ pcells b := by unfold pcells; rw [List.flatMap_cons]
theorem pcells_take (ps : List KV) (i : Nat) (hi : i ≤ ps.length) : pcells (ps.take i) = (pcells ps).take (i * 2) := by
  have h := congrArg pcells (List.take_append_drop i ps)
  rw [pcells_app] at h
  rw [← h]
  have hl : (pcells (ps.take i)).length = i * 2 := by rw [pcells_len, List.length_take]; omega
  rw [← hl, List.take_left]
theorem pcells_drop (ps : List KV) (i : Nat) (hi : i ≤ ps.length) : pcells (ps.drop i) = (pcells ps).drop (i * 2) := by
  have h := congrArg pcells (List.take_append_drop i ps)
  rw [pcells_app] at h
  rw [← h]
  have hl : (pcells (ps.take i)).length = i * 2 := by rw [pcells_len, List.length_take]; omega
  rw [← hl, List.drop_left]
theorem pcells_ins (ps : List KV) (i : Nat) (hi : i ≤ ps.length) (q : KV) : pcells (ps.take i ++ q :: ps.drop i) = insC (pcells ps) q.cells (i * 2) := by
  rw [pcells_app, pcells_cons, pcells_take ps i hi, pcells_drop ps i hi]
  rfl
theorem pcells_del (ps : List KV) (i : Nat) (hi : i < ps.length) : pcells (ps.take i ++ ps.drop (i + 1)) = delC (pcells ps) (i * 2) 2 := by
  rw [pcells_app, pcells_take ps i (by omega), pcells_drop ps (i + 1) (by omega)]
  unfold delC
  rw [show (i + 1) * 2 = i * 2 + 2 by omega]
theorem pnts_ins (ks : List BT) (i : Nat) (k : BT) : pnts ((ks.take i ++ k :: ks.drop i).map BT.g) = insC (pnts (ks.map BT.g)) [.pointer (some ⟨k.g, 0, none⟩)] i := by
  unfold pnts insC
  simp
theorem pnts_del (ks : List BT) (i : Nat) : pnts ((ks.take i ++ ks.drop (i + 1)).map BT.g) = delC (pnts (ks.map BT.g)) i 1 := by
  unfold pnts delC
  simp
theorem pnts_len2 (ks : List BT) : (pnts (ks.map BT.g)).length = ks.length := by simp [pnts]
section
variable {D : Nat → Prop} {w0 w : World} {g : Nat} {kp kk : Option Nat} {vp vk : Value} {ps : List KV} {ks xs : List BT}
/-- another row of children, among those that are known or are new -/
theorem ONx.newK2 {w2 : World} {kk2 : Option Nat} {vk2 : Value} {ks2 : List BT} (h : ONx D w0 w g kp kk vp vk ps ks xs) (ho : Own w2 85 1 kk2 vk2 ks2.length (pnts (ks2.map BT.g))) (hr : RowTo w w2 kk kk2) (hm : ∀ k ∈ ks2, k ∈ ks ++ xs ∨ NdD (fun b => (Off D w0.heap.size g kp kk b ∨ w.heap.size ≤ b) ∧ kk2 ≠ some b) w2 k) : ONx D w0 (w2.setCell ⟨g, 1, none⟩ vk2) g kp kk2 vp vk2 ps ks2 xs := by
  obtain ⟨hn, hk⟩ := hr
  have hg : w2.heap[g]? = some (.cells #[vp, vk] 94 (0, 0)) := hk.heap h.blk h.d2
  have hgl : g < w.heap.size := h.lt
  have hgk : kk2 ≠ some g := fun e => by
    rcases hn g e with e2 | e2
    · exact h.d2 e2
    · omega
  have K2 : Kept (fun j => j = g) w2 (w2.setCell ⟨g, 1, none⟩ vk2) := (Kept.refl (fun j => j = g) w2).setCell (p := ⟨g, 1, none⟩) (fun _ => rfl) _
  have d3' : ∀ j, kp = some j → kk2 ≠ some j := fun j e2 e => by
    rcases hn j e with e3 | e3
    · exact h.d3 j e2 e3
    · have := h.hp.lt j e2; omega
  refine ⟨?_, (h.hp.kept hk (fun j e e2 => h.d3 j e e2)).kept K2 (fun j e e2 => h.d1 (e2 ▸ e)), ho.kept K2 (fun j e e2 => hgk (e2 ▸ e)), h.d1, hgk, d3', h.n0, h.n1, fun j e => ?_, fun k hkk => ?_, ?_⟩
  · rw [heap_setCell_same w2 g 1 _ _ _ hg]; rfl
  · rcases hn j e with e3 | e3
    · exact h.n2 j e3
    · have := h.below.size; omega
  · have key : k ∈ ks ++ xs ∨ NdD (fun b => (Off D w0.heap.size g kp kk b ∨ w.heap.size ≤ b) ∧ kk2 ≠ some b) w2 k := by
      rcases List.mem_append.1 hkk with h1 | h1
      · exact hm k h1
      · exact .inl (List.mem_append.2 (.inr h1))
    rcases key with hkk | hnd
    · have h1 := ((h.kids k hkk).in).kept hk (fun b _ hb e => hb.1.2.2.2 e)
      have h2 := h1.kept K2 (fun b _ hb e => hb.1.2.1 e)
      refine h2.dom (fun b hb => ⟨hb.1.1, hb.1.2.1, hb.1.2.2.1, fun e => ?_⟩)
      rcases hn b e with e3 | e3
      · exact hb.1.2.2.2 e3
      · have := hb.2; omega
    · refine (hnd.kept K2 (fun b _ hb e => ?_)).dom (fun b hb => ?_)
      · rcases hb.1 with h1 | h1
        · exact h1.2.1 e
        · omega
      · rcases hb.1 with h1 | h1
        · exact ⟨h1.1, h1.2.1, h1.2.2.1, hb.2⟩
        · have := h.below.size
          exact ⟨.inr (by omega), by omega, fun e => by have := h.hp.lt b e; omega, hb.2⟩
  · exact (h.below.trans (hk.below h.below.size (fun j hj e => by have := h.n2 j e; omega))).trans (K2.below (Nat.le_trans h.below.size hk.size) (fun j hj e => by have := h.n0; omega))
theorem ONx.newP2 {w2 : World} {kp2 : Option Nat} {vp2 : Value} {ps2 : List KV} (h : ONx D w0 w g kp kk vp vk ps ks xs) (ho : Own w2 65 2 kp2 vp2 ps2.length (pcells ps2)) (hr : RowTo w w2 kp kp2) : ONx D w0 (w2.setCell ⟨g, 0, none⟩ vp2) g kp2 kk vp2 vk ps2 ks xs := h.newP ho hr.1 hr.2
/-- cells that are read -/
theorem ONx.facts (h : ONx D w0 w g kp kk vp vk ps ks xs) : g < w.heap.size ∧ w.cell? ⟨g, 0, none⟩ = some vp ∧ w.cell? ⟨g, 1, none⟩ = some vk ∧ w.frozen? ⟨g, 0, none⟩ = false ∧ w.frozen? ⟨g, 1, none⟩ = false :=
  ⟨h.lt, cell_of_row w g 0 _ _ _ h.blk, cell_of_row w g 1 _ _ _ h.blk, frozen_of_row w g 0 _ _ h.blk, frozen_of_row w g 1 _ _ h.blk⟩
/-- a row of children that has some -/
theorem ONx.kidAt (h : ONx D w0 w g kp kk vp vk ps ks xs) (hks : 0 < ks.length) : ∃ jk c, kk = some jk ∧ vk = .slice (some ⟨jk, 0, none⟩) ks.length c ∧ ks.length ≤ c ∧ c ≤ maxLen ∧ jk < w.heap.size ∧ ∀ i (hi : i < ks.length), w.cell? ⟨jk, i, none⟩ = some (.pointer (some ⟨ks[i].g, 0, none⟩)) ∧ w.frozen? ⟨jk, i, none⟩ = false := by
  rcases h.hk.2 with ⟨-, -, e⟩ | ⟨jk, c, cur, rfl, rfl, hg, hn, hm, hs, ht⟩
  · omega
  · refine ⟨jk, c, rfl, rfl, hn, hm, (Array.getElem?_eq_some_iff.1 hg).1, fun i hi => ⟨?_, frozen_of_row w jk i _ _ hg⟩⟩
    rw [cell_of_row w jk i _ _ _ hg]
    have h1 : (pnts (ks.map BT.g))[i]? = some (.pointer (some ⟨ks[i].g, 0, none⟩)) := by simp [pnts, hi]
    rw [← ht, List.getElem?_take] at h1
    split at h1
    · simpa using h1
    · cases h1
/-- a row of pairs that has some -/
theorem ONx.pairAt (h : ONx D w0 w g kp kk vp vk ps ks xs) (hps : 0 < ps.length) : ∃ jp c, kp = some jp ∧ vp = .slice (some ⟨jp, 0, none⟩) ps.length c ∧ ps.length ≤ c ∧ c ≤ maxLen ∧ jp < w.heap.size := by
  rcases h.hp.2 with ⟨-, -, e⟩ | ⟨jp, c, cur, rfl, rfl, hg, hn, hm, hs, ht⟩
  · omega
  · exact ⟨jp, c, rfl, rfl, hn, hm, (Array.getElem?_eq_some_iff.1 hg).1⟩
end
theorem run_bs1P (k v : ByteArray) (W : World) : (Instr.buildSlice 26 1 #[(0, .agg #[.string k, .string v])]).run Try.prog W = .ok (.slice (some ⟨W.heap.size, 0, none⟩) 1 1) (W.alloc (.cells #[.string k, .string v] 65)) := by kernel_rfl
theorem run_bs1N (c : Nat) (W : World) : (Instr.buildSlice 92 1 #[(0, .pointer (some ⟨c, 0, none⟩))]).run Try.prog W = .ok (.slice (some ⟨W.heap.size, 0, none⟩) 1 1) (W.alloc (.cells #[.pointer (some ⟨c, 0, none⟩)] 85)) := by kernel_rfl
end Go.Proofs.Ytfgmhidgkemfoaa
namespace Go.Proofs.Ytfgmhidgkemfoaa
open Go.RowKit
set_option linter.unusedSimpArgs false
set_option linter.unusedVariables false
attribute [local go_sem ↓] exec_loadPair exec_at_zeroP exec_at_succP Go.wp_at_zero Go.wp_at_succ
def Dsp2 : List (Option Tmp) := [some 19, some 20, some 21, some 22, some 23, some 24, some 25, some 26, some 27, some 28, some 29, some 30, some 31, some 32, some 33, some 34, some 35, none]
def Lsp2 : List (List Nat) := [[], [], [1], [2], [3], [], [], [6], [7], [8], [], [9, 10], [11], [12], [4, 5, 13], [0], [15], [16, 14]]
def Dsp3 : List (Option Tmp) := [some 36, some 37, some 38, some 39, some 40, some 41, some 42, some 43, some 44, none]
def Lsp3 : List (List Nat) := [[], [0], [1], [2], [], [], [], [5, 6], [3, 4], [8, 7]]
def Dsp4 : List (Option Tmp) := [some 45, some 46, some 47, some 48, some 49, some 50, some 51, some 52, some 53, some 54, some 55, some 56, some 57, some 58, some 59, some 60, some 61, some 62, some 63, some 64, none]
def Lsp4 : List (List Nat) := [[], [], [1], [2], [3], [], [5], [], [], [8], [], [10], [11], [12], [13], [7, 9, 14], [15], [4, 6, 16], [0], [18], [19, 17]]
set_option maxRecDepth 100000 in
set_option maxHeartbeats 4000000 in
theorem split_any {D : Nat → Prop} {w0 w : World} {g : Nat} {ps : List KV} {ks xs : List BT} (h : ON D w0 w g ps ks xs) (i : Nat) (hi : i < ks.length) (hl : ks.length = ps.length + 1) (hn : ps.length ≤ 900) (hkl : ks[i].ks = [] ∨ ks[i].ks.length = ks[i].ps.length + 1) (h3 : 3 ≤ ks[i].ps.length) (h9 : ks[i].ps.length ≤ 900) :
    Calls Try.prog 51 #[.pointer (some ⟨g, 0, none⟩), .int .i64 (i : Int)] w fun e w' => e = .returned (.tuple #[]) ∧ ∃ L R, ON D w0 w' g (ps.take i ++ ks[i].ps[ks[i].ps.length / 2]'(by omega) :: ps.drop i) (ks.take i ++ L :: R :: ks.drop (i + 1)) xs ∧ L.ps = ks[i].ps.take (ks[i].ps.length / 2) ∧ L.ks = ks[i].ks.take (ks[i].ps.length / 2 + 1) ∧ R.ps = ks[i].ps.drop (ks[i].ps.length / 2 + 1) ∧ R.ks = ks[i].ks.drop (ks[i].ps.length / 2 + 1) := by
  obtain ⟨kp, kk, vp, vk, hon⟩ := h
  obtain ⟨T, hT⟩ : ∃ T, T = ks[i] := ⟨_, rfl⟩
  have hTm : T ∈ ks := by rw [hT]; exact List.getElem_mem hi
  obtain ⟨m, hm⟩ : ∃ m, m = T.ps.length / 2 := ⟨_, rfl⟩
  simp only [← hT] at hkl h3 h9 ⊢
  simp only [← hm]
  have hm1 : m < T.ps.length := by omega
  obtain ⟨M, hM⟩ : ∃ M, M = T.ps[m]'hm1 := ⟨_, rfl⟩
  rw [← hM]
  obtain ⟨mk, mv⟩ := M
  obtain ⟨jk, kc, rfl, rfl, hkc, hkm, hjl, hcell⟩ := hon.kidAt (by omega)
  obtain ⟨av, cv, rfl, -⟩ := id hon.hp.sl
  have hTD := hon.kids T (List.mem_append.2 (.inl hTm))
  obtain ⟨aT, nT, cT, bT, mT, eT, htD, htb, ct0, -, htp, -, -⟩ := hTD.facts
  have htl : T.g < w.heap.size := (Array.getElem?_eq_some_iff.1 htb).1
  have hnT := htp.1
  have hncT : nT ≤ cT := htp.2.2.1
  have hcmT : cT ≤ 9223372036854775807 := htp.2.2.2.1
  obtain ⟨bt, ot, hbD, hbt, rfl, hpc⟩ := htp.at (by omega)
  have hrm := hpc m hm1
  rw [← hM] at hrm
  obtain ⟨om, hom⟩ : ∃ om, om = ot + m * 2 := ⟨_, rfl⟩
  rw [← hom] at hrm
  have hom2 : ot + m * 2 = om := hom.symm
  obtain ⟨hgl, c0, c1, -, -⟩ := hon.facts
  obtain ⟨ci, -⟩ := hcell i hi
  rw [← hT] at ci
  obtain ⟨tg, htg⟩ : ∃ tg, tg = T.g := ⟨_, rfl⟩
  rw [← htg] at ci htl ct0
  have hkc2 : kc ≤ 9223372036854775807 := hkm
  obtain ⟨kn, hkn⟩ : ∃ kn, kn = ks.length := ⟨_, rfl⟩
  obtain ⟨nv, hnv⟩ : ∃ nv, nv = ps.length := ⟨_, rfl⟩
  simp only [← hkn] at hon hcell c1 hkc
  simp only [← hnv] at hon c0
  have HON := Lib.hid hon
  have HTM := Lib.hid hTm
  have HTG := Lib.hid htg
  have NTG : Hid (¬ tg = g) := Lib.hid (by rw [htg]; exact htD.2.1)
  have NTJ : Hid (¬ tg = jk) := Lib.hid (fun e => htD.2.2.2 (by rw [← htg, e]))
  have NDG : Hid (¬ some jk = some g) := Lib.hid hon.d2
  have NDT : Hid (¬ some jk = some tg) := Lib.hid (by rw [htg]; exact htD.2.2.2)
  have HKB : Hid (kn ≤ 1000) := Lib.hid (by omega)
  have ND1 : Hid (¬ kp = some g) := Lib.hid hon.d1
  have ND2 : Hid (¬ kp = some tg) := Lib.hid (by rw [htg]; exact htD.2.2.1)
  have ND3 : Hid (¬ kp = some bt) := Lib.hid hbD.2.2.1
  have HOP : Hid (Own w 65 2 kp (.slice av nv cv) nv (pcells ps)) := Lib.hid (by have := hon.hp; rwa [← hnv] at this)
  have HRM : Hid (w.rangeAt bt om (KV.mk mk mv).cells) := Lib.hid hrm
  have HGL := Lib.hid hgl
  have HTL := Lib.hid htl
  have C0 := Lib.hid c0
  have C1 := Lib.hid c1
  have CT := Lib.hid ct0
  have HIN : Hid (i ≤ nv) := Lib.hid (by omega)
  have HNB : Hid (nv ≤ 1000) := Lib.hid (by omega)
  have HNV := Lib.hid hnv
  have HKN := Lib.hid hkn
  have HKL := Lib.hid hkl
  have HT := Lib.hid hT
  have HM := Lib.hid hm
  have HNT := Lib.hid hnT
  have H39 : Hid (3 ≤ T.ps.length ∧ T.ps.length ≤ 900) := Lib.hid ⟨h3, h9⟩
  have hik : (i : Int) < (kn : Int) := by omega
  have hmn : (m : Int) < (nT : Int) := by omega
  have hq2 : (nT : Int) / 2 = (m : Int) := by omega
  have hq3 : Int.tdiv (nT : Int) 2 = (m : Int) := by rw [Int.tdiv_eq_ediv_of_nonneg (by omega)]; exact hq2
  have hiw : IntKind.i64.wrap ((i : Int) + 1) = (i : Int) + 1 := i64_id _ (by omega) (by omega)
  have hmw : IntKind.i64.wrap ((m : Int) + 1) = (m : Int) + 1 := i64_id _ (by omega) (by omega)
  have mixed : Try.prog.follows .mixedOrders = true := by kernel_rfl
  clear hon hcell hTD htb htD hbD htp hpc hrm hTm htg hkm hM hnv hkn hkl h3 h9 hT hm hnT hom hm1 hl hn
  go_enter Try.func51, Try.ntmps51
  go_upto_region 2 with fail
  obtain ⟨q, hq⟩ : ∃ q, q = w := ⟨_, rfl⟩
  subst hq
  refine Roll.region_v 15 65 Dsp2 Lsp2 [(0, .pointer (some ⟨g, 0, none⟩)), (1, .int .i64 (i : Int)), (4, .pointer (some ⟨tg, 0, none⟩)), (5, .int .i64 (m : Int))] 14 [true, true, true, true, true, true, true, true, true, true, true, true, true, false, false] (fun p => Below q.heap.size q p) (fun vv p => ∃ k2, Own p 65 2 k2 vv (nv + 1) (insC (pcells ps) [.string mk, .string mv] (i * 2)) ∧ RowTo q p kp k2) (fun p => Kept (fun j => kp = some j) q p) (fun p p2 => Kept (fun j => kp = some j) p p2) [fun vv p => (vv 0) = .pointer (some ⟨g, 0, none⟩), fun vv p => (vv 1) = .pointer (some ⟨g, 0, none⟩), fun vv p => (vv 2) = .pointer (some ⟨g, 0, none⟩), fun vv p => (vv 3) = .pointer (some ⟨g, 0, none⟩), fun vv p => (vv 4) = .slice av nv cv, fun vv p => (vv 5) = .int .i64 (i : Int), fun vv p => (vv 6) = .pointer (some ⟨tg, 0, none⟩), fun vv p => (vv 7) = .pointer (some ⟨tg, 0, none⟩), fun vv p => (vv 8) = .pointer (some ⟨tg, 0, none⟩), fun vv p => (vv 9) = .slice (some ⟨bt, ot, none⟩) nT cT, fun vv p => (vv 10) = .int .i64 (m : Int), fun vv p => (vv 11) = .pointer (some ⟨bt, om, none⟩), fun vv p => (vv 12) = .agg #[.string mk, .string mv], fun vv p => ∃ x, (vv 13) = .slice (some ⟨x, 0, none⟩) 1 1 ∧ q.heap.size ≤ x ∧ p.heap[x]? = some (.cells #[.string mk, .string mv] 65 (0, 0)), fun vv p => True] (by kernel_rfl) (by kernel_rfl) rfl ⟨rfl, rfl, rfl, rfl, trivial⟩ ((Below.refl _ _).drew) (by decide) (by kernel_rfl) (fun _ h => Kept.of_below _ h) (fun _ _ h => by obtain ⟨_, _, h⟩ := h; exact h.2) (fun _ => Kept.refl _ _) ?_ ?_ ?_
  · exact ⟨fun _ _ _ _ h => h, fun _ _ _ _ h => h, fun _ _ _ _ h => h, fun _ _ _ _ h => h, fun _ _ _ _ h => h, fun _ _ _ _ h => h, fun _ _ _ _ h => h, fun _ _ _ _ h => h, fun _ _ _ _ h => h, fun _ _ _ _ h => h, fun _ _ _ _ h => h, fun _ _ _ _ h => h, fun _ _ _ _ h => h, fun _ _ _ hs h => by obtain ⟨x, e1, e2, e3⟩ := h; exact ⟨x, e1, e2, hs.heap e3 (fun e => by have := HOP.out.lt _ e; omega)⟩, fun _ _ _ _ h => h, trivial⟩
  · intro b0 hN hlv
    refine ⟨?_, ?_, ?_, ?_, ?_, ?_, ?_, ?_, ?_, ?_, ?_, ?_, ?_, ?_, ?_, trivial⟩
    · intro vs p hI0 hp
      have hI := Roll.inw_pure (by decide) rfl hI0
      clear hI0
      have e0 : (Roll.putD Dsp2 vs [] b0).eval (.tmp 0) = .pointer (some ⟨g, 0, none⟩) := (Roll.eval_old rfl).trans (hlv.at 0 (0, .pointer (some ⟨g, 0, none⟩)) rfl)
      clear hp hlv hN
      unfold Roll.Goes
      simp only [Lsp2, List.getD_cons_zero, List.getD_cons_succ]
      generalize Roll.putD Dsp2 vs [] b0 = a1 at *
      refine Roll.goes_val (w' := p) (.pointer (some ⟨g, 0, none⟩)) rfl ?_ ⟨(Roll.outw_pure (by decide) rfl), rfl⟩
      (have ec : ∀ x, a1.eval (.const x) = x := fun _ => rfl); (have ef : ∀ x, a1.eval (.func x) = .func (.func x) #[] #[] := fun _ => rfl); generalize a1.eval = ρ at *
      skip
      go_simp <;> (intros; first | (exfalso; omega) | rfl)
    · intro vs p hI0 hp
      have hI := Roll.inw_pure (by decide) rfl hI0
      clear hI0
      have e0 : (Roll.putD Dsp2 vs [] b0).eval (.tmp 0) = .pointer (some ⟨g, 0, none⟩) := (Roll.eval_old rfl).trans (hlv.at 0 (0, .pointer (some ⟨g, 0, none⟩)) rfl)
      clear hp hlv hN
      unfold Roll.Goes
      simp only [Lsp2, List.getD_cons_zero, List.getD_cons_succ]
      generalize Roll.putD Dsp2 vs [] b0 = a1 at *
      refine Roll.goes_val (w' := p) (.pointer (some ⟨g, 0, none⟩)) rfl ?_ ⟨(Roll.outw_pure (by decide) rfl), rfl⟩
      (have ec : ∀ x, a1.eval (.const x) = x := fun _ => rfl); (have ef : ∀ x, a1.eval (.func x) = .func (.func x) #[] #[] := fun _ => rfl); generalize a1.eval = ρ at *
      skip
      go_simp <;> (intros; first | (exfalso; omega) | rfl)
    · intro vs p hI0 hp
      have hI := Roll.inw_pure (by decide) rfl hI0
      clear hI0
      have h1 : (vs 1) = .pointer (some ⟨g, 0, none⟩) := hp 1 (by simp [Lsp2])
      have e20 : (Roll.putD Dsp2 vs [1] b0).eval (.tmp 20) = .pointer (some ⟨g, 0, none⟩) := (Roll.eval_new 1 rfl (by decide) (by decide) (by omega)).trans h1
      clear hp hlv hN
      unfold Roll.Goes
      simp only [Lsp2, List.getD_cons_zero, List.getD_cons_succ]
      generalize Roll.putD Dsp2 vs [1] b0 = a1 at *
      refine Roll.goes_val (w' := p) (.pointer (some ⟨g, 0, none⟩)) rfl ?_ ⟨(Roll.outw_pure (by decide) rfl), rfl⟩
      (have ec : ∀ x, a1.eval (.const x) = x := fun _ => rfl); (have ef : ∀ x, a1.eval (.func x) = .func (.func x) #[] #[] := fun _ => rfl); generalize a1.eval = ρ at *
      clear h1
      go_simp <;> (intros; first | (exfalso; omega) | rfl)
    · intro vs p hI0 hp
      have hI := Roll.inw_pure (by decide) rfl hI0
      clear hI0
      have h2 : (vs 2) = .pointer (some ⟨g, 0, none⟩) := hp 2 (by simp [Lsp2])
      have e21 : (Roll.putD Dsp2 vs [2] b0).eval (.tmp 21) = .pointer (some ⟨g, 0, none⟩) := (Roll.eval_new 2 rfl (by decide) (by decide) (by omega)).trans h2
      clear hp hlv hN
      unfold Roll.Goes
      simp only [Lsp2, List.getD_cons_zero, List.getD_cons_succ]
      generalize Roll.putD Dsp2 vs [2] b0 = a1 at *
      refine Roll.goes_val (w' := p) (.pointer (some ⟨g, 0, none⟩)) rfl ?_ ⟨(Roll.outw_pure (by decide) rfl), rfl⟩
      (have ec : ∀ x, a1.eval (.const x) = x := fun _ => rfl); (have ef : ∀ x, a1.eval (.func x) = .func (.func x) #[] #[] := fun _ => rfl); generalize a1.eval = ρ at *
      clear h2
      go_simp <;> (intros; first | (exfalso; omega) | rfl)
    · intro vs p hI0 hp
      have hI := Roll.inw_pure (by decide) rfl hI0
      clear hI0
      have h3 : (vs 3) = .pointer (some ⟨g, 0, none⟩) := hp 3 (by simp [Lsp2])
      have e22 : (Roll.putD Dsp2 vs [3] b0).eval (.tmp 22) = .pointer (some ⟨g, 0, none⟩) := (Roll.eval_new 3 rfl (by decide) (by decide) (by omega)).trans h3
      clear hp hlv hN
      unfold Roll.Goes
      simp only [Lsp2, List.getD_cons_zero, List.getD_cons_succ]
      generalize Roll.putD Dsp2 vs [3] b0 = a1 at *
      have cf : p.cell? ⟨g, 0, none⟩ = some (.slice av nv cv) := (hI.cell (p := ⟨g, 0, none⟩) HGL.out ND1.out).trans C0.out
      refine Roll.goes_val (w' := p) (.slice av nv cv) rfl ?_ ⟨(Roll.outw_pure (by decide) rfl), rfl⟩
      (have ec : ∀ x, a1.eval (.const x) = x := fun _ => rfl); (have ef : ∀ x, a1.eval (.func x) = .func (.func x) #[] #[] := fun _ => rfl); generalize a1.eval = ρ at *
      clear h3
      go_simp <;> (intros; first | (exfalso; omega) | rfl)
    · intro vs p hI0 hp
      have hI := Roll.inw_pure (by decide) rfl hI0
      clear hI0
      have e1 : (Roll.putD Dsp2 vs [] b0).eval (.tmp 1) = .int .i64 (i : Int) := (Roll.eval_old rfl).trans (hlv.at 1 (1, .int .i64 (i : Int)) rfl)
      clear hp hlv hN
      unfold Roll.Goes
      simp only [Lsp2, List.getD_cons_zero, List.getD_cons_succ]
      generalize Roll.putD Dsp2 vs [] b0 = a1 at *
      refine Roll.goes_val (w' := p) (.int .i64 (i : Int)) rfl ?_ ⟨(Roll.outw_pure (by decide) rfl), rfl⟩
      (have ec : ∀ x, a1.eval (.const x) = x := fun _ => rfl); (have ef : ∀ x, a1.eval (.func x) = .func (.func x) #[] #[] := fun _ => rfl); generalize a1.eval = ρ at *
      skip
      go_simp <;> (intros; first | (exfalso; omega) | rfl)
    · intro vs p hI0 hp
      have hI := Roll.inw_pure (by decide) rfl hI0
      clear hI0
      have e4 : (Roll.putD Dsp2 vs [] b0).eval (.tmp 4) = .pointer (some ⟨tg, 0, none⟩) := (Roll.eval_old rfl).trans (hlv.at 2 (4, .pointer (some ⟨tg, 0, none⟩)) rfl)
      clear hp hlv hN
      unfold Roll.Goes
      simp only [Lsp2, List.getD_cons_zero, List.getD_cons_succ]
      generalize Roll.putD Dsp2 vs [] b0 = a1 at *
      refine Roll.goes_val (w' := p) (.pointer (some ⟨tg, 0, none⟩)) rfl ?_ ⟨(Roll.outw_pure (by decide) rfl), rfl⟩
      (have ec : ∀ x, a1.eval (.const x) = x := fun _ => rfl); (have ef : ∀ x, a1.eval (.func x) = .func (.func x) #[] #[] := fun _ => rfl); generalize a1.eval = ρ at *
      skip
      go_simp <;> (intros; first | (exfalso; omega) | rfl)
    · intro vs p hI0 hp
      have hI := Roll.inw_pure (by decide) rfl hI0
      clear hI0
      have h6 : (vs 6) = .pointer (some ⟨tg, 0, none⟩) := hp 6 (by simp [Lsp2])
      have e25 : (Roll.putD Dsp2 vs [6] b0).eval (.tmp 25) = .pointer (some ⟨tg, 0, none⟩) := (Roll.eval_new 6 rfl (by decide) (by decide) (by omega)).trans h6
      clear hp hlv hN
      unfold Roll.Goes
      simp only [Lsp2, List.getD_cons_zero, List.getD_cons_succ]
      generalize Roll.putD Dsp2 vs [6] b0 = a1 at *
      refine Roll.goes_val (w' := p) (.pointer (some ⟨tg, 0, none⟩)) rfl ?_ ⟨(Roll.outw_pure (by decide) rfl), rfl⟩
      (have ec : ∀ x, a1.eval (.const x) = x := fun _ => rfl); (have ef : ∀ x, a1.eval (.func x) = .func (.func x) #[] #[] := fun _ => rfl); generalize a1.eval = ρ at *
      clear h6
      go_simp <;> (intros; first | (exfalso; omega) | rfl)
    · intro vs p hI0 hp
      have hI := Roll.inw_pure (by decide) rfl hI0
      clear hI0
      have h7 : (vs 7) = .pointer (some ⟨tg, 0, none⟩) := hp 7 (by simp [Lsp2])
      have e26 : (Roll.putD Dsp2 vs [7] b0).eval (.tmp 26) = .pointer (some ⟨tg, 0, none⟩) := (Roll.eval_new 7 rfl (by decide) (by decide) (by omega)).trans h7
      clear hp hlv hN
      unfold Roll.Goes
      simp only [Lsp2, List.getD_cons_zero, List.getD_cons_succ]
      generalize Roll.putD Dsp2 vs [7] b0 = a1 at *
      refine Roll.goes_val (w' := p) (.pointer (some ⟨tg, 0, none⟩)) rfl ?_ ⟨(Roll.outw_pure (by decide) rfl), rfl⟩
      (have ec : ∀ x, a1.eval (.const x) = x := fun _ => rfl); (have ef : ∀ x, a1.eval (.func x) = .func (.func x) #[] #[] := fun _ => rfl); generalize a1.eval = ρ at *
      clear h7
      go_simp <;> (intros; first | (exfalso; omega) | rfl)
    · intro vs p hI0 hp
      have hI := Roll.inw_pure (by decide) rfl hI0
      clear hI0
      have h8 : (vs 8) = .pointer (some ⟨tg, 0, none⟩) := hp 8 (by simp [Lsp2])
      have e27 : (Roll.putD Dsp2 vs [8] b0).eval (.tmp 27) = .pointer (some ⟨tg, 0, none⟩) := (Roll.eval_new 8 rfl (by decide) (by decide) (by omega)).trans h8
      clear hp hlv hN
      unfold Roll.Goes
      simp only [Lsp2, List.getD_cons_zero, List.getD_cons_succ]
      generalize Roll.putD Dsp2 vs [8] b0 = a1 at *
      have cf : p.cell? ⟨tg, 0, none⟩ = some (.slice (some ⟨bt, ot, none⟩) nT cT) := (hI.cell (p := ⟨tg, 0, none⟩) HTL.out ND2.out).trans CT.out
      refine Roll.goes_val (w' := p) (.slice (some ⟨bt, ot, none⟩) nT cT) rfl ?_ ⟨(Roll.outw_pure (by decide) rfl), rfl⟩
      (have ec : ∀ x, a1.eval (.const x) = x := fun _ => rfl); (have ef : ∀ x, a1.eval (.func x) = .func (.func x) #[] #[] := fun _ => rfl); generalize a1.eval = ρ at *
      clear h8
      go_simp <;> (intros; first | (exfalso; omega) | rfl)
    · intro vs p hI0 hp
      have hI := Roll.inw_pure (by decide) rfl hI0
      clear hI0
      have e5 : (Roll.putD Dsp2 vs [] b0).eval (.tmp 5) = .int .i64 (m : Int) := (Roll.eval_old rfl).trans (hlv.at 3 (5, .int .i64 (m : Int)) rfl)
      clear hp hlv hN
      unfold Roll.Goes
      simp only [Lsp2, List.getD_cons_zero, List.getD_cons_succ]
      generalize Roll.putD Dsp2 vs [] b0 = a1 at *
      refine Roll.goes_val (w' := p) (.int .i64 (m : Int)) rfl ?_ ⟨(Roll.outw_pure (by decide) rfl), rfl⟩
      (have ec : ∀ x, a1.eval (.const x) = x := fun _ => rfl); (have ef : ∀ x, a1.eval (.func x) = .func (.func x) #[] #[] := fun _ => rfl); generalize a1.eval = ρ at *
      skip
      go_simp <;> (intros; first | (exfalso; omega) | rfl)
    · intro vs p hI0 hp
      have hI := Roll.inw_pure (by decide) rfl hI0
      clear hI0
      have h9 : (vs 9) = .slice (some ⟨bt, ot, none⟩) nT cT := hp 9 (by simp [Lsp2])
      have h10 : (vs 10) = .int .i64 (m : Int) := hp 10 (by simp [Lsp2])
      have e28 : (Roll.putD Dsp2 vs [9, 10] b0).eval (.tmp 28) = .slice (some ⟨bt, ot, none⟩) nT cT := (Roll.eval_new 9 rfl (by decide) (by decide) (by omega)).trans h9
      have e29 : (Roll.putD Dsp2 vs [9, 10] b0).eval (.tmp 29) = .int .i64 (m : Int) := (Roll.eval_new 10 rfl (by decide) (by decide) (by omega)).trans h10
      clear hp hlv hN
      unfold Roll.Goes
      simp only [Lsp2, List.getD_cons_zero, List.getD_cons_succ]
      generalize Roll.putD Dsp2 vs [9, 10] b0 = a1 at *
      refine Roll.goes_val (w' := p) (.pointer (some ⟨bt, om, none⟩)) rfl ?_ ⟨(Roll.outw_pure (by decide) rfl), rfl⟩
      (have ec : ∀ x, a1.eval (.const x) = x := fun _ => rfl); (have ef : ∀ x, a1.eval (.func x) = .func (.func x) #[] #[] := fun _ => rfl); generalize a1.eval = ρ at *
      clear h9 h10
      go_simp <;> (intros; first | (exfalso; omega) | rfl)
    · intro vs p hI0 hp
      have hI := Roll.inw_pure (by decide) rfl hI0
      clear hI0
      have h11 : (vs 11) = .pointer (some ⟨bt, om, none⟩) := hp 11 (by simp [Lsp2])
      have e30 : (Roll.putD Dsp2 vs [11] b0).eval (.tmp 30) = .pointer (some ⟨bt, om, none⟩) := (Roll.eval_new 11 rfl (by decide) (by decide) (by omega)).trans h11
      clear hp hlv hN
      unfold Roll.Goes
      simp only [Lsp2, List.getD_cons_zero, List.getD_cons_succ]
      generalize Roll.putD Dsp2 vs [11] b0 = a1 at *
      have ld0 := run_loadPair (range_kept HRM.out (by simp [KV.cells]) hI ND3.out)
      refine Roll.goes_val (w' := p) (.agg #[.string mk, .string mv]) rfl ?_ ⟨(Roll.outw_pure (by decide) rfl), rfl⟩
      (have ec : ∀ x, a1.eval (.const x) = x := fun _ => rfl); (have ef : ∀ x, a1.eval (.func x) = .func (.func x) #[] #[] := fun _ => rfl); generalize a1.eval = ρ at *
      clear h11
      go_simp <;> (intros; first | (exfalso; omega) | rfl)
    · intro vs p hI0 hp
      have hI := Roll.inw_pre (by decide) rfl hI0
      clear hI0
      have h12 : (vs 12) = .agg #[.string mk, .string mv] := hp 12 (by simp [Lsp2])
      have e31 : (Roll.putD Dsp2 vs [12] b0).eval (.tmp 31) = .agg #[.string mk, .string mv] := (Roll.eval_new 12 rfl (by decide) (by decide) (by omega)).trans h12
      clear hp hlv hN
      unfold Roll.Goes
      simp only [Lsp2, List.getD_cons_zero, List.getD_cons_succ]
      generalize Roll.putD Dsp2 vs [12] b0 = a1 at *
      have hal : Below p.heap.size p (p.alloc (.cells #[.string mk, .string mv] 65)) := (Below.refl _ _).alloc (Nat.le_refl _) _
      refine Roll.goes_val (w' := p.alloc (.cells #[.string mk, .string mv] 65)) (.slice (some ⟨p.heap.size, 0, none⟩) 1 1) rfl (by have ec : ∀ x, a1.eval (.const x) = x := fun _ => rfl; have ef : ∀ x, a1.eval (.func x) = .func (.func x) #[] #[] := fun _ => rfl; have hbs := run_bs1P; generalize a1.eval = ρ at *; go_simp <;> (intros; first | (exfalso; omega) | rfl)) ⟨Roll.outw_pre (by decide) rfl (hI.trans (hal.mono hI.size)) (Kept.of_below _ hal), p.heap.size, rfl, hI.size, heap_new rfl⟩
    · intro vs p hI0 hp
      have hI := Roll.inw_k0 rfl hI0
      clear hI0
      have h4 : (vs 4) = .slice av nv cv := hp 4 (by simp [Lsp2])
      have h5 : (vs 5) = .int .i64 (i : Int) := hp 5 (by simp [Lsp2])
      have h13 : ∃ x, (vs 13) = .slice (some ⟨x, 0, none⟩) 1 1 ∧ q.heap.size ≤ x ∧ p.heap[x]? = some (.cells #[.string mk, .string mv] 65 (0, 0)) := hp 13 (by simp [Lsp2])
      have e23 : (Roll.putD Dsp2 vs [4, 5, 13] b0).eval (.tmp 23) = .slice av nv cv := (Roll.eval_new 4 rfl (by decide) (by decide) (by omega)).trans h4
      have e24 : (Roll.putD Dsp2 vs [4, 5, 13] b0).eval (.tmp 24) = .int .i64 (i : Int) := (Roll.eval_new 5 rfl (by decide) (by decide) (by omega)).trans h5
      have e32 : (Roll.putD Dsp2 vs [4, 5, 13] b0).eval (.tmp 32) = vs 13 := (Roll.eval_new 13 rfl (by decide) (by decide) (by omega))
      clear hp hlv hN
      unfold Roll.Goes
      simp only [Lsp2, List.getD_cons_zero, List.getD_cons_succ]
      generalize Roll.putD Dsp2 vs [4, 5, 13] b0 = a1 at *
      obtain ⟨x, hvx, hxq, hhx⟩ := h13
      rw [hvx] at e32
      refine Roll.goes_call 71 #[.slice av nv cv, .int .i64 (i : Int), .slice (some ⟨x, 0, none⟩) 1 1] p rfl (by have ec : ∀ x, a1.eval (.const x) = x := fun _ => rfl; have ef : ∀ x, a1.eval (.func x) = .func (.func x) #[] #[] := fun _ => rfl; generalize a1.eval = ρ at *; go_simp) ?_
      refine (insertP_any p kp (.slice av nv cv) nv (pcells ps) [.string mk, .string mv] i x 65 (HOP.out.kept (Kept.of_below (fun _ => False) hI) (fun _ _ h => h)) rfl (pcells_one ps) (by simp [Value.oneCell']) HIN.out HNB.out hhx (fun e => by have := HOP.out.lt x e; omega)).mono ?_
      rintro y p2 ⟨k2, v2, rfl, ho, hr⟩
      exact ⟨_, rfl, Roll.outw_k0 rfl ⟨k2, ho, fun j hj => (hr.1 j hj).imp id (fun e => Nat.le_trans hI.size e), (Kept.of_below _ hI).trans hr.2 (fun _ _ h => h)⟩ hr.2, trivial⟩
  · intro vs p hI hR
    have h0 : (vs 0) = .pointer (some ⟨g, 0, none⟩) := hR 0 (by omega)
    have h1 : (vs 1) = .pointer (some ⟨g, 0, none⟩) := hR 1 (by omega)
    have h2 : (vs 2) = .pointer (some ⟨g, 0, none⟩) := hR 2 (by omega)
    have h3 : (vs 3) = .pointer (some ⟨g, 0, none⟩) := hR 3 (by omega)
    have h4 : (vs 4) = .slice av nv cv := hR 4 (by omega)
    have h5 : (vs 5) = .int .i64 (i : Int) := hR 5 (by omega)
    have h6 : (vs 6) = .pointer (some ⟨tg, 0, none⟩) := hR 6 (by omega)
    have h7 : (vs 7) = .pointer (some ⟨tg, 0, none⟩) := hR 7 (by omega)
    have h8 : (vs 8) = .pointer (some ⟨tg, 0, none⟩) := hR 8 (by omega)
    have h9 : (vs 9) = .slice (some ⟨bt, ot, none⟩) nT cT := hR 9 (by omega)
    have h10 : (vs 10) = .int .i64 (m : Int) := hR 10 (by omega)
    have h11 : (vs 11) = .pointer (some ⟨bt, om, none⟩) := hR 11 (by omega)
    have h12 : (vs 12) = .agg #[.string mk, .string mv] := hR 12 (by omega)
    have h13 : ∃ x, (vs 13) = .slice (some ⟨x, 0, none⟩) 1 1 ∧ q.heap.size ≤ x ∧ p.heap[x]? = some (.cells #[.string mk, .string mv] 65 (0, 0)) := hR 13 (by omega)
    have h14 : True := hR 14 (by omega)
    clear hR
    simp only [List.range_succ, List.range_zero, List.nil_append, List.cons_append, Roll.putD, Act.put, List.getD_cons_zero, List.getD_cons_succ, List.setIfInBounds_toArray, List.set_cons_zero, List.set_cons_succ, List.drop_succ_cons, List.drop_zero, Dsp2]
    simp only [h0, h1, h2, h3, h4, h5, h6, h7, h8, h9, h10, h11, h12]
    clear h0 h1 h2 h3 h4 h5 h6 h7 h8 h9 h10 h11 h12
    clear h13 h14
    generalize vs 13 = v13 at *; generalize vs 14 = v14 at *
    obtain ⟨k2, ho, hr⟩ := hI
    obtain ⟨a2, c2, rfl, -⟩ := id ho.sl
    have hgp := hr.2.heap HON.out.blk HON.out.d1
    have cg0 := cell_of_row p g 0 _ _ _ hgp
    have fg0 := frozen_of_row p g 0 _ _ hgp
    have HON2 : Hid (ONx D w0 (p.setCell ⟨g, 0, none⟩ (.slice a2 (nv + 1) c2)) g k2 (some jk) (.slice a2 (nv + 1) c2) (.slice (some ⟨jk, 0, none⟩) kn kc) (ps.take i ++ ⟨mk, mv⟩ :: ps.drop i) ks xs) := Lib.hid (HON.out.newP2 (by
      have e1 : (ps.take i ++ KV.mk mk mv :: ps.drop i).length = nv + 1 := by have := HNV.out; have := HIN.out; simp only [List.length_append, List.length_take, List.length_cons, List.length_drop]; omega
      rw [e1, pcells_ins ps i (by have := HNV.out; have := HIN.out; omega)]
      exact ho) hr)
    have CT3 : Hid ((p.setCell ⟨g, 0, none⟩ (.slice a2 (nv + 1) c2)).cell? ⟨tg, 0, none⟩ = some (.slice (some ⟨bt, ot, none⟩) nT cT)) := Lib.hid ((((Kept.refl (fun j => j = g) p).setCell (p := ⟨g, 0, none⟩) (fun _ => rfl) (.slice a2 (nv + 1) c2)).cell (p := ⟨tg, 0, none⟩) (Nat.lt_of_lt_of_le HTL.out hr.2.size) NTG.out).trans ((hr.2.cell (p := ⟨tg, 0, none⟩) HTL.out ND2.out).trans CT.out))
    have HTL3 : Hid (tg < (p.setCell ⟨g, 0, none⟩ (.slice a2 (nv + 1) c2)).heap.size) := Lib.hid (by rw [World.size_setCell]; exact Nat.lt_of_lt_of_le HTL.out hr.2.size)
    clear ho hr hgp
    go_upto_region 3 with fail
    obtain ⟨q3, hq3⟩ : ∃ q3, q3 = p.setCell ⟨g, 0, none⟩ (.slice a2 (nv + 1) c2) := ⟨_, rfl⟩
    rw [← hq3] at HON2 CT3 HTL3 ⊢
    clear hq3 cg0 fg0
    obtain ⟨hgl3, -, c13, -, -⟩ := HON2.out.facts
    obtain ⟨jk3, c3, e3, e4, -, -, hjl3, hck3⟩ := HON2.out.kidAt (by omega)
    cases e3
    have HGL3 := Lib.hid hgl3
    have C13 := Lib.hid c13
    have HJL3 := Lib.hid hjl3
    have ck3 := hck3 i hi
    have CK3 : Hid (q3.cell? ⟨jk, i, none⟩ = some (.pointer (some ⟨ks[i].g, 0, none⟩)) ∧ q3.frozen? ⟨jk, i, none⟩ = false) := Lib.hid ck3
    clear hgl3 c13 hjl3 hck3 ck3 e4 c3
    refine Roll.region_f 8 65 Dsp3 Lsp3 [(0, .pointer (some ⟨g, 0, none⟩)), (1, .int .i64 (i : Int)), (4, .pointer (some ⟨tg, 0, none⟩)), (5, .int .i64 (m : Int))] (fun p => Below q3.heap.size q3 p) (fun p p2 => Below p.heap.size p p2) [fun vv p => vv = .pointer (some ⟨g, 0, none⟩), fun vv p => vv = .pointer (some ⟨g, 0, none⟩), fun vv p => vv = .pointer (some ⟨g, 1, none⟩), fun vv p => vv = .slice (some ⟨jk, 0, none⟩) kn kc, fun vv p => vv = .int .i64 (i : Int), fun vv p => vv = .pointer (some ⟨tg, 0, none⟩), fun vv p => vv = .int .i64 (m : Int), fun vv p => ∃ c, vv = .pointer (some ⟨c, 0, none⟩) ∧ NdD (fun b => Off D w0.heap.size g k2 (some jk) b ∨ q3.heap.size ≤ b) p (.mk c (T.ps.take m) (T.ks.take (m + 1)))] (by kernel_rfl) (by kernel_rfl) rfl ⟨rfl, rfl, rfl, rfl, trivial⟩ ((Below.refl _ _).drew) ?_ ?_ ?_
    · exact ⟨fun _ _ _ _ h => h, fun _ _ _ _ h => h, fun _ _ _ _ h => h, fun _ _ _ _ h => h, fun _ _ _ _ h => h, fun _ _ _ _ h => h, fun _ _ _ _ h => h, fun _ _ _ hs h => by obtain ⟨c, e1, e2⟩ := h; exact ⟨c, e1, e2.under hs⟩, trivial⟩
    · intro b0 hN hlv
      refine ⟨?_, ?_, ?_, ?_, ?_, ?_, ?_, ?_, trivial⟩
      · intro vs p hI hp
        have e0 : (Roll.putD Dsp3 vs [] b0).eval (.tmp 0) = .pointer (some ⟨g, 0, none⟩) := (Roll.eval_old rfl).trans (hlv.at 0 (0, .pointer (some ⟨g, 0, none⟩)) rfl)
        clear hp hlv hN
        unfold Roll.Goes
        simp only [Lsp3, List.getD_cons_zero, List.getD_cons_succ]
        generalize Roll.putD Dsp3 vs [] b0 = a1 at *
        refine Roll.goes_val (w' := p) (.pointer (some ⟨g, 0, none⟩)) rfl ?_ ⟨hI, Below.refl _ _, rfl⟩
        (have ec : ∀ x, a1.eval (.const x) = x := fun _ => rfl); (have ef : ∀ x, a1.eval (.func x) = .func (.func x) #[] #[] := fun _ => rfl); generalize a1.eval = ρ at *
        skip
        go_simp <;> (intros; first | (exfalso; omega) | rfl)
      · intro vs p hI hp
        have h0 : (vs 0) = .pointer (some ⟨g, 0, none⟩) := hp 0 (by simp [Lsp3])
        have e36 : (Roll.putD Dsp3 vs [0] b0).eval (.tmp 36) = .pointer (some ⟨g, 0, none⟩) := (Roll.eval_new 0 rfl (by decide) (by decide) (by omega)).trans h0
        clear hp hlv hN
        unfold Roll.Goes
        simp only [Lsp3, List.getD_cons_zero, List.getD_cons_succ]
        generalize Roll.putD Dsp3 vs [0] b0 = a1 at *
        refine Roll.goes_val (w' := p) (.pointer (some ⟨g, 0, none⟩)) rfl ?_ ⟨hI, Below.refl _ _, rfl⟩
        (have ec : ∀ x, a1.eval (.const x) = x := fun _ => rfl); (have ef : ∀ x, a1.eval (.func x) = .func (.func x) #[] #[] := fun _ => rfl); generalize a1.eval = ρ at *
        clear h0
        go_simp <;> (intros; first | (exfalso; omega) | rfl)
      · intro vs p hI hp
        have h1 : (vs 1) = .pointer (some ⟨g, 0, none⟩) := hp 1 (by simp [Lsp3])
        have e37 : (Roll.putD Dsp3 vs [1] b0).eval (.tmp 37) = .pointer (some ⟨g, 0, none⟩) := (Roll.eval_new 1 rfl (by decide) (by decide) (by omega)).trans h1
        clear hp hlv hN
        unfold Roll.Goes
        simp only [Lsp3, List.getD_cons_zero, List.getD_cons_succ]
        generalize Roll.putD Dsp3 vs [1] b0 = a1 at *
        refine Roll.goes_val (w' := p) (.pointer (some ⟨g, 1, none⟩)) rfl ?_ ⟨hI, Below.refl _ _, rfl⟩
        (have ec : ∀ x, a1.eval (.const x) = x := fun _ => rfl); (have ef : ∀ x, a1.eval (.func x) = .func (.func x) #[] #[] := fun _ => rfl); generalize a1.eval = ρ at *
        clear h1
        go_simp <;> (intros; first | (exfalso; omega) | rfl)
      · intro vs p hI hp
        have h2 : (vs 2) = .pointer (some ⟨g, 1, none⟩) := hp 2 (by simp [Lsp3])
        have e38 : (Roll.putD Dsp3 vs [2] b0).eval (.tmp 38) = .pointer (some ⟨g, 1, none⟩) := (Roll.eval_new 2 rfl (by decide) (by decide) (by omega)).trans h2
        clear hp hlv hN
        unfold Roll.Goes
        simp only [Lsp3, List.getD_cons_zero, List.getD_cons_succ]
        generalize Roll.putD Dsp3 vs [2] b0 = a1 at *
        have cf : p.cell? ⟨g, 1, none⟩ = some (.slice (some ⟨jk, 0, none⟩) kn kc) := (hI.cell (p := ⟨g, 1, none⟩) HGL3.out).trans C13.out
        refine Roll.goes_val (w' := p) (.slice (some ⟨jk, 0, none⟩) kn kc) rfl ?_ ⟨hI, Below.refl _ _, rfl⟩
        (have ec : ∀ x, a1.eval (.const x) = x := fun _ => rfl); (have ef : ∀ x, a1.eval (.func x) = .func (.func x) #[] #[] := fun _ => rfl); generalize a1.eval = ρ at *
        clear h2
        go_simp <;> (intros; first | (exfalso; omega) | rfl)
      · intro vs p hI hp
        have e1 : (Roll.putD Dsp3 vs [] b0).eval (.tmp 1) = .int .i64 (i : Int) := (Roll.eval_old rfl).trans (hlv.at 1 (1, .int .i64 (i : Int)) rfl)
        clear hp hlv hN
        unfold Roll.Goes
        simp only [Lsp3, List.getD_cons_zero, List.getD_cons_succ]
        generalize Roll.putD Dsp3 vs [] b0 = a1 at *
        refine Roll.goes_val (w' := p) (.int .i64 (i : Int)) rfl ?_ ⟨hI, Below.refl _ _, rfl⟩
        (have ec : ∀ x, a1.eval (.const x) = x := fun _ => rfl); (have ef : ∀ x, a1.eval (.func x) = .func (.func x) #[] #[] := fun _ => rfl); generalize a1.eval = ρ at *
        skip
        go_simp <;> (intros; first | (exfalso; omega) | rfl)
      · intro vs p hI hp
        have e4 : (Roll.putD Dsp3 vs [] b0).eval (.tmp 4) = .pointer (some ⟨tg, 0, none⟩) := (Roll.eval_old rfl).trans (hlv.at 2 (4, .pointer (some ⟨tg, 0, none⟩)) rfl)
        clear hp hlv hN
        unfold Roll.Goes
        simp only [Lsp3, List.getD_cons_zero, List.getD_cons_succ]
        generalize Roll.putD Dsp3 vs [] b0 = a1 at *
        refine Roll.goes_val (w' := p) (.pointer (some ⟨tg, 0, none⟩)) rfl ?_ ⟨hI, Below.refl _ _, rfl⟩
        (have ec : ∀ x, a1.eval (.const x) = x := fun _ => rfl); (have ef : ∀ x, a1.eval (.func x) = .func (.func x) #[] #[] := fun _ => rfl); generalize a1.eval = ρ at *
        skip
        go_simp <;> (intros; first | (exfalso; omega) | rfl)
      · intro vs p hI hp
        have e5 : (Roll.putD Dsp3 vs [] b0).eval (.tmp 5) = .int .i64 (m : Int) := (Roll.eval_old rfl).trans (hlv.at 3 (5, .int .i64 (m : Int)) rfl)
        clear hp hlv hN
        unfold Roll.Goes
        simp only [Lsp3, List.getD_cons_zero, List.getD_cons_succ]
        generalize Roll.putD Dsp3 vs [] b0 = a1 at *
        refine Roll.goes_val (w' := p) (.int .i64 (m : Int)) rfl ?_ ⟨hI, Below.refl _ _, rfl⟩
        (have ec : ∀ x, a1.eval (.const x) = x := fun _ => rfl); (have ef : ∀ x, a1.eval (.func x) = .func (.func x) #[] #[] := fun _ => rfl); generalize a1.eval = ρ at *
        skip
        go_simp <;> (intros; first | (exfalso; omega) | rfl)
      · intro vs p hI hp
        have h5 : (vs 5) = .pointer (some ⟨tg, 0, none⟩) := hp 5 (by simp [Lsp3])
        have h6 : (vs 6) = .int .i64 (m : Int) := hp 6 (by simp [Lsp3])
        have e41 : (Roll.putD Dsp3 vs [5, 6] b0).eval (.tmp 41) = .pointer (some ⟨tg, 0, none⟩) := (Roll.eval_new 5 rfl (by decide) (by decide) (by omega)).trans h5
        have e42 : (Roll.putD Dsp3 vs [5, 6] b0).eval (.tmp 42) = .int .i64 (m : Int) := (Roll.eval_new 6 rfl (by decide) (by decide) (by omega)).trans h6
        clear hp hlv hN
        unfold Roll.Goes
        simp only [Lsp3, List.getD_cons_zero, List.getD_cons_succ]
        generalize Roll.putD Dsp3 vs [5, 6] b0 = a1 at *
        refine Roll.goes_call 70 #[.pointer (some ⟨tg, 0, none⟩), .int .i64 0, .int .i64 (m : Int)] p rfl (by have ec : ∀ x, a1.eval (.const x) = x := fun _ => rfl; have ef : ∀ x, a1.eval (.func x) = .func (.func x) #[] #[] := fun _ => rfl; generalize a1.eval = ρ at *; go_simp) ?_
        have hc := part_any ((HON2.out.kids T (List.mem_append.2 (.inl HTM.out))).under hI) HKL.out 0 m (by have := H39.out; have := HM.out; omega) (by have := HM.out; omega) (by have := H39.out; omega)
        rw [← HTG.out] at hc
        refine hc.mono ?_
        rintro y p2 ⟨c, rfl, kp', kk', vp', vk', hc2⟩
        have hb2 := hc2.below
        exact ⟨_, rfl, hI.trans (hb2.mono hI.size), hb2, c, rfl, hc2.nd.dom (fun b hb => hb.imp id (Nat.le_trans hI.size))⟩
    · intro vs p hI hR
      have h0 : (vs 0) = .pointer (some ⟨g, 0, none⟩) := hR 0 (by omega)
      have h1 : (vs 1) = .pointer (some ⟨g, 0, none⟩) := hR 1 (by omega)
      have h2 : (vs 2) = .pointer (some ⟨g, 1, none⟩) := hR 2 (by omega)
      have h3 : (vs 3) = .slice (some ⟨jk, 0, none⟩) kn kc := hR 3 (by omega)
      have h4 : (vs 4) = .int .i64 (i : Int) := hR 4 (by omega)
      have h5 : (vs 5) = .pointer (some ⟨tg, 0, none⟩) := hR 5 (by omega)
      have h6 : (vs 6) = .int .i64 (m : Int) := hR 6 (by omega)
      have h7 : ∃ c, (vs 7) = .pointer (some ⟨c, 0, none⟩) ∧ NdD (fun b => Off D w0.heap.size g k2 (some jk) b ∨ q3.heap.size ≤ b) p (.mk c (T.ps.take m) (T.ks.take (m + 1))) := hR 7 (by omega)
      clear hR
      simp only [List.range_succ, List.range_zero, List.nil_append, List.cons_append, Roll.putD, Act.put, List.getD_cons_zero, List.getD_cons_succ, List.setIfInBounds_toArray, List.set_cons_zero, List.set_cons_succ, List.drop_succ_cons, List.drop_zero, Dsp3]
      simp only [h0, h1, h2, h3, h4, h5, h6]
      clear h0 h1 h2 h3 h4 h5 h6
      generalize vs 7 = v7 at *
      obtain ⟨c, rfl, hnd⟩ := h7
      have cki := (hI.cell (p := ⟨jk, i, none⟩) HJL3.out).trans CK3.out.1
      have fki := ((Kept.of_below (fun _ => False) hI).frozen (p := ⟨jk, i, none⟩) HJL3.out (fun h => h)).trans CK3.out.2
      have HON3 : Hid (ONx D w0 (p.setCell ⟨jk, i, none⟩ (.pointer (some ⟨c, 0, none⟩))) g k2 (some jk) (.slice a2 (nv + 1) c2) (.slice (some ⟨jk, 0, none⟩) kn kc) (ps.take i ++ ⟨mk, mv⟩ :: ps.drop i) (ks.set i (.mk c (T.ps.take m) (T.ks.take (m + 1)))) (T :: xs)) := Lib.hid ((((HON2.out.sub (ys := T :: xs) (fun k hk => by
        rcases List.mem_cons.1 hk with rfl | hk
        · exact List.mem_append.2 (.inl HTM.out)
        · exact List.mem_append.2 (.inr hk))).add hI hnd).setK i hi _ (List.mem_append.2 (.inr (List.mem_cons_self ..)))).sub (fun k hk => List.mem_append.2 (.inr (List.mem_cons_of_mem _ hk))))
      have CT4 : Hid ((p.setCell ⟨jk, i, none⟩ (.pointer (some ⟨c, 0, none⟩))).cell? ⟨tg, 0, none⟩ = some (.slice (some ⟨bt, ot, none⟩) nT cT)) := Lib.hid ((((Kept.refl (fun j => j = jk) p).setCell (p := ⟨jk, i, none⟩) (fun _ => rfl) (.pointer (some ⟨c, 0, none⟩))).cell (p := ⟨tg, 0, none⟩) (Nat.lt_of_lt_of_le HTL3.out hI.size) NTJ.out).trans ((hI.cell (p := ⟨tg, 0, none⟩) HTL3.out).trans CT3.out))
      clear hnd hI
      go_upto_region 4 with fail
      obtain ⟨q4, hq4⟩ : ∃ q4, q4 = p.setCell ⟨jk, i, none⟩ (.pointer (some ⟨c, 0, none⟩)) := ⟨_, rfl⟩
      rw [← hq4] at HON3 CT4 ⊢
      clear hq4 cki fki
      obtain ⟨L, hL⟩ : ∃ L, L = BT.mk c (T.ps.take m) (T.ks.take (m + 1)) := ⟨_, rfl⟩
      rw [← hL] at HON3
      obtain ⟨ks4, hks4⟩ : ∃ ks4, ks4 = ks.set i L := ⟨_, rfl⟩
      rw [← hks4] at HON3
      have HL := Lib.hid hL
      have HKS4 := Lib.hid hks4
      have HK4L : Hid (ks4.length = kn) := Lib.hid (by rw [hks4, List.length_set, HKN.out])
      clear hL hks4
      obtain ⟨hgl4, -, c14, -, f14⟩ := HON3.out.facts
      have HGL4 := Lib.hid hgl4
      have C14 := Lib.hid c14
      have HT4 : Hid (NdD (Off D w0.heap.size g k2 (some jk)) q4 T) := Lib.hid (HON3.out.kids T (List.mem_append.2 (.inr (List.mem_cons_self ..))))
      have HTL4 : Hid (tg < q4.heap.size) := Lib.hid (by rw [HTG.out]; exact HT4.out.nd.lt)
      have HJL4 : Hid (jk < q4.heap.size) := Lib.hid (HON3.out.hk.lt jk rfl)
      clear hgl4 c14 f14
      refine Roll.region_v 18 65 Dsp4 Lsp4 [(0, .pointer (some ⟨g, 0, none⟩)), (1, .int .i64 (i : Int)), (4, .pointer (some ⟨tg, 0, none⟩)), (5, .int .i64 (m : Int))] 17 [true, true, true, true, true, true, true, true, true, true, true, true, true, true, true, false, false, false] (fun p => Below q4.heap.size q4 p) (fun vv p => ∃ k3 c, Own p 85 1 k3 vv (kn + 1) (insC (pnts (ks4.map BT.g)) [.pointer (some ⟨c, 0, none⟩)] (i + 1)) ∧ RowTo q4 p (some jk) k3 ∧ NdD (fun b => (Off D w0.heap.size g k2 (some jk) b ∨ q4.heap.size ≤ b) ∧ k3 ≠ some b) p (.mk c (T.ps.drop (m + 1)) (T.ks.drop (m + 1)))) (fun p => Kept (fun j => some jk = some j) q4 p) (fun p p2 => Kept (fun j => some jk = some j) p p2) [fun vv p => (vv 0) = .pointer (some ⟨g, 0, none⟩), fun vv p => (vv 1) = .pointer (some ⟨g, 0, none⟩), fun vv p => (vv 2) = .pointer (some ⟨g, 0, none⟩), fun vv p => (vv 3) = .pointer (some ⟨g, 1, none⟩), fun vv p => (vv 4) = .slice (some ⟨jk, 0, none⟩) kn kc, fun vv p => (vv 5) = .int .i64 (i : Int), fun vv p => (vv 6) = .int .i64 ((i : Int) + 1), fun vv p => (vv 7) = .pointer (some ⟨tg, 0, none⟩), fun vv p => (vv 8) = .int .i64 (m : Int), fun vv p => (vv 9) = .int .i64 ((m : Int) + 1), fun vv p => (vv 10) = .pointer (some ⟨tg, 0, none⟩), fun vv p => (vv 11) = .pointer (some ⟨tg, 0, none⟩), fun vv p => (vv 12) = .pointer (some ⟨tg, 0, none⟩), fun vv p => (vv 13) = .slice (some ⟨bt, ot, none⟩) nT cT, fun vv p => (vv 14) = .int .i64 (nT : Int), fun vv p => ∃ c, (vv 15) = .pointer (some ⟨c, 0, none⟩) ∧ NdD (fun b => Off D w0.heap.size g k2 (some jk) b ∨ q4.heap.size ≤ b) p (.mk c (T.ps.drop (m + 1)) (T.ks.drop (m + 1))), fun vv p => ∃ x, (vv 16) = .slice (some ⟨x, 0, none⟩) 1 1 ∧ q4.heap.size ≤ x ∧ ∃ c, p.heap[x]? = some (.cells #[.pointer (some ⟨c, 0, none⟩)] 85 (0, 0)) ∧ NdD (fun b => Off D w0.heap.size g k2 (some jk) b ∨ q4.heap.size ≤ b) p (.mk c (T.ps.drop (m + 1)) (T.ks.drop (m + 1))), fun vv p => True] (by kernel_rfl) (by kernel_rfl) rfl ⟨rfl, rfl, rfl, rfl, trivial⟩ ((Below.refl _ _).drew) (by decide) (by kernel_rfl) (fun _ h => Kept.of_below _ h) (fun _ _ h => by obtain ⟨_, _, _, h, _⟩ := h; exact h.2) (fun _ => Kept.refl _ _) ?_ ?_ ?_
      · exact ⟨fun _ _ _ _ h => h, fun _ _ _ _ h => h, fun _ _ _ _ h => h, fun _ _ _ _ h => h, fun _ _ _ _ h => h, fun _ _ _ _ h => h, fun _ _ _ _ h => h, fun _ _ _ _ h => h, fun _ _ _ _ h => h, fun _ _ _ _ h => h, fun _ _ _ _ h => h, fun _ _ _ _ h => h, fun _ _ _ _ h => h, fun _ _ _ _ h => h, fun _ _ _ _ h => h, fun _ _ _ hs h => by obtain ⟨c, e1, e2⟩ := h; exact ⟨c, e1, e2.kept hs (fun b _ hb e => by rcases hb with h | h; exact h.2.2.2 e; cases e; have := HJL4.out; omega)⟩, fun _ _ _ hs h => by obtain ⟨x, e1, e2, c, e3, e5⟩ := h; exact ⟨x, e1, e2, c, hs.heap e3 (fun e => by cases e; have := HJL4.out; omega), e5.kept hs (fun b _ hb e => by rcases hb with h | h; exact h.2.2.2 e; cases e; have := HJL4.out; omega)⟩, fun _ _ _ _ h => h, trivial⟩
      · intro b0 hN hlv
        refine ⟨?_, ?_, ?_, ?_, ?_, ?_, ?_, ?_, ?_, ?_, ?_, ?_, ?_, ?_, ?_, ?_, ?_, ?_, trivial⟩
        · intro vs p hI0 hp
          have hI := Roll.inw_pure (by decide) rfl hI0
          clear hI0
          have e0 : (Roll.putD Dsp4 vs [] b0).eval (.tmp 0) = .pointer (some ⟨g, 0, none⟩) := (Roll.eval_old rfl).trans (hlv.at 0 (0, .pointer (some ⟨g, 0, none⟩)) rfl)
          clear hp hlv hN
          unfold Roll.Goes
          simp only [Lsp4, List.getD_cons_zero, List.getD_cons_succ]
          generalize Roll.putD Dsp4 vs [] b0 = a1 at *
          refine Roll.goes_val (w' := p) (.pointer (some ⟨g, 0, none⟩)) rfl ?_ ⟨(Roll.outw_pure (by decide) rfl), rfl⟩
          (have ec : ∀ x, a1.eval (.const x) = x := fun _ => rfl); (have ef : ∀ x, a1.eval (.func x) = .func (.func x) #[] #[] := fun _ => rfl); generalize a1.eval = ρ at *
          skip
          go_simp <;> (intros; first | (exfalso; omega) | rfl)
        · intro vs p hI0 hp
          have hI := Roll.inw_pure (by decide) rfl hI0
          clear hI0
          have e0 : (Roll.putD Dsp4 vs [] b0).eval (.tmp 0) = .pointer (some ⟨g, 0, none⟩) := (Roll.eval_old rfl).trans (hlv.at 0 (0, .pointer (some ⟨g, 0, none⟩)) rfl)
          clear hp hlv hN
          unfold Roll.Goes
          simp only [Lsp4, List.getD_cons_zero, List.getD_cons_succ]
          generalize Roll.putD Dsp4 vs [] b0 = a1 at *
          refine Roll.goes_val (w' := p) (.pointer (some ⟨g, 0, none⟩)) rfl ?_ ⟨(Roll.outw_pure (by decide) rfl), rfl⟩
          (have ec : ∀ x, a1.eval (.const x) = x := fun _ => rfl); (have ef : ∀ x, a1.eval (.func x) = .func (.func x) #[] #[] := fun _ => rfl); generalize a1.eval = ρ at *
          skip
          go_simp <;> (intros; first | (exfalso; omega) | rfl)
        · intro vs p hI0 hp
          have hI := Roll.inw_pure (by decide) rfl hI0
          clear hI0
          have h1 : (vs 1) = .pointer (some ⟨g, 0, none⟩) := hp 1 (by simp [Lsp4])
          have e46 : (Roll.putD Dsp4 vs [1] b0).eval (.tmp 46) = .pointer (some ⟨g, 0, none⟩) := (Roll.eval_new 1 rfl (by decide) (by decide) (by omega)).trans h1
          clear hp hlv hN
          unfold Roll.Goes
          simp only [Lsp4, List.getD_cons_zero, List.getD_cons_succ]
          generalize Roll.putD Dsp4 vs [1] b0 = a1 at *
          refine Roll.goes_val (w' := p) (.pointer (some ⟨g, 0, none⟩)) rfl ?_ ⟨(Roll.outw_pure (by decide) rfl), rfl⟩
          (have ec : ∀ x, a1.eval (.const x) = x := fun _ => rfl); (have ef : ∀ x, a1.eval (.func x) = .func (.func x) #[] #[] := fun _ => rfl); generalize a1.eval = ρ at *
          clear h1
          go_simp <;> (intros; first | (exfalso; omega) | rfl)
        · intro vs p hI0 hp
          have hI := Roll.inw_pure (by decide) rfl hI0
          clear hI0
          have h2 : (vs 2) = .pointer (some ⟨g, 0, none⟩) := hp 2 (by simp [Lsp4])
          have e47 : (Roll.putD Dsp4 vs [2] b0).eval (.tmp 47) = .pointer (some ⟨g, 0, none⟩) := (Roll.eval_new 2 rfl (by decide) (by decide) (by omega)).trans h2
          clear hp hlv hN
          unfold Roll.Goes
          simp only [Lsp4, List.getD_cons_zero, List.getD_cons_succ]
          generalize Roll.putD Dsp4 vs [2] b0 = a1 at *
          refine Roll.goes_val (w' := p) (.pointer (some ⟨g, 1, none⟩)) rfl ?_ ⟨(Roll.outw_pure (by decide) rfl), rfl⟩
          (have ec : ∀ x, a1.eval (.const x) = x := fun _ => rfl); (have ef : ∀ x, a1.eval (.func x) = .func (.func x) #[] #[] := fun _ => rfl); generalize a1.eval = ρ at *
          clear h2
          go_simp <;> (intros; first | (exfalso; omega) | rfl)
        · intro vs p hI0 hp
          have hI := Roll.inw_pure (by decide) rfl hI0
          clear hI0
          have h3 : (vs 3) = .pointer (some ⟨g, 1, none⟩) := hp 3 (by simp [Lsp4])
          have e48 : (Roll.putD Dsp4 vs [3] b0).eval (.tmp 48) = .pointer (some ⟨g, 1, none⟩) := (Roll.eval_new 3 rfl (by decide) (by decide) (by omega)).trans h3
          clear hp hlv hN
          unfold Roll.Goes
          simp only [Lsp4, List.getD_cons_zero, List.getD_cons_succ]
          generalize Roll.putD Dsp4 vs [3] b0 = a1 at *
          have cf : p.cell? ⟨g, 1, none⟩ = some (.slice (some ⟨jk, 0, none⟩) kn kc) := (hI.cell (p := ⟨g, 1, none⟩) HGL4.out NDG.out).trans C14.out
          refine Roll.goes_val (w' := p) (.slice (some ⟨jk, 0, none⟩) kn kc) rfl ?_ ⟨(Roll.outw_pure (by decide) rfl), rfl⟩
          (have ec : ∀ x, a1.eval (.const x) = x := fun _ => rfl); (have ef : ∀ x, a1.eval (.func x) = .func (.func x) #[] #[] := fun _ => rfl); generalize a1.eval = ρ at *
          clear h3
          go_simp <;> (intros; first | (exfalso; omega) | rfl)
        · intro vs p hI0 hp
          have hI := Roll.inw_pure (by decide) rfl hI0
          clear hI0
          have e1 : (Roll.putD Dsp4 vs [] b0).eval (.tmp 1) = .int .i64 (i : Int) := (Roll.eval_old rfl).trans (hlv.at 1 (1, .int .i64 (i : Int)) rfl)
          clear hp hlv hN
          unfold Roll.Goes
          simp only [Lsp4, List.getD_cons_zero, List.getD_cons_succ]
          generalize Roll.putD Dsp4 vs [] b0 = a1 at *
          refine Roll.goes_val (w' := p) (.int .i64 (i : Int)) rfl ?_ ⟨(Roll.outw_pure (by decide) rfl), rfl⟩
          (have ec : ∀ x, a1.eval (.const x) = x := fun _ => rfl); (have ef : ∀ x, a1.eval (.func x) = .func (.func x) #[] #[] := fun _ => rfl); generalize a1.eval = ρ at *
          skip
          go_simp <;> (intros; first | (exfalso; omega) | rfl)
        · intro vs p hI0 hp
          have hI := Roll.inw_pure (by decide) rfl hI0
          clear hI0
          have h5 : (vs 5) = .int .i64 (i : Int) := hp 5 (by simp [Lsp4])
          have e50 : (Roll.putD Dsp4 vs [5] b0).eval (.tmp 50) = .int .i64 (i : Int) := (Roll.eval_new 5 rfl (by decide) (by decide) (by omega)).trans h5
          clear hp hlv hN
          unfold Roll.Goes
          simp only [Lsp4, List.getD_cons_zero, List.getD_cons_succ]
          generalize Roll.putD Dsp4 vs [5] b0 = a1 at *
          refine Roll.goes_val (w' := p) (.int .i64 ((i : Int) + 1)) rfl ?_ ⟨(Roll.outw_pure (by decide) rfl), rfl⟩
          (have ec : ∀ x, a1.eval (.const x) = x := fun _ => rfl); (have ef : ∀ x, a1.eval (.func x) = .func (.func x) #[] #[] := fun _ => rfl); generalize a1.eval = ρ at *
          clear h5
          go_simp <;> (intros; first | (exfalso; omega) | rfl)
        · intro vs p hI0 hp
          have hI := Roll.inw_pure (by decide) rfl hI0
          clear hI0
          have e4 : (Roll.putD Dsp4 vs [] b0).eval (.tmp 4) = .pointer (some ⟨tg, 0, none⟩) := (Roll.eval_old rfl).trans (hlv.at 2 (4, .pointer (some ⟨tg, 0, none⟩)) rfl)
          clear hp hlv hN
          unfold Roll.Goes
          simp only [Lsp4, List.getD_cons_zero, List.getD_cons_succ]
          generalize Roll.putD Dsp4 vs [] b0 = a1 at *
          refine Roll.goes_val (w' := p) (.pointer (some ⟨tg, 0, none⟩)) rfl ?_ ⟨(Roll.outw_pure (by decide) rfl), rfl⟩
          (have ec : ∀ x, a1.eval (.const x) = x := fun _ => rfl); (have ef : ∀ x, a1.eval (.func x) = .func (.func x) #[] #[] := fun _ => rfl); generalize a1.eval = ρ at *
          skip
          go_simp <;> (intros; first | (exfalso; omega) | rfl)
        · intro vs p hI0 hp
          have hI := Roll.inw_pure (by decide) rfl hI0
          clear hI0
          have e5 : (Roll.putD Dsp4 vs [] b0).eval (.tmp 5) = .int .i64 (m : Int) := (Roll.eval_old rfl).trans (hlv.at 3 (5, .int .i64 (m : Int)) rfl)
          clear hp hlv hN
          unfold Roll.Goes
          simp only [Lsp4, List.getD_cons_zero, List.getD_cons_succ]
          generalize Roll.putD Dsp4 vs [] b0 = a1 at *
          refine Roll.goes_val (w' := p) (.int .i64 (m : Int)) rfl ?_ ⟨(Roll.outw_pure (by decide) rfl), rfl⟩
          (have ec : ∀ x, a1.eval (.const x) = x := fun _ => rfl); (have ef : ∀ x, a1.eval (.func x) = .func (.func x) #[] #[] := fun _ => rfl); generalize a1.eval = ρ at *
          skip
          go_simp <;> (intros; first | (exfalso; omega) | rfl)
        · intro vs p hI0 hp
          have hI := Roll.inw_pure (by decide) rfl hI0
          clear hI0
          have h8 : (vs 8) = .int .i64 (m : Int) := hp 8 (by simp [Lsp4])
          have e53 : (Roll.putD Dsp4 vs [8] b0).eval (.tmp 53) = .int .i64 (m : Int) := (Roll.eval_new 8 rfl (by decide) (by decide) (by omega)).trans h8
          clear hp hlv hN
          unfold Roll.Goes
          simp only [Lsp4, List.getD_cons_zero, List.getD_cons_succ]
          generalize Roll.putD Dsp4 vs [8] b0 = a1 at *
          refine Roll.goes_val (w' := p) (.int .i64 ((m : Int) + 1)) rfl ?_ ⟨(Roll.outw_pure (by decide) rfl), rfl⟩
          (have ec : ∀ x, a1.eval (.const x) = x := fun _ => rfl); (have ef : ∀ x, a1.eval (.func x) = .func (.func x) #[] #[] := fun _ => rfl); generalize a1.eval = ρ at *
          clear h8
          go_simp <;> (intros; first | (exfalso; omega) | rfl)
        · intro vs p hI0 hp
          have hI := Roll.inw_pure (by decide) rfl hI0
          clear hI0
          have e4 : (Roll.putD Dsp4 vs [] b0).eval (.tmp 4) = .pointer (some ⟨tg, 0, none⟩) := (Roll.eval_old rfl).trans (hlv.at 2 (4, .pointer (some ⟨tg, 0, none⟩)) rfl)
          clear hp hlv hN
          unfold Roll.Goes
          simp only [Lsp4, List.getD_cons_zero, List.getD_cons_succ]
          generalize Roll.putD Dsp4 vs [] b0 = a1 at *
          refine Roll.goes_val (w' := p) (.pointer (some ⟨tg, 0, none⟩)) rfl ?_ ⟨(Roll.outw_pure (by decide) rfl), rfl⟩
          (have ec : ∀ x, a1.eval (.const x) = x := fun _ => rfl); (have ef : ∀ x, a1.eval (.func x) = .func (.func x) #[] #[] := fun _ => rfl); generalize a1.eval = ρ at *
          skip
          go_simp <;> (intros; first | (exfalso; omega) | rfl)
        · intro vs p hI0 hp
          have hI := Roll.inw_pure (by decide) rfl hI0
          clear hI0
          have h10 : (vs 10) = .pointer (some ⟨tg, 0, none⟩) := hp 10 (by simp [Lsp4])
          have e55 : (Roll.putD Dsp4 vs [10] b0).eval (.tmp 55) = .pointer (some ⟨tg, 0, none⟩) := (Roll.eval_new 10 rfl (by decide) (by decide) (by omega)).trans h10
          clear hp hlv hN
          unfold Roll.Goes
          simp only [Lsp4, List.getD_cons_zero, List.getD_cons_succ]
          generalize Roll.putD Dsp4 vs [10] b0 = a1 at *
          refine Roll.goes_val (w' := p) (.pointer (some ⟨tg, 0, none⟩)) rfl ?_ ⟨(Roll.outw_pure (by decide) rfl), rfl⟩
          (have ec : ∀ x, a1.eval (.const x) = x := fun _ => rfl); (have ef : ∀ x, a1.eval (.func x) = .func (.func x) #[] #[] := fun _ => rfl); generalize a1.eval = ρ at *
          clear h10
          go_simp <;> (intros; first | (exfalso; omega) | rfl)
        · intro vs p hI0 hp
          have hI := Roll.inw_pure (by decide) rfl hI0
          clear hI0
          have h11 : (vs 11) = .pointer (some ⟨tg, 0, none⟩) := hp 11 (by simp [Lsp4])
          have e56 : (Roll.putD Dsp4 vs [11] b0).eval (.tmp 56) = .pointer (some ⟨tg, 0, none⟩) := (Roll.eval_new 11 rfl (by decide) (by decide) (by omega)).trans h11
          clear hp hlv hN
          unfold Roll.Goes
          simp only [Lsp4, List.getD_cons_zero, List.getD_cons_succ]
          generalize Roll.putD Dsp4 vs [11] b0 = a1 at *
          refine Roll.goes_val (w' := p) (.pointer (some ⟨tg, 0, none⟩)) rfl ?_ ⟨(Roll.outw_pure (by decide) rfl), rfl⟩
          (have ec : ∀ x, a1.eval (.const x) = x := fun _ => rfl); (have ef : ∀ x, a1.eval (.func x) = .func (.func x) #[] #[] := fun _ => rfl); generalize a1.eval = ρ at *
          clear h11
          go_simp <;> (intros; first | (exfalso; omega) | rfl)
        · intro vs p hI0 hp
          have hI := Roll.inw_pure (by decide) rfl hI0
          clear hI0
          have h12 : (vs 12) = .pointer (some ⟨tg, 0, none⟩) := hp 12 (by simp [Lsp4])
          have e57 : (Roll.putD Dsp4 vs [12] b0).eval (.tmp 57) = .pointer (some ⟨tg, 0, none⟩) := (Roll.eval_new 12 rfl (by decide) (by decide) (by omega)).trans h12
          clear hp hlv hN
          unfold Roll.Goes
          simp only [Lsp4, List.getD_cons_zero, List.getD_cons_succ]
          generalize Roll.putD Dsp4 vs [12] b0 = a1 at *
          have cf : p.cell? ⟨tg, 0, none⟩ = some (.slice (some ⟨bt, ot, none⟩) nT cT) := (hI.cell (p := ⟨tg, 0, none⟩) HTL4.out NDT.out).trans CT4.out
          refine Roll.goes_val (w' := p) (.slice (some ⟨bt, ot, none⟩) nT cT) rfl ?_ ⟨(Roll.outw_pure (by decide) rfl), rfl⟩
          (have ec : ∀ x, a1.eval (.const x) = x := fun _ => rfl); (have ef : ∀ x, a1.eval (.func x) = .func (.func x) #[] #[] := fun _ => rfl); generalize a1.eval = ρ at *
          clear h12
          go_simp <;> (intros; first | (exfalso; omega) | rfl)
        · intro vs p hI0 hp
          have hI := Roll.inw_pure (by decide) rfl hI0
          clear hI0
          have h13 : (vs 13) = .slice (some ⟨bt, ot, none⟩) nT cT := hp 13 (by simp [Lsp4])
          have e58 : (Roll.putD Dsp4 vs [13] b0).eval (.tmp 58) = .slice (some ⟨bt, ot, none⟩) nT cT := (Roll.eval_new 13 rfl (by decide) (by decide) (by omega)).trans h13
          clear hp hlv hN
          unfold Roll.Goes
          simp only [Lsp4, List.getD_cons_zero, List.getD_cons_succ]
          generalize Roll.putD Dsp4 vs [13] b0 = a1 at *
          refine Roll.goes_val (w' := p) (.int .i64 (nT : Int)) rfl ?_ ⟨(Roll.outw_pure (by decide) rfl), rfl⟩
          (have ec : ∀ x, a1.eval (.const x) = x := fun _ => rfl); (have ef : ∀ x, a1.eval (.func x) = .func (.func x) #[] #[] := fun _ => rfl); generalize a1.eval = ρ at *
          clear h13
          go_simp <;> (intros; first | (exfalso; omega) | rfl)
        · intro vs p hI0 hp
          have hI := Roll.inw_pre (by decide) rfl hI0
          clear hI0
          have h7 : (vs 7) = .pointer (some ⟨tg, 0, none⟩) := hp 7 (by simp [Lsp4])
          have h9 : (vs 9) = .int .i64 ((m : Int) + 1) := hp 9 (by simp [Lsp4])
          have h14 : (vs 14) = .int .i64 (nT : Int) := hp 14 (by simp [Lsp4])
          have e52 : (Roll.putD Dsp4 vs [7, 9, 14] b0).eval (.tmp 52) = .pointer (some ⟨tg, 0, none⟩) := (Roll.eval_new 7 rfl (by decide) (by decide) (by omega)).trans h7
          have e54 : (Roll.putD Dsp4 vs [7, 9, 14] b0).eval (.tmp 54) = .int .i64 ((m : Int) + 1) := (Roll.eval_new 9 rfl (by decide) (by decide) (by omega)).trans h9
          have e59 : (Roll.putD Dsp4 vs [7, 9, 14] b0).eval (.tmp 59) = .int .i64 (nT : Int) := (Roll.eval_new 14 rfl (by decide) (by decide) (by omega)).trans h14
          clear hp hlv hN
          unfold Roll.Goes
          simp only [Lsp4, List.getD_cons_zero, List.getD_cons_succ]
          generalize Roll.putD Dsp4 vs [7, 9, 14] b0 = a1 at *
          refine Roll.goes_call 70 #[.pointer (some ⟨tg, 0, none⟩), .int .i64 ((m : Int) + 1), .int .i64 (nT : Int)] p rfl (by have ec : ∀ x, a1.eval (.const x) = x := fun _ => rfl; have ef : ∀ x, a1.eval (.func x) = .func (.func x) #[] #[] := fun _ => rfl; generalize a1.eval = ρ at *; go_simp) ?_
          have hc := part_any (HT4.out.under hI) HKL.out (m + 1) T.ps.length (by have := H39.out; have := HM.out; omega) (Nat.le_refl _) (by have := H39.out; omega)
          rw [← HTG.out] at hc
          have e1 : (T.ps.take T.ps.length).drop (m + 1) = T.ps.drop (m + 1) := by rw [List.take_length]
          have e2 : (T.ks.take (T.ps.length + 1)).drop (m + 1) = T.ks.drop (m + 1) := by
            rcases HKL.out with h | h
            · rw [h]; simp
            · rw [← h, List.take_length]
          rw [e1, e2, HNT.out] at hc
          refine hc.mono ?_
          rintro y p2 ⟨c, rfl, kp', kk', vp', vk', hc2⟩
          have hb2 := hc2.below
          exact ⟨_, rfl, Roll.outw_pre (by decide) rfl (hI.trans (hb2.mono hI.size)) (Kept.of_below _ hb2), c, rfl, hc2.nd.dom (fun b hb => hb.imp id (Nat.le_trans hI.size))⟩
        · intro vs p hI0 hp
          have hI := Roll.inw_pre (by decide) rfl hI0
          clear hI0
          have h15 : ∃ c, (vs 15) = .pointer (some ⟨c, 0, none⟩) ∧ NdD (fun b => Off D w0.heap.size g k2 (some jk) b ∨ q4.heap.size ≤ b) p (.mk c (T.ps.drop (m + 1)) (T.ks.drop (m + 1))) := hp 15 (by simp [Lsp4])
          have e60 : (Roll.putD Dsp4 vs [15] b0).eval (.tmp 60) = vs 15 := (Roll.eval_new 15 rfl (by decide) (by decide) (by omega))
          clear hp hlv hN
          unfold Roll.Goes
          simp only [Lsp4, List.getD_cons_zero, List.getD_cons_succ]
          generalize Roll.putD Dsp4 vs [15] b0 = a1 at *
          obtain ⟨c, hvc, hnc⟩ := h15
          rw [hvc] at e60
          have hal : Below p.heap.size p (p.alloc (.cells #[.pointer (some ⟨c, 0, none⟩)] 85)) := (Below.refl _ _).alloc (Nat.le_refl _) _
          refine Roll.goes_val (w' := p.alloc (.cells #[.pointer (some ⟨c, 0, none⟩)] 85)) (.slice (some ⟨p.heap.size, 0, none⟩) 1 1) rfl (by have ec : ∀ x, a1.eval (.const x) = x := fun _ => rfl; have ef : ∀ x, a1.eval (.func x) = .func (.func x) #[] #[] := fun _ => rfl; have hbs := run_bs1N; generalize a1.eval = ρ at *; go_simp <;> (intros; first | (exfalso; omega) | rfl)) ⟨Roll.outw_pre (by decide) rfl (hI.trans (hal.mono hI.size)) (Kept.of_below _ hal), p.heap.size, rfl, hI.size, c, heap_new rfl, hnc.under hal⟩
        · intro vs p hI0 hp
          have hI := Roll.inw_k0 rfl hI0
          clear hI0
          have h4 : (vs 4) = .slice (some ⟨jk, 0, none⟩) kn kc := hp 4 (by simp [Lsp4])
          have h6 : (vs 6) = .int .i64 ((i : Int) + 1) := hp 6 (by simp [Lsp4])
          have h16 : ∃ x, (vs 16) = .slice (some ⟨x, 0, none⟩) 1 1 ∧ q4.heap.size ≤ x ∧ ∃ c, p.heap[x]? = some (.cells #[.pointer (some ⟨c, 0, none⟩)] 85 (0, 0)) ∧ NdD (fun b => Off D w0.heap.size g k2 (some jk) b ∨ q4.heap.size ≤ b) p (.mk c (T.ps.drop (m + 1)) (T.ks.drop (m + 1))) := hp 16 (by simp [Lsp4])
          have e49 : (Roll.putD Dsp4 vs [4, 6, 16] b0).eval (.tmp 49) = .slice (some ⟨jk, 0, none⟩) kn kc := (Roll.eval_new 4 rfl (by decide) (by decide) (by omega)).trans h4
          have e51 : (Roll.putD Dsp4 vs [4, 6, 16] b0).eval (.tmp 51) = .int .i64 ((i : Int) + 1) := (Roll.eval_new 6 rfl (by decide) (by decide) (by omega)).trans h6
          have e61 : (Roll.putD Dsp4 vs [4, 6, 16] b0).eval (.tmp 61) = vs 16 := (Roll.eval_new 16 rfl (by decide) (by decide) (by omega))
          clear hp hlv hN
          unfold Roll.Goes
          simp only [Lsp4, List.getD_cons_zero, List.getD_cons_succ]
          generalize Roll.putD Dsp4 vs [4, 6, 16] b0 = a1 at *
          obtain ⟨x, hvx, hxq, c, hhx, hnc⟩ := h16
          rw [hvx] at e61
          refine Roll.goes_call 73 #[.slice (some ⟨jk, 0, none⟩) kn kc, .int .i64 ((i : Int) + 1), .slice (some ⟨x, 0, none⟩) 1 1] p rfl (by have ec : ∀ x, a1.eval (.const x) = x := fun _ => rfl; have ef : ∀ x, a1.eval (.func x) = .func (.func x) #[] #[] := fun _ => rfl; generalize a1.eval = ρ at *; go_simp) ?_
          have hok : Own p 85 1 (some jk) (.slice (some ⟨jk, 0, none⟩) kn kc) kn (pnts (ks4.map BT.g)) := by have := HON3.out.hk.kept (Kept.of_below (fun _ => False) hI) (fun _ _ h => h); rwa [HK4L.out] at this
          refine (insertN_any p (some jk) (.slice (some ⟨jk, 0, none⟩) kn kc) kn (pnts (ks4.map BT.g)) [.pointer (some ⟨c, 0, none⟩)] (i + 1) x 85 hok rfl (pnts_one _) (by simp [Value.oneCell']) (by have := HKN.out; omega) HKB.out hhx (fun e => by have := HJL4.out; cases e; omega)).mono ?_
          rintro y p2 ⟨k3, v3, rfl, ho, hr⟩
          exact ⟨_, rfl, Roll.outw_k0 rfl ⟨k3, c, ho, ⟨fun j hj => (hr.1 j hj).imp id (fun e => Nat.le_trans hI.size e), (Kept.of_below _ hI).trans hr.2 (fun _ _ h => h)⟩, ((hnc.in).kept hr.2 (fun b _ hb e => by
            rcases hb.1 with h | h
            · exact h.2.2.2 e
            · cases e; have := HJL4.out; omega)).dom (fun b hb => ⟨hb.1, fun e => by
            rcases hr.1 b e with h | h
            · cases h
              rcases hb.1 with h | h
              · exact h.2.2.2 rfl
              · have := HJL4.out; omega
            · have := hb.2; omega⟩)⟩ hr.2, trivial⟩
      · intro vs p hI hR
        have h0 : (vs 0) = .pointer (some ⟨g, 0, none⟩) := hR 0 (by omega)
        have h1 : (vs 1) = .pointer (some ⟨g, 0, none⟩) := hR 1 (by omega)
        have h2 : (vs 2) = .pointer (some ⟨g, 0, none⟩) := hR 2 (by omega)
        have h3 : (vs 3) = .pointer (some ⟨g, 1, none⟩) := hR 3 (by omega)
        have h4 : (vs 4) = .slice (some ⟨jk, 0, none⟩) kn kc := hR 4 (by omega)
        have h5 : (vs 5) = .int .i64 (i : Int) := hR 5 (by omega)
        have h6 : (vs 6) = .int .i64 ((i : Int) + 1) := hR 6 (by omega)
        have h7 : (vs 7) = .pointer (some ⟨tg, 0, none⟩) := hR 7 (by omega)
        have h8 : (vs 8) = .int .i64 (m : Int) := hR 8 (by omega)
        have h9 : (vs 9) = .int .i64 ((m : Int) + 1) := hR 9 (by omega)
        have h10 : (vs 10) = .pointer (some ⟨tg, 0, none⟩) := hR 10 (by omega)
        have h11 : (vs 11) = .pointer (some ⟨tg, 0, none⟩) := hR 11 (by omega)
        have h12 : (vs 12) = .pointer (some ⟨tg, 0, none⟩) := hR 12 (by omega)
        have h13 : (vs 13) = .slice (some ⟨bt, ot, none⟩) nT cT := hR 13 (by omega)
        have h14 : (vs 14) = .int .i64 (nT : Int) := hR 14 (by omega)
        have h15 : ∃ c, (vs 15) = .pointer (some ⟨c, 0, none⟩) ∧ NdD (fun b => Off D w0.heap.size g k2 (some jk) b ∨ q4.heap.size ≤ b) p (.mk c (T.ps.drop (m + 1)) (T.ks.drop (m + 1))) := hR 15 (by omega)
        have h16 : ∃ x, (vs 16) = .slice (some ⟨x, 0, none⟩) 1 1 ∧ q4.heap.size ≤ x ∧ ∃ c, p.heap[x]? = some (.cells #[.pointer (some ⟨c, 0, none⟩)] 85 (0, 0)) ∧ NdD (fun b => Off D w0.heap.size g k2 (some jk) b ∨ q4.heap.size ≤ b) p (.mk c (T.ps.drop (m + 1)) (T.ks.drop (m + 1))) := hR 16 (by omega)
        have h17 : True := hR 17 (by omega)
        clear hR
        simp only [List.range_succ, List.range_zero, List.nil_append, List.cons_append, Roll.putD, Act.put, List.getD_cons_zero, List.getD_cons_succ, List.setIfInBounds_toArray, List.set_cons_zero, List.set_cons_succ, List.drop_succ_cons, List.drop_zero, Dsp4]
        simp only [h0, h1, h2, h3, h4, h5, h6, h7, h8, h9, h10, h11, h12, h13, h14]
        clear h0 h1 h2 h3 h4 h5 h6 h7 h8 h9 h10 h11 h12 h13 h14
        clear h15 h16 h17
        generalize vs 15 = v15 at *; generalize vs 16 = v16 at *; generalize vs 17 = v17 at *
        obtain ⟨k3, cR, ho, hr, hnd⟩ := hI
        obtain ⟨a3, c3, rfl, -⟩ := id ho.sl
        have hgp := hr.2.heap HON3.out.blk HON3.out.d2
        have cg1 := cell_of_row p g 1 _ _ _ hgp
        have fg1 := frozen_of_row p g 1 _ _ hgp
        obtain ⟨RR, hRR⟩ : ∃ RR, RR = BT.mk cR (T.ps.drop (m + 1)) (T.ks.drop (m + 1)) := ⟨_, rfl⟩
        rw [← hRR] at hnd
        have HON5 : Hid (ONx D w0 (p.setCell ⟨g, 1, none⟩ (.slice a3 (kn + 1) c3)) g k2 k3 (.slice a2 (nv + 1) c2) (.slice a3 (kn + 1) c3) (ps.take i ++ ⟨mk, mv⟩ :: ps.drop i) (ks4.take (i + 1) ++ RR :: ks4.drop (i + 1)) (T :: xs)) := Lib.hid (HON3.out.newK2 (by
          have e1 : (ks4.take (i + 1) ++ RR :: ks4.drop (i + 1)).length = kn + 1 := by have := HK4L.out; simp only [List.length_append, List.length_take, List.length_cons, List.length_drop]; omega
          rw [e1, pnts_ins ks4 (i + 1) RR, hRR]
          exact ho) hr (fun k hk => by
          rcases List.mem_append.1 hk with h | h
          · exact .inl (List.mem_append.2 (.inl (List.mem_of_mem_take h)))
          · rcases List.mem_cons.1 h with rfl | h
            · exact .inr hnd
            · exact .inl (List.mem_append.2 (.inl (List.mem_of_mem_drop h)))))
        have HRR := Lib.hid hRR
        clear ho hr hgp hnd hRR
        go_wp2_with fail
        go_end0
        refine ⟨rfl, L, RR, ?_, by rw [HL.out]; rfl, by rw [HL.out]; rfl, by rw [HRR.out]; rfl, by rw [HRR.out]; rfl⟩
        have e1 : ks4.take (i + 1) ++ RR :: ks4.drop (i + 1) = ks.take i ++ L :: RR :: ks.drop (i + 1) := by
          rw [HKS4.out, List.drop_set_of_lt (by omega), List.take_set, List.set_eq_take_append_cons_drop, if_pos (by rw [List.length_take]; omega), List.take_take, show min i (i + 1) = i by omega, List.drop_eq_nil_of_le (by rw [List.length_take]; omega)]
          simp
        rw [← e1]
        exact ⟨_, _, _, _, HON5.out.sub (fun k hk => List.mem_append.2 (.inr (List.mem_cons_of_mem _ hk)))⟩
end Go.Proofs.Ytfgmhidgkemfoaa

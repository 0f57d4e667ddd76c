/-
  A rule for regions that draw their order: each operation is walked once, over what the operations ahead of it have left.
-/
import Derived.Orders
import Derived.Tactics
namespace Go.Proofs.YtcdjilnlmihnhaaDoor.Roll
open Go
set_option linter.unusedSimpArgs false
set_option linter.unusedVariables false
/-- the slot that an operation writes -/
def slot (ops : Array Oper) (j : Nat) : Option Tmp := (ops[j]?).bind (·.dst)
/-- a frame in which some operations have written -/
def putOf (ops : Array Oper) (vals : Nat → Value) : List Nat → Act → Act
  | [], a => a
  | j :: r, a => putOf ops vals r (a.put (slot ops j) (vals j))
theorem putOf_size (ops : Array Oper) (vals : Nat → Value) (l : List Nat) (a : Act) : (putOf ops vals l a).tmps.size = a.tmps.size := by
  induction l generalizing a with
  | nil => rfl
  | cons j r ih => rw [putOf, ih]; cases slot ops j <;> simp [Act.put]
theorem putOf_defers (ops : Array Oper) (vals : Nat → Value) (l : List Nat) (a : Act) : (putOf ops vals l a).defers = a.defers := by
  induction l generalizing a with
  | nil => rfl
  | cons j r ih => rw [putOf, ih]; cases slot ops j <;> simp [Act.put]
theorem put_get_ne {a : Act} {d : Option Tmp} {v : Value} {t : Nat} (h : d ≠ some t) : (a.put d v).tmps[t]? = a.tmps[t]? := by
  cases d with
  | none => rfl
  | some d => simp only [Act.put]; rw [Array.getElem?_setIfInBounds_ne (by intro e; exact h (by rw [e]))]
theorem put_get_eq {a : Act} {v : Value} {t : Nat} (h : t < a.tmps.size) : (a.put (some t) v).tmps[t]? = some v := by
  simp [Act.put, h]
theorem putOf_other (ops : Array Oper) (vals : Nat → Value) (l : List Nat) (a : Act) (t : Nat) (h : ∀ j ∈ l, slot ops j ≠ some t) : (putOf ops vals l a).tmps[t]? = a.tmps[t]? := by
  induction l generalizing a with
  | nil => rfl
  | cons j r ih => rw [putOf, ih _ (fun k hk => h k (List.mem_cons_of_mem _ hk)), put_get_ne (h j List.mem_cons_self)]
/-- no two operations write one slot -/
def apartB (ops : Array Oper) : Bool := ((List.range ops.size).filterMap (slot ops)).Nodup
theorem filterMap_inj {f : Nat → Option Nat} : ∀ {l : List Nat}, (l.filterMap f).Nodup → ∀ {i j : Nat} {t : Nat}, i ∈ l → j ∈ l → f i = some t → f j = some t → l.Nodup → i = j := by
  intro l
  induction l with
  | nil => intro _ i j t hi; cases hi
  | cons x r ih =>
    intro h i j t hi hj ei ej hn
    rw [List.nodup_cons] at hn
    have tail : (r.filterMap f).Nodup := by
      cases hx : f x with
      | none => rwa [List.filterMap_cons_none hx] at h
      | some y => rw [List.filterMap_cons_some hx] at h; exact (List.nodup_cons.1 h).2
    have clash : ∀ {k : Nat}, k ∈ r → f k = some t → f x = some t → False := by
      intro k hk ek ex
      rw [List.filterMap_cons_some ex] at h
      exact (List.nodup_cons.1 h).1 (List.mem_filterMap.2 ⟨k, hk, ek⟩)
    rcases List.mem_cons.1 hi with hi' | hi' <;> rcases List.mem_cons.1 hj with hj' | hj'
    · rw [hi', hj']
    · exact (clash hj' ej (hi' ▸ ei)).elim
    · exact (clash hi' ei (hj' ▸ ej)).elim
    · exact ih tail hi' hj' ei ej hn.2
theorem apart_inj {ops : Array Oper} (h : apartB ops = true) {i j : Nat} {t : Nat} (ei : slot ops i = some t) (ej : slot ops j = some t) : i = j := by
  have lt : ∀ {k : Nat}, slot ops k = some t → k ∈ List.range ops.size := by
    intro k e
    rw [List.mem_range]
    unfold slot at e
    cases hk : ops[k]? with
    | none => rw [hk] at e; cases e
    | some o => exact (Array.getElem?_eq_some_iff.1 hk).1
  exact filterMap_inj (of_decide_eq_true h) (lt ei) (lt ej) ei ej List.nodup_range
theorem putOf_mem {ops : Array Oper} (hap : apartB ops = true) (vals : Nat → Value) (l : List Nat) (a : Act) (j t : Nat) (hj : j ∈ l) (ht : slot ops j = some t) (hs : t < a.tmps.size) :
    (putOf ops vals l a).tmps[t]? = some (vals j) := by
  induction l generalizing a with
  | nil => cases hj
  | cons k r ih =>
    rw [putOf]
    by_cases hr : j ∈ r
    · exact ih _ hr (by cases slot ops k <;> simp [Act.put, hs])
    · obtain rfl : j = k := (List.mem_cons.1 hj).resolve_right hr
      rw [putOf_other ops vals r _ t (fun i hi e => hr (apart_inj hap e ht ▸ hi)), ht, put_get_eq hs]
/-- the operations that must stand ahead of one, as its edges name them -/
def ahead (o : Oper) : List Nat := (o.after.toList.filter fun e => Region.binds .any e).map (·.on)
/-- the slots that an operation looks at and that others write are written by operations ahead of it, or by such as stand behind it -/
def looksOk (ops : Array Oper) (L : List (List Nat)) : Bool :=
  (List.range ops.size).all fun k => match ops[k]? with
    | none => true
    | some o => (match o.op with | .select .. => false | .defer .. => false | _ => true) && ((L.getD k []).all fun i => (ahead o).contains i) &&
      (o.looksAt ops).all fun t => (List.range ops.size).all fun j => slot ops j != some t || (L.getD k []).contains j ||
        (match ops[j]? with | some oj => (ahead oj).contains k | none => true)
/-- what one operation does, from the frame that it sees -/
def Post (a1 : Act) (d : Option Tmp) (T : Value → World → Prop) : Exit → Act → World → Prop
  | .normal, a', w' => ∃ v, a' = a1.put d v ∧ T v w'
  | _, _, _ => False
variable {P : Program} {ops : Array Oper} {Q : Exit → Act → World → Prop}
theorem not_lets {a1 : Act} {d : Option Tmp} {T : Value → World → Prop} : ¬ LetsOut (Post a1 d T) := fun ⟨_, _, h⟩ => h
theorem put_inj {a : Act} {d : Option Tmp} {v u : Value} : (h : ∀ t, d = some t → t < a.tmps.size) → a.put d v = a.put d u → d = none ∨ v = u := by
  intro h e
  cases d with
  | none => exact .inl rfl
  | some t =>
    have := congrArg (fun x : Act => x.tmps[t]?) e
    simp only [put_get_eq (h t rfl)] at this
    exact .inr (Option.some.inj this)
/-- from the frame that an operation sees to the frame as it is -/
theorem wpOp_of_list {o : Oper} {k : Nat} {a a1 : Act} {w : World} {T : Value → World → Prop} (ho : ops[k]? = some o)
    (hn : o.dst = none → ∀ v u w', T v w' → T u w') (hsz : ∀ t, o.dst = some t → t < a1.tmps.size)
    (he : execOp a.eval o = execOp a1.eval o) (hw : Region.wanted o (yielded ops a.tmps) = Region.wanted o (yielded ops a1.tmps))
    (h : wpList P ops (Post a1 o.dst T) [o] a1 w) : wpOp P ops Q k (fun a' w' => ∃ v, a' = a.put o.dst v ∧ T v w') a w := by
  have fin : ∀ v w', (∃ u, a1.put o.dst v = a1.put o.dst u ∧ T u w') → ∃ u, a.put o.dst v = a.put o.dst u ∧ T u w' := by
    rintro v w' ⟨u, e, t⟩
    rcases put_inj hsz e with hnone | rfl
    · exact ⟨v, rfl, hn hnone _ _ _ t⟩
    · exact ⟨v, rfl, t⟩
  unfold wpList at h
  unfold wpOp
  simp only [ho, hw]
  split
  · rename_i hwt
    rw [if_pos hwt] at h
    rcases h with h | ⟨_, h⟩
    case inr => exact (not_lets h).elim
    refine .inl ?_
    unfold Oper.wp at *
    rw [he]
    generalize (execOp a1.eval o).run P w = r at *
    cases r with
    | ok n w' =>
      cases n <;> simp only [Oper.upon] at h ⊢
      case value u => exact fin u w' h
      case skip => exact fin undef w' h
      case defer d =>
        simp only [wpList, Post] at h
        obtain ⟨v, e, _⟩ := h
        have := congrArg Act.defers e
        cases hds : o.dst <;> simp [Act.put, hds] at this
      case enter f args =>
        refine Calls.mono h fun e w'' hh => ?_
        cases e with
        | returned u => exact fin u w'' hh
        | panicked c => exact (hh : False).elim
        | outgrown => exact (not_lets hh).elim
      case row row args => exact Rows.mono h fun u w'' hh => fin u w'' hh
    | halt x w' =>
      cases x <;> simp only [Oper.upon] at h ⊢
      case panic u => exact (h : False).elim
  · rename_i hwt
    rw [if_neg hwt] at h
    exact fin undef w h

/-- the result of an operation that writes no slot does not matter -/
def res (o : Oper) (R : Value → World → Prop) (v : Value) (w : World) : Prop := match o.dst with | some _ => R v w | none => R undef w
/-- what is owed for one operation -/
def Does (P : Program) (ops : Array Oper) (L : List (List Nat)) (I : World → Prop) (S : World → World → Prop) (R : Nat → Value → World → Prop) (a0 : Act) (k : Nat) (o : Oper) : Prop :=
  ∀ (vals : Nat → Value) (w : World), I w → (∀ j ∈ L.getD k [], R j (vals j) w) →
    wpList P ops (Post (putOf ops vals (L.getD k []) a0) o.dst fun v w' => I w' ∧ S w w' ∧ res o (R k) v w') [o] (putOf ops vals (L.getD k []) a0) w
/-- what holds when some operations have been performed -/
structure Held (ops : Array Oper) (I : World → Prop) (R : Nat → Value → World → Prop) (a0 : Act) (vals : Nat → Value) (listed : Array Bool) (a : Act) (w : World) : Prop where
  inv : I w
  len : listed.size = ops.size
  defers : a.defers = a0.defers
  size : a.tmps.size = a0.tmps.size
  closed : ∀ (j : Nat) (o : Oper), ops[j]? = some o → listed[j]? = some true → ∀ i ∈ ahead o, listed[i]? = some true
  old : ∀ t : Nat, (∀ j : Nat, listed[j]? = some true → slot ops j ≠ some t) → a.tmps[t]? = a0.tmps[t]?
  new : ∀ (j t : Nat), listed[j]? = some true → slot ops j = some t → a.tmps[t]? = some (vals j)
  got : ∀ j : Nat, listed[j]? = some true → R j (vals j) w
theorem tmp_congr {a b : Act} {t : Nat} (h : a.tmps[t]? = b.tmps[t]?) : a.eval (.tmp t) = b.eval (.tmp t) := by
  simp only [Act.eval, Array.getD_eq_getD_getElem?, h]
theorem exec_congr {o : Oper} {a b : Act} (hs : ∀ cs c, o.op ≠ .select cs c) (h : ∀ t ∈ o.looksAt ops, a.tmps[t]? = b.tmps[t]?) : execOp a.eval o = execOp b.eval o := by
  refine execOp_congr o hs fun x hx => ?_
  cases x with
  | tmp t => exact tmp_congr (h t (List.mem_append_left _ (List.mem_filterMap.2 ⟨.tmp t, by simpa using hx, rfl⟩)))
  | const v => rfl
  | global g => rfl
  | func f => rfl
theorem wanted_congr {o : Oper} {a b : Act} (h : ∀ t ∈ o.looksAt ops, a.tmps[t]? = b.tmps[t]?) : Region.wanted o (yielded ops a.tmps) = Region.wanted o (yielded ops b.tmps) := by
  unfold Region.wanted
  cases hg : o.guard with
  | none => rfl
  | some gw =>
    obtain ⟨g, want⟩ := gw
    have hy : yielded ops a.tmps g = yielded ops b.tmps g := by
      unfold yielded
      cases ht : (ops[g]?).bind (·.dst) with
      | none => rfl
      | some t =>
        have := h t (by simp [Oper.looksAt, hg, ht])
        simp only [Option.bind_some, this]
    simp only [hy]
theorem listed_of_getD {listed : Array Bool} {j : Nat} (h : listed.getD j false = true) : listed[j]? = some true := by
  rw [Array.getD_eq_getD_getElem?] at h
  cases hj : listed[j]? with
  | none => rw [hj] at h; cases h
  | some b => rw [hj] at h; exact congrArg some h
theorem unlisted_of_getD {listed : Array Bool} {j : Nat} (h : listed.getD j true = false) : listed[j]? = some false := by
  rw [Array.getD_eq_getD_getElem?] at h
  cases hj : listed[j]? with
  | none => rw [hj] at h; cases h
  | some b => rw [hj] at h; exact congrArg some h
/-- the edges lead backwards -/
def backOk (ops : Array Oper) : Bool := (List.range ops.size).all fun k => match ops[k]? with | none => true | some o => (ahead o).all fun i => decide (i < k)
theorem ready_least {md : Region.Mode} (hmd : md = .any) {ops : Array Oper} (hb : backOk ops = true) {listed : Array Bool} (hl : listed.size = ops.size) (hr : Region.ready md ops listed = []) : ∀ j : Nat, j < ops.size → listed[j]? = some true := by
  intro j
  induction j using Nat.strongRecOn with
  | _ j ih =>
    intro hj
    have ho : ops[j]? = some ops[j] := Array.getElem?_eq_getElem hj
    cases hv : listed[j]'(by omega) with
    | true => rw [Array.getElem?_eq_getElem (by omega), hv]
    | false =>
      exfalso
      have hm : j ∈ Region.ready md ops listed := by
        rw [mem_ready]
        refine ⟨by rw [Array.getD_eq_getD_getElem?, Array.getElem?_eq_getElem (by omega), hv]; rfl, ops[j], ho, fun e he hbd => ?_⟩
        have hin : e.on ∈ ahead ops[j] := List.mem_map.2 ⟨e, List.mem_filter.2 ⟨by simpa using he, by rw [← hmd]; exact hbd⟩, rfl⟩
        have hlt : e.on < j := by
          have h1 := List.all_eq_true.1 hb j (List.mem_range.2 hj)
          simp only [ho] at h1
          exact of_decide_eq_true (List.all_eq_true.1 h1 _ hin)
        have := ih e.on hlt (by omega)
        rw [Array.getD_eq_getD_getElem?, this]; rfl
      rw [hr] at hm; cases hm
theorem count_set {listed : Array Bool} {i : Nat} (h : listed[i]? = some false) : (listed.setIfInBounds i true).toList.count false + 1 = listed.toList.count false := by
  obtain ⟨l⟩ := listed
  simp only [List.getElem?_toArray] at h
  simp only [List.setIfInBounds_toArray]
  induction l generalizing i with
  | nil => simp at h
  | cons b r ih =>
    cases i with
    | zero =>
      simp only [List.getElem?_cons_zero, Option.some.injEq] at h
      subst h
      simp
    | succ i =>
      simp only [List.getElem?_cons_succ] at h
      have := ih h
      simp only [List.set_cons_succ, List.count_cons]
      omega
theorem set_get {listed : Array Bool} {i : Nat} (hi : listed[i]? = some false) (j : Nat) : (listed.setIfInBounds i true)[j]? = if j = i then some true else listed[j]? := by
  have hlt : i < listed.size := (Array.getElem?_eq_some_iff.1 hi).1
  by_cases e : j = i
  · subst e; rw [if_pos rfl]; simp [hlt]
  · rw [if_neg e, Array.getElem?_setIfInBounds_ne (fun h => e h.symm)]
/-- the operations from n on come last, one after the other -/
def tailOk (ops : Array Oper) (n : Nat) : Bool := (List.range ops.size).all fun k => decide (k < n) || match ops[k]? with | none => true | some o => (List.range k).all fun i => (ahead o).contains i
theorem tail_ahead {n k i : Nat} {o : Oper} (h : tailOk ops n = true) (ho : ops[k]? = some o) (hk : n ≤ k) (hi : i < k) : i ∈ ahead o := by
  have hlt : k < ops.size := (Array.getElem?_eq_some_iff.1 ho).1
  have h1 := List.all_eq_true.1 h k (List.mem_range.2 hlt)
  simp only [ho, Bool.or_eq_true, decide_eq_true_eq] at h1
  have h2 := h1.resolve_left (by omega)
  have h3 := List.all_eq_true.1 h2 i (List.mem_range.2 hi)
  simpa using h3
theorem ahead_of_edge {o : Oper} {i : Nat} (h : i ∈ ahead o) : ∃ e ∈ o.after, Region.binds .any e = true ∧ e.on = i := by
  obtain ⟨e, he, rfl⟩ := List.mem_map.1 h
  obtain ⟨h1, h2⟩ := List.mem_filter.1 he
  exact ⟨e, by simpa using h1, h2, rfl⟩
theorem wpAny_tail (hb : backOk ops = true) {n : Nat} (ht : tailOk ops n = true) : ∀ (fuel m : Nat) (listed : Array Bool) (a : Act) (w : World), n ≤ m → m ≤ ops.size → ops.size - m ≤ fuel → listed.size = ops.size →
    (∀ j : Nat, j < m → listed[j]? = some true) → (∀ j : Nat, m ≤ j → j < ops.size → listed[j]? = some false) → wpList P ops Q (ops.toList.drop m) a w → wpAny P .any ops Q fuel listed a w := by
  intro fuel
  induction fuel with
  | zero =>
    intro m listed a w hn hm hf hl h1 h2 h
    have : m = ops.size := by omega
    subst this
    rw [List.drop_of_length_le (by simp)] at h
    refine ⟨?_, h⟩
    cases hr : Region.ready .any ops listed with
    | nil => rfl
    | cons x r =>
      have hx : x ∈ Region.ready .any ops listed := by rw [hr]; exact List.mem_cons_self
      obtain ⟨hu, o, ho, _⟩ := mem_ready.1 hx
      have := h1 x (Array.getElem?_eq_some_iff.1 ho).1
      rw [unlisted_of_getD hu] at this
      cases this
  | succ fuel ih =>
    intro m listed a w hn hm hf hl h1 h2 h
    by_cases hms : m = ops.size
    · subst hms
      rw [List.drop_of_length_le (by simp)] at h
      refine ⟨fun _ => h, fun x hx => ?_⟩
      obtain ⟨hu, o, ho, _⟩ := mem_ready.1 hx
      have := h1 x (Array.getElem?_eq_some_iff.1 ho).1
      rw [unlisted_of_getD hu] at this
      cases this
    · have hlt : m < ops.size := by omega
      have hom : ops[m]? = some ops[m] := Array.getElem?_eq_getElem hlt
      refine ⟨fun hr => ?_, fun k hk => ?_⟩
      · have := ready_least rfl hb hl hr m hlt
        rw [h2 m (Nat.le_refl _) hlt] at this
        cases this
      · obtain ⟨hu, o, ho, hedge⟩ := mem_ready.1 hk
        have hku := unlisted_of_getD hu
        have hklt : k < ops.size := (Array.getElem?_eq_some_iff.1 ho).1
        have hkm : m ≤ k := by
          rcases Nat.lt_or_ge k m with hx | hx
          · rw [h1 k hx] at hku; cases hku
          · exact hx
        have hk : k = m := by
          rcases Nat.lt_or_ge m k with hx | hx
          · obtain ⟨e, he, hbd, hon⟩ := ahead_of_edge (tail_ahead ht ho (by omega) hx)
            have := listed_of_getD (hedge e he hbd)
            rw [hon, h2 m (Nat.le_refl _) hlt] at this
            cases this
          · omega
        subst hk
        rw [List.drop_eq_getElem_cons (by simpa using hlt)] at h
        unfold wpList at h
        unfold wpOp
        simp only [hom]
        simp only [Array.getElem_toList] at h
        have next : ∀ a' w', wpList P ops Q (ops.toList.drop (k + 1)) a' w' → wpAny P .any ops Q fuel (listed.setIfInBounds k true) a' w' := by
          intro a' w' h'
          refine ih (k + 1) _ a' w' (by omega) hlt (by omega) (by rw [Array.size_setIfInBounds]; exact hl) ?_ ?_ h'
          · intro j hj
            rw [set_get hku]
            split
            · rfl
            · exact h1 j (by omega)
          · intro j hj hjs
            rw [set_get hku, if_neg (by omega)]
            exact h2 j (by omega) hjs
        split
        · rename_i hw
          rw [if_pos hw] at h
          exact h.imp (Oper.wp_mono next) id
        · rename_i hw
          rw [if_neg hw] at h
          exact next _ _ h
theorem wpAny_held (hb : backOk ops = true) (hap : apartB ops = true) {L : List (List Nat)} (hlo : looksOk ops L = true) {n : Nat} (hnle : n ≤ ops.size) (htl : tailOk ops n = true) {I : World → Prop} {S : World → World → Prop} {R : Nat → Value → World → Prop} {a0 : Act}
    (hsz : ∀ j t, slot ops j = some t → t < a0.tmps.size)
    (hS : ∀ j v w w', S w w' → R j v w → R j v w') (hop : ∀ (k : Nat) (o : Oper), k < n → ops[k]? = some o → Does P ops L I S R a0 k o)
    (hend : ∀ (vals : Nat → Value) (w : World), I w → (∀ j : Nat, j < n → R j (vals j) w) → wpList P ops Q (ops.toList.drop n) (putOf ops vals (List.range n) a0) w) :
    ∀ (fuel : Nat) (listed : Array Bool) (vals : Nat → Value) (a : Act) (w : World), listed.toList.count false ≤ fuel → (∀ j : Nat, n ≤ j → j < ops.size → listed[j]? = some false) → Held ops I R a0 vals listed a w → wpAny P .any ops Q fuel listed a w := by
  have slot_lt : ∀ {j t : Nat}, slot ops j = some t → j < ops.size := by
    intro j t hj
    unfold slot at hj
    cases hk : ops[j]? with
    | none => rw [hk] at hj; cases hj
    | some o => exact (Array.getElem?_eq_some_iff.1 hk).1
  have fin : ∀ (fuel : Nat) (listed : Array Bool) (vals : Nat → Value) (a : Act) (w : World), listed.toList.count false ≤ fuel → (∀ j : Nat, n ≤ j → j < ops.size → listed[j]? = some false) → Held ops I R a0 vals listed a w → (∀ j : Nat, j < n → listed[j]? = some true) → wpAny P .any ops Q fuel listed a w := by
    intro fuel listed vals a w hc hun h hall
    have e : a = putOf ops vals (List.range n) a0 := by
      have et : a.tmps = (putOf ops vals (List.range n) a0).tmps := by
        refine Array.ext_getElem? fun t => ?_
        by_cases hx : ∃ j : Nat, j < n ∧ slot ops j = some t
        · obtain ⟨j, hjn, hj⟩ := hx
          rw [h.new j t (hall j hjn) hj, putOf_mem hap vals _ _ j t (List.mem_range.2 hjn) hj (hsz j t hj)]
        · rw [h.old t (fun j hj e => ?_), putOf_other ops vals _ _ t (fun j hj e => hx ⟨j, List.mem_range.1 hj, e⟩)]
          rcases Nat.lt_or_ge j n with hjn | hjn
          · exact hx ⟨j, hjn, e⟩
          · rw [hun j hjn (slot_lt e)] at hj; cases hj
      have ed : a.defers = (putOf ops vals (List.range n) a0).defers := by rw [putOf_defers]; exact h.defers
      cases a
      generalize putOf ops vals (List.range n) a0 = b at *
      cases b
      simp_all
    have hcnt : ops.size - n ≤ fuel := by
      refine Nat.le_trans ?_ hc
      have h1 : (listed.toList.drop n).count false = ops.size - n := by
        rw [List.count_eq_length.2]
        · simp [h.len]
        · intro b hb'
          obtain ⟨i, hi, rfl⟩ := List.mem_iff_getElem.1 hb'
          simp only [List.length_drop, Array.length_toList] at hi
          have := hun (n + i) (by omega) (by rw [← h.len]; omega)
          rw [Array.getElem?_eq_getElem (by omega)] at this
          simpa using (Option.some.inj this).symm
      rw [← h1]
      exact (List.drop_sublist n _).count_le false
    exact wpAny_tail hb htl fuel n listed a w (Nat.le_refl _) hnle hcnt h.len hall hun (e ▸ hend vals w h.inv (fun j hj => h.got j (hall j hj)))
  intro fuel
  induction fuel with
  | zero =>
    intro listed vals a w hc hun h
    refine fin 0 listed vals a w hc hun h fun j hj => ?_
    have hjl : j < listed.size := by rw [h.len]; omega
    rw [Array.getElem?_eq_getElem hjl]
    have h0 : listed.toList.count false = 0 := by omega
    have := List.count_eq_zero.1 h0
    cases hv : listed[j] with
    | true => rfl
    | false => exact (this (hv ▸ (by simp))).elim
  | succ fuel ih =>
    intro listed vals a w hc hun h
    by_cases hall : ∀ j : Nat, j < n → listed[j]? = some true
    · exact fin _ listed vals a w hc hun h hall
    refine ⟨fun hr => (hall fun j hj => ready_least rfl hb h.len hr j (by omega)).elim, fun k hk => ?_⟩
    obtain ⟨hu, o, ho, hedge⟩ := mem_ready.1 hk
    have hku := unlisted_of_getD hu
    have hklt : k < ops.size := (Array.getElem?_eq_some_iff.1 ho).1
    have hkn : k < n := by
      rcases Nat.lt_or_ge k n with hx | hx
      · exact hx
      · exact (hall fun j hj => by
          obtain ⟨e, he, hbd, hon⟩ := ahead_of_edge (tail_ahead htl ho hx (show j < k by omega))
          exact hon ▸ listed_of_getD (hedge e he hbd)).elim
    have hah : ∀ i ∈ ahead o, listed[i]? = some true := by
      intro i hi
      obtain ⟨e, he, rfl⟩ := List.mem_map.1 hi
      obtain ⟨h1, h2⟩ := List.mem_filter.1 he
      exact listed_of_getD (hedge e (by simpa using h1) h2)
    have hlk := List.all_eq_true.1 hlo k (List.mem_range.2 hklt)
    simp only [ho, Bool.and_eq_true] at hlk
    obtain ⟨⟨hsel, hpre⟩, hlk⟩ := hlk
    have hpre' : ∀ i ∈ L.getD k [], i ∈ ahead o := fun i hi => by simpa using List.all_eq_true.1 hpre i hi
    have hsame : ∀ t ∈ o.looksAt ops, a.tmps[t]? = (putOf ops vals (L.getD k []) a0).tmps[t]? := by
      intro t ht
      have h1 := List.all_eq_true.1 hlk t ht
      by_cases hx : ∃ j : Nat, listed[j]? = some true ∧ slot ops j = some t
      · obtain ⟨j, hj, hjt⟩ := hx
        have hjlt : j < ops.size := by rw [← h.len]; exact (Array.getElem?_eq_some_iff.1 hj).1
        have h2 := List.all_eq_true.1 h1 j (List.mem_range.2 hjlt)
        have hoj : ops[j]? = some ops[j] := Array.getElem?_eq_getElem hjlt
        simp only [hoj, Bool.or_eq_true, bne_iff_ne, ne_eq, List.contains_eq_mem, decide_eq_true_eq] at h2
        have hjin : j ∈ L.getD k [] := by
          rcases h2 with (h2 | h2) | h2
          · exact (h2 hjt).elim
          · exact h2
          · have := h.closed j _ hoj hj k h2
            rw [hku] at this; cases this
        rw [h.new j t hj hjt, putOf_mem hap vals _ _ j t hjin hjt (hsz j t hjt)]
      · rw [h.old t (fun j hj e => hx ⟨j, hj, e⟩), putOf_other ops vals _ _ t (fun j hj e => hx ⟨j, hah j (hpre' j hj), e⟩)]
    have hd := hop k o hkn ho vals w h.inv (fun j hj => h.got j (hah j (hpre' j hj)))
    have hdst : slot ops k = o.dst := by unfold slot; rw [ho]; rfl
    refine wpOp_mono ?_ (wpOp_of_list (Q := Q) (a := a) ho ?_ ?_ (exec_congr (fun cs c e => ?_) hsame) (wanted_congr hsame) hd)
    · rintro a' w' ⟨v, rfl, hI, hSw, hR⟩
      refine ih (listed.setIfInBounds k true) (fun j => if j = k then (if o.dst.isSome then v else undef) else vals j) _ w' (by have := count_set hku; omega) (fun j hj hjs => by rw [set_get hku, if_neg (by omega)]; exact hun j hj hjs) ?_
      refine ⟨hI, ?_, ?_, ?_, ?_, ?_, ?_, ?_⟩
      · rw [Array.size_setIfInBounds]; exact h.len
      · rw [← h.defers]; cases o.dst <;> rfl
      · rw [← h.size]; cases o.dst <;> simp [Act.put]
      · intro j oj hoj hj i hi
        rw [set_get hku] at hj ⊢
        by_cases ei : i = k
        · rw [if_pos ei]
        · rw [if_neg ei]
          by_cases ej : j = k
          · subst ej
            rw [ho] at hoj; cases hoj
            exact hah i hi
          · rw [if_neg ej] at hj
            exact h.closed j oj hoj hj i hi
      · intro t ht
        have hne : o.dst ≠ some t := by rw [← hdst]; exact ht k (by rw [set_get hku, if_pos rfl])
        rw [put_get_ne hne]
        refine h.old t fun j hj => ht j ?_
        rw [set_get hku]; split <;> first | rfl | exact hj
      · intro j t hj hjt
        rw [set_get hku] at hj
        by_cases ej : j = k
        · subst ej
          rw [hdst] at hjt
          rw [hjt, put_get_eq (by rw [h.size]; exact hsz j t (by rw [hdst]; exact hjt)), if_pos rfl]
          simp
        · rw [if_neg ej] at hj ⊢
          have hne : o.dst ≠ some t := by
            intro e
            exact ej (apart_inj hap hjt (by rw [hdst]; exact e))
          rw [put_get_ne hne]
          exact h.new j t hj hjt
      · intro j hj
        rw [set_get hku] at hj
        by_cases ej : j = k
        · subst ej
          rw [if_pos rfl]
          unfold res at hR
          cases hod : o.dst <;> rw [hod] at hR <;> exact hR
        · rw [if_neg ej] at hj ⊢
          exact hS j _ w w' hSw (h.got j hj)
    · intro hnone v u w'
      unfold res
      rw [hnone]
      exact id
    · intro t ht
      rw [putOf_size]
      exact hsz k t (by rw [hdst]; exact ht)
    · rw [e] at hsel; cases hsel
/-- all the checks on a region's text: n operations in any order, N slots; D: the slots that are written; L: what each operation builds on -/
def regOk (ops : Array Oper) (D : List (Option Tmp)) (L : List (List Nat)) (n N : Nat) : Bool := decide (n ≤ ops.size) && tailOk ops n && backOk ops && apartB ops && looksOk ops L &&
  ((List.range ops.size).all fun j => match slot ops j with | some t => decide (t < N) | none => true) && ((List.range ops.size).all fun j => slot ops j == D.getD j none) &&
  (List.range ops.size).all fun k => match (ops[k]?).bind (·.guard) with | none => true | some (g, _) => (L.getD k []).contains g && (D.getD g none).isSome
/-- a frame in which some operations have written: the slots by a list -/
def putD (D : List (Option Tmp)) (vals : Nat → Value) : List Nat → Act → Act
  | [], a => a
  | j :: r, a => putD D vals r (a.put (D.getD j none) (vals j))
theorem putD_eq {D : List (Option Tmp)} (h : ∀ j, j < ops.size → slot ops j = D.getD j none) (vals : Nat → Value) : ∀ (l : List Nat) (a : Act), (∀ j ∈ l, j < ops.size) → putOf ops vals l a = putD D vals l a := by
  intro l
  induction l with
  | nil => intro a _; rfl
  | cons j r ih =>
    intro a hl
    rw [putOf, putD, h j (hl j List.mem_cons_self), ih _ (fun k hk => hl k (List.mem_cons_of_mem _ hk))]
/-- what is owed for one operation whose guard says yes -/
def Goes (P : Program) (D : List (Option Tmp)) (ps : List Nat) (T : World → Value → World → Prop) (a0 : Act) (o : Oper) (vals : Nat → Value) (w : World) : Prop :=
  wpList P #[] (Post (putD D vals ps a0) o.dst (T w)) [{ o with guard := none }] (putD D vals ps a0) w
/-- what is owed for one operation -/
def Owes (P : Program) (D : List (Option Tmp)) (ps : List Nat) (I : World → Prop) (S : World → World → Prop) (R : Nat → Value → World → Prop) (a0 : Act) (k : Nat) (o : Oper) : Prop :=
  ∀ (vals : Nat → Value) (w : World), I w → (∀ j ∈ ps, R j (vals j) w) → match o.guard with
    | none => Goes P D ps (fun w v w' => I w' ∧ S w w' ∧ res o (R k) v w') a0 o vals w
    | some (g, want) => (vals g = .bool want → Goes P D ps (fun w v w' => I w' ∧ S w w' ∧ res o (R k) v w') a0 o vals w) ∧ (vals g ≠ .bool want → S w w ∧ R k undef w)
/-- what is owed for the operations, one after the other -/
def OwesAll (P : Program) (D : List (Option Tmp)) (L : List (List Nat)) (I : World → Prop) (S : World → World → Prop) (R : Nat → Value → World → Prop) (a0 : Act) : Nat → Nat → List Oper → Prop
  | _, 0, _ => True
  | _, _ + 1, [] => True
  | k, n + 1, o :: r => Owes P D (L.getD k []) I S R a0 k o ∧ OwesAll P D L I S R a0 (k + 1) n r
theorem owes_of_all {D : List (Option Tmp)} {L : List (List Nat)} {I : World → Prop} {S : World → World → Prop} {R : Nat → Value → World → Prop} {a0 : Act} : ∀ (l : List Oper) (m n : Nat), OwesAll P D L I S R a0 m n l → ∀ (k : Nat) (o : Oper), k < n → l[k]? = some o → Owes P D (L.getD (m + k) []) I S R a0 (m + k) o := by
  intro l
  induction l with
  | nil => intro m n _ k o _ h; simp at h
  | cons x r ih =>
    intro m n h k o hk hx
    cases n with
    | zero => omega
    | succ n =>
      obtain ⟨h1, h2⟩ := h
      cases k with
      | zero => simp only [List.getElem?_cons_zero, Option.some.injEq] at hx; subst hx; exact h1
      | succ k =>
        simp only [List.getElem?_cons_succ] at hx
        have := ih (m + 1) n h2 k o (by omega) hx
        rwa [show m + 1 + k = m + (k + 1) by omega] at this
theorem wpList_unguarded {o : Oper} {a1 : Act} {w : World} {T : Value → World → Prop} (h : wpList P #[] (Post a1 o.dst T) [{ o with guard := none }] a1 w) : o.wp P a1 w (wpList P ops (Post a1 o.dst T) []) (Post a1 o.dst T) := by
  unfold wpList at h
  rw [if_pos (by simp [Region.wanted])] at h
  rcases h with h | ⟨_, h⟩
  · exact h
  · exact (not_lets h).elim
theorem does_of_owes {D : List (Option Tmp)} {L : List (List Nat)} {I : World → Prop} {S : World → World → Prop} {R : Nat → Value → World → Prop} {a0 : Act} {k : Nat} {o : Oper}
    (hD : ∀ j, j < ops.size → slot ops j = D.getD j none) (hL : ∀ j ∈ L.getD k [], j < ops.size) (hap : apartB ops = true) (hsz : ∀ j t, slot ops j = some t → t < a0.tmps.size)
    (hg : ∀ g want, o.guard = some (g, want) → g ∈ L.getD k [] ∧ (slot ops g).isSome = true) (h : Owes P D (L.getD k []) I S R a0 k o) : Does P ops L I S R a0 k o := by
  intro vals w hI hR
  have h := h vals w hI hR
  unfold Goes at h
  rw [← putD_eq hD vals _ _ hL] at h
  generalize he : putOf ops vals (L.getD k []) a0 = a1 at *
  unfold wpList
  cases hgd : o.guard with
  | none =>
    rw [hgd] at h
    rw [if_pos (by simp [Region.wanted, hgd])]
    exact .inl (wpList_unguarded h)
  | some gw =>
    obtain ⟨g, want⟩ := gw
    rw [hgd] at h
    obtain ⟨h1, h2⟩ := h
    obtain ⟨hgl, hgs⟩ := hg g want hgd
    obtain ⟨t, ht⟩ := Option.isSome_iff_exists.1 hgs
    have hv : a1.tmps[t]? = some (vals g) := by rw [← he]; exact putOf_mem hap vals _ _ g t hgl ht (hsz g t ht)
    have hy : yielded ops a1.tmps g = match vals g with | .bool b => some b | _ => none := by
      unfold yielded
      have : (ops[g]?).bind (·.dst) = some t := ht
      rw [this, Option.bind_some, hv]
      cases vals g <;> rfl
    by_cases hb : vals g = .bool want
    · rw [if_pos (by simp [Region.wanted, hgd, hy, hb])]
      exact .inl (wpList_unguarded (h1 hb))
    · rw [if_neg]
      · obtain ⟨hS, hR⟩ := h2 hb
        refine ⟨undef, rfl, hI, hS, ?_⟩
        unfold res
        cases o.dst <;> exact hR
      · simp only [Region.wanted, hgd, hy]
        cases hx : vals g <;> simp
        rename_i b
        rw [hx] at hb
        intro e
        exact hb (by rw [e])
/-- A REGION THAT DRAWS ITS ORDER: its first n operations come up in any order that the edges allow, the others behind them. Each operation is walked once. I: what holds throughout; S: what a step may change; R k: what the result of operation k is. -/
theorem region_any {id : Nat} {l : List Oper} {a0 : Act} {w0 : World} (n : Nat) (D : List (Option Tmp)) (L : List (List Nat)) (I : World → Prop) (S : World → World → Prop) (R : Nat → Value → World → Prop) (hm : P.follows .mixedOrders = true)
    (hok : regOk l.toArray D L n a0.tmps.size = true) (h0 : I w0.drew)
    (hS : ∀ j v w w', S w w' → R j v w → R j v w')
    (hop : OwesAll P D L I S R a0 0 n l)
    (hend : ∀ (vals : Nat → Value) (w : World), I w → (∀ j : Nat, j < n → R j (vals j) w) → wpList P l.toArray Q (l.drop n) (putD D vals (List.range n) a0) w) :
    (Code.region id l.toArray true).wp P Q a0 w0 := by
  simp only [regOk, Bool.and_eq_true] at hok
  obtain ⟨⟨⟨⟨⟨⟨⟨hnle, htl⟩, hb⟩, hap⟩, hlo⟩, hsz⟩, hD⟩, hgd⟩ := hok
  have hnle' := of_decide_eq_true hnle
  have slot_lt : ∀ {j t : Nat}, slot l.toArray j = some t → j < l.toArray.size := by
    intro j t hj
    unfold slot at hj
    cases hk : l.toArray[j]? with
    | none => rw [hk] at hj; cases hj
    | some o => exact (Array.getElem?_eq_some_iff.1 hk).1
  have hsz' : ∀ j t, slot l.toArray j = some t → t < a0.tmps.size := by
    intro j t hj
    have h1 := List.all_eq_true.1 hsz j (List.mem_range.2 (slot_lt hj))
    simp only [hj] at h1
    exact of_decide_eq_true h1
  have hD' : ∀ j, j < l.toArray.size → slot l.toArray j = D.getD j none := fun j hj => by simpa using List.all_eq_true.1 hD j (List.mem_range.2 hj)
  refine wp_region_any hm ?_
  refine wpAny_held hb hap hlo hnle' htl (I := I) (S := S) (R := R) (a0 := a0) hsz' hS (fun k o hk ho => ?_) (fun vals w hI hR => ?_) _ _ (fun _ => undef) a0 _ ?_ ?_ ?_
  · have hklt : k < l.toArray.size := (Array.getElem?_eq_some_iff.1 ho).1
    have h1 := owes_of_all l 0 n hop k o hk (by simpa using ho)
    rw [Nat.zero_add] at h1
    have hlk := List.all_eq_true.1 hlo k (List.mem_range.2 hklt)
    simp only [ho, Bool.and_eq_true] at hlk
    refine does_of_owes hD' (fun j hj => ?_) hap hsz' (fun g want hg => ?_) h1
    · have h2 : j ∈ ahead o := by simpa using List.all_eq_true.1 hlk.1.2 j hj
      have h3 := List.all_eq_true.1 hb k (List.mem_range.2 hklt)
      simp only [ho] at h3
      have := of_decide_eq_true (List.all_eq_true.1 h3 j h2)
      omega
    · have h2 := List.all_eq_true.1 hgd k (List.mem_range.2 hklt)
      simp only [ho, Option.bind_some, hg, Bool.and_eq_true] at h2
      have hgl : g ∈ L.getD k [] := by simpa using h2.1
      refine ⟨hgl, ?_⟩
      have h4 : g ∈ ahead o := by simpa using List.all_eq_true.1 hlk.1.2 g hgl
      have h3 := List.all_eq_true.1 hb k (List.mem_range.2 hklt)
      simp only [ho] at h3
      have := of_decide_eq_true (List.all_eq_true.1 h3 g h4)
      rw [hD' g (by omega)]; exact h2.2
  · rw [putD_eq hD' vals _ _ (fun j hj => by have := List.mem_range.1 hj; omega)]
    exact hend vals w hI hR
  · simp
  · intro j _ hj
    rw [Array.getElem?_replicate, if_pos hj]
  · refine ⟨h0, by simp, rfl, rfl, ?_, fun _ _ => rfl, ?_, ?_⟩
    · intro j o _ hj
      rw [Array.getElem?_replicate] at hj
      split at hj <;> simp at hj
    · intro j t hj
      rw [Array.getElem?_replicate] at hj
      split at hj <;> simp at hj
    · intro j hj
      rw [Array.getElem?_replicate] at hj
      split at hj <;> simp at hj
/-- a list of predicates, each of which outlives a step -/
def Stab (S : World → World → Prop) : List (Value → World → Prop) → Prop
  | [] => True
  | r :: t => (∀ v w w', S w w' → r v w → r v w') ∧ Stab S t
def at_ (RL : List (Value → World → Prop)) (j : Nat) (v : Value) (w : World) : Prop := RL.getD j (fun _ _ => True) v w
theorem Stab.at {S : World → World → Prop} : ∀ {RL : List (Value → World → Prop)}, Stab S RL → ∀ j v w w', S w w' → at_ RL j v w → at_ RL j v w' := by
  intro RL
  induction RL with
  | nil => intro _ j v w w' _ _; exact trivial
  | cons r t ih =>
    rintro ⟨h1, h2⟩ j v w w' hS h
    cases j with
    | zero => exact h1 v w w' hS h
    | succ j => exact ih h2 j v w w' hS h
theorem region_l {id : Nat} {l : List Oper} {a0 : Act} {w0 : World} (n : Nat) (D : List (Option Tmp)) (L : List (List Nat)) (I : World → Prop) (S : World → World → Prop) (RL : List (Value → World → Prop)) (hm : P.follows .mixedOrders = true)
    (hok : regOk l.toArray D L n a0.tmps.size = true) (h0 : I w0.drew) (hS : Stab S RL)
    (hop : OwesAll P D L I S (at_ RL) a0 0 n l)
    (hend : ∀ (vals : Nat → Value) (w : World), I w → (∀ j : Nat, j < n → at_ RL j (vals j) w) → wpList P l.toArray Q (l.drop n) (putD D vals (List.range n) a0) w) :
    (Code.region id l.toArray true).wp P Q a0 w0 := region_any n D L I S (at_ RL) hm hok h0 hS.at hop hend
/-- what the slots hold that come in -/
def Lives (a : Act) : List (Nat × Value) → Prop
  | [] => True
  | x :: r => a.eval (.tmp x.1) = x.2 ∧ Lives a r
theorem Lives.at {a : Act} : ∀ {l : List (Nat × Value)}, Lives a l → ∀ (i : Nat) (x : Nat × Value), l[i]? = some x → a.eval (.tmp x.1) = x.2 := by
  intro l
  induction l with
  | nil => intro _ i x h; simp at h
  | cons y r ih =>
    rintro ⟨h1, h2⟩ i x h
    cases i with
    | zero => simp only [List.getElem?_cons_zero, Option.some.injEq] at h; subst h; exact h1
    | succ i => simp only [List.getElem?_cons_succ] at h; exact ih h2 i x h
theorem eval_of_get {a b : Act} {t : Nat} (h : a.tmps[t]? = b.tmps[t]?) : a.eval (.tmp t) = b.eval (.tmp t) := tmp_congr h
theorem eval_old {D : List (Option Tmp)} {vals : Nat → Value} {t : Nat} : ∀ {ps : List Nat} {a0 : Act}, (ps.all fun j => D.getD j none != some t) = true → (putD D vals ps a0).eval (.tmp t) = a0.eval (.tmp t) := by
  intro ps
  induction ps with
  | nil => intro a0 _; rfl
  | cons j r ih =>
    intro a0 h
    simp only [List.all_cons, Bool.and_eq_true, bne_iff_ne, ne_eq] at h
    rw [putD, ih h.2]
    exact eval_of_get (put_get_ne h.1)
theorem putD_size (D : List (Option Tmp)) (vals : Nat → Value) (l : List Nat) (a : Act) : (putD D vals l a).tmps.size = a.tmps.size := by
  induction l generalizing a with
  | nil => rfl
  | cons j r ih => rw [putD, ih]; cases D.getD j none <;> simp [Act.put]
theorem eval_new {D : List (Option Tmp)} {vals : Nat → Value} {t : Nat} (j : Nat) (hD : D.getD j none = some t) : ∀ {ps : List Nat} {a0 : Act}, j ∈ ps → (ps.all fun i => i == j || D.getD i none != some t) = true → t < a0.tmps.size →
    (putD D vals ps a0).eval (.tmp t) = vals j := by
  intro ps
  induction ps with
  | nil => intro a0 h; cases h
  | cons i r ih =>
    intro a0 hj h hs
    simp only [List.all_cons, Bool.and_eq_true] at h
    rw [putD]
    by_cases hr : j ∈ r
    · exact ih hr h.2 (by cases D.getD i none <;> simp [Act.put, hs])
    · obtain rfl : j = i := (List.mem_cons.1 hj).resolve_right hr
      have hno : (r.all fun i => D.getD i none != some t) = true := by
        rw [List.all_eq_true] at h ⊢
        intro k hk
        have := h.2 k hk
        simp only [Bool.or_eq_true, beq_iff_eq] at this
        rcases this with e | e
        · exact (hr (e ▸ hk)).elim
        · exact e
      rw [eval_old hno, hD]
      simp only [Act.eval, Array.getD_eq_getD_getElem?, put_get_eq hs, Option.getD_some]
theorem goes_val {o : Oper} {a1 : Act} {w w' : World} {T : Value → World → Prop} (v : Value) (hg : o.guard = none) (h : (execOp a1.eval o).run P w = .ok (.value v) w') (hT : T v w') : wpList P #[] (Post a1 o.dst T) [o] a1 w := by
  unfold wpList
  rw [if_pos (by simp [Region.wanted, hg])]
  refine .inl ?_
  unfold Oper.wp
  rw [h]
  exact ⟨v, rfl, hT⟩
theorem goes_skip {o : Oper} {a1 : Act} {w w' : World} {T : Value → World → Prop} (hg : o.guard = none) (h : (execOp a1.eval o).run P w = .ok .skip w') (hT : T undef w') : wpList P #[] (Post a1 o.dst T) [o] a1 w := by
  unfold wpList
  rw [if_pos (by simp [Region.wanted, hg])]
  refine .inl ?_
  unfold Oper.wp
  rw [h]
  exact ⟨undef, rfl, hT⟩
theorem goes_call {o : Oper} {a1 : Act} {w : World} {T : Value → World → Prop} (f : FuncId) (args : Array Value) (w' : World) (hg : o.guard = none) (h : (execOp a1.eval o).run P w = .ok (.enter f args) w')
    (hT : Calls P f args w' fun e w'' => ∃ v, e = .returned v ∧ T v w'') : wpList P #[] (Post a1 o.dst T) [o] a1 w := by
  unfold wpList
  rw [if_pos (by simp [Region.wanted, hg])]
  refine .inl ?_
  unfold Oper.wp
  rw [h]
  refine Calls.mono hT fun e w'' he => ?_
  obtain ⟨v, rfl, ht⟩ := he
  exact ⟨v, rfl, ht⟩
/-- the same rule, each operation over a frame of which only the slots that come in are known -/
theorem region_f {id : Nat} {l : List Oper} {a0 : Act} {w0 : World} (n N : Nat) (D : List (Option Tmp)) (L : List (List Nat)) (LV : List (Nat × Value)) (I : World → Prop) (S : World → World → Prop) (RL : List (Value → World → Prop)) (hm : P.follows .mixedOrders = true)
    (hok : regOk l.toArray D L n N = true) (hN : a0.tmps.size = N) (hLV : Lives a0 LV) (h0 : I w0.drew) (hS : Stab S RL)
    (hop : ∀ b0 : Act, b0.tmps.size = N → Lives b0 LV → OwesAll P D L I S (at_ RL) b0 0 n l)
    (hend : ∀ (vals : Nat → Value) (w : World), I w → (∀ j : Nat, j < n → at_ RL j (vals j) w) → wpList P l.toArray Q (l.drop n) (putD D vals (List.range n) a0) w) :
    (Code.region id l.toArray true).wp P Q a0 w0 := region_l n D L I S RL hm (hN ▸ hok) h0 hS (hop a0 hN hLV) hend
end Go.Proofs.YtcdjilnlmihnhaaDoor.Roll

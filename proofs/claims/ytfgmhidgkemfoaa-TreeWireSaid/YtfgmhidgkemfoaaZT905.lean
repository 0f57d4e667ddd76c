/-
  Texts O2, O6, OJ, O3, O7, O8, O9, OB, OC, OD, OA, OE, OH, OK, O4, O5, OF, one behind the other.
-/
import Derived.WalkKit
import Derived.WalkSpells
import Derived.WalkLawsBesides
import Derived.Laws.AppendOwn
import Derived.Laws.OwnMore
import Derived.Deep.AppendSrc
import Derived.Deep.MidRow
import Derived.Lib.Hide
import GoSem.Claim
import Derived.Lib.Bytealg
import Derived.Laws.Externs
import Derived.Deep.QuietTactic
import Derived.BigQuiet
import Derived.Deep.CutBlock
import Derived.OwnWalk
import Derived.Deep.DrawnRows
import Derived.Deep.CutRange
import Derived.Deep.LoopGhost
import Derived.Laws.Tables
import Derived.Laws.ResultCell
import Derived.Deep.WholeRow
import Derived.Lib.Strings
import Derived.Shelf.Spec.SlicesInsert
import Derived.Lib.AppendZerosOnto
import Derived.Lib.Overlaps
import Derived.Laws.CopyRow
import Derived.Deep.RegionLaw
import Derived.StillTailTactics
import Derived.RangeFuncNested
import Derived.RangeFuncBound
import Derived.RangeFuncCalls
import Derived.RangeFuncLeaves
import Derived.Shelf.Abstract
import Derived.Shelf.RegionOpen
import Derived.OwnWalkIn
import Derived.TacticsInMore
import Derived.LoopNIn
import Derived.LoopIn
import Derived.RangeFuncBox
import Derived.Orders
import Derived.Tactics
import Derived.Test.YtfgmhidgkemfoaaRows
import Derived.Test.YtfgmhidgkemfoaaZT904
namespace Go.Proofs.Ytfgmhidgkemfoaa
open Go.RowKit Go.Shelf
set_option linter.unusedSimpArgs false
set_option linter.unusedVariables false
attribute [local go_sem] Oper.semAt_some
attribute [local go_sem ↓] exec_loadPair exec_storePair exec_at_zeroP exec_at_succP Go.wp_at_zero Go.wp_at_succ
attribute [local go_sem] run_storePair
theorem less_cmp : ∀ a b : List UInt8, Op.bytesLess a b = decide (Lib.compareBytes a b < 0)
  | [], [] => by simp [Op.bytesLess, Lib.compareBytes]
  | [], _ :: _ => by simp [Op.bytesLess, Lib.compareBytes]
  | _ :: _, [] => by simp [Op.bytesLess, Lib.compareBytes]
  | x :: a, y :: b => by
    have ih := less_cmp a b
    unfold Op.bytesLess Lib.compareBytes
    by_cases h : x < y
    · simp [h]
    · by_cases h2 : y < x
      · have hne : x ≠ y := fun e => h (e ▸ h2)
        simp [h, h2, hne]
      · have hxy : x = y := UInt8.le_antisymm (UInt8.not_lt.1 h2) (UInt8.not_lt.1 h)
        subst hxy
        simp only [if_neg h]
        simpa using ih
theorem less_cmpK (a b : ByteArray) : Op.bytesLess a.toList b.toList = decide (cmpK a b < 0) := by
  rw [less_cmp, ByteArray.toList_eq, ByteArray.toList_eq]
  rfl
theorem emp_iff (u : ByteArray) : u.toList.isEmpty = decide (u = emptyS) := by
  rw [ByteArray.toList_eq]
  obtain ⟨⟨l⟩⟩ := u
  cases l with
  | nil => rfl
  | cons a l => simp [emptyS]
/-- the keys before a key, or all of them -/
def befK (u : ByteArray) (p : KV) : Bool := u = emptyS || decide (cmpK p.k u < 0)
/-- the pairs of a range -/
def rngL (f u : ByteArray) (l : List KV) : List KV := (geL f l).takeWhile (befK u)
theorem tw_all {α : Type} (P : α → Bool) : ∀ l : List α, (∀ y ∈ l, P y = true) → l.takeWhile P = l
  | [], _ => rfl
  | x :: l, h => by rw [List.takeWhile_cons_of_pos (h x (List.mem_cons_self ..)), tw_all P l (fun y hy => h y (List.mem_cons_of_mem _ hy))]
theorem tw_stop {α : Type} (P : α → Bool) (pre rest : List α) (x : α) (h : ∀ y ∈ pre, P y = true) (hx : P x = false) : (pre ++ [x] ++ rest).takeWhile P = pre := by
  rw [List.append_assoc, List.takeWhile_append_of_pos h, List.cons_append, List.takeWhile_cons_of_neg (by simp [hx]), List.append_nil]
theorem rng_info : (Try.prog.info? 65).map (fun i => (i.zero, i.size, i.bytes)) = some (some (.agg #[.string ⟨#[]⟩, .string ⟨#[]⟩]), 2, 32) := by kernel_rfl
theorem Itr.of {w0 w : World} {g : Nat} {t : Option BT} (h : Tr w0 g t) (hb : Below w0.heap.size w0 w) (from_ : ByteArray) : ∃ v, Itr w0.heap.size ((w.alloc (.cells #[.pointer (some ⟨g, 0, none⟩)] 24)).alloc (.cells #[.string from_] 9)) (w.heap.size + 1) w.heap.size g v t from_ := by
  obtain ⟨v, h1, h2⟩ := h
  have hb2 : Below w.heap.size w ((w.alloc (.cells #[.pointer (some ⟨g, 0, none⟩)] 24)).alloc (.cells #[.string from_] 9)) := ((Below.refl _ w).alloc (Nat.le_refl _) _).alloc (by simp) _
  have hg := (Array.getElem?_eq_some_iff.1 h1).1
  have hb3 := hb.trans (hb2.mono hb.size)
  refine ⟨v, ?_, (Below.heap_alloc _ _ _ (by simp)).trans (World.alloc_heap_new w _), hg, (hb3.block g hg).trans h1, ?_⟩
  · have := World.alloc_heap_new (w.alloc (.cells #[.pointer (some ⟨g, 0, none⟩)] 24)) (.cells #[.string from_] 9)
    rwa [World.size_alloc] at this
  · cases t with
    | none => exact h2
    | some T =>
      obtain ⟨g', rfl, hn⟩ := h2
      obtain ⟨rfl, hd⟩ := hn
      exact ⟨rfl, (hd.in.dom (fun b h => h.2)).under hb3⟩
theorem not_row {W : World} {b : Nat} {cs : Array Value} {t e : TypeId} (h : W.heap[b]? = some (.cells cs t (0, 0))) (hte : t ≠ e) {base size k : Nat} {v : Value} {xs : List Value} (hr : W.ownsRow base e size v k xs) : some b ≠ v.ownBlock := by
  rcases hr.2 with ⟨rfl, _⟩ | ⟨g, cap, cur, rfl, _, hgb, _⟩
  · simp [Value.ownBlock]
  · intro e'
    obtain rfl : b = g := by simpa [Value.ownBlock] using e'
    have := h.symm.trans hgb
    simp at this
    exact hte this.2
theorem KP.appended {W w1 : World} {n₀ B k : Nat} {te : TypeId} {size : Nat} {tb : TypeId} {v v' : Value} {xs : List Value} {tmp : Obj} (hv : Boxed W B tb v) (hrow : W.ownsRow n₀ te size v k xs) (hgrow : (W.alloc tmp).grownBy w1 v.ownBlock)
    (h1 : tb ≠ 9 ∧ tb ≠ 24 ∧ tb ≠ 124 ∧ tb ≠ 125) (h2 : te ≠ 9 ∧ te ≠ 24 ∧ te ≠ 124 ∧ te ≠ 125)
    (hb : Below n₀ W (w1.setCell ⟨B, 0, none⟩ v')) : KP n₀ W (w1.setCell ⟨B, 0, none⟩ v') := by
  refine ⟨hb, fun b cs t ht hh => ?_⟩
  have hlt := (Array.getElem?_eq_some_iff.1 hh).1
  have hte : t ≠ te := by rintro rfl; rcases ht with h | h | h | h <;> simp_all
  have htb : t ≠ tb := by rintro rfl; rcases ht with h | h | h | h <;> simp_all
  have hbB : b ≠ B := by
    rintro rfl
    have := hh.symm.trans hv
    simp at this
    exact htb this.2
  refine (Below.heap_setCell _ _ _ b hbB).trans ((hgrow.block b (by rw [World.size_alloc]; omega) (not_row hh hte hrow)).trans ((Below.heap_alloc _ _ _ hlt).trans hh))
/-- what a round of Range finds -/
def RI (w : World) (m0 : Nat) (until_ : ByteArray) (pre : List KV) (W : World) : Prop :=
  ((∃ sl, Boxed W (m0 + 1) 26 sl ∧ W.ownsRow m0 65 2 sl pre.length (pcells pre) ∧ True) ∧ Boxed W m0 9 (.string until_)) ∧ (Below m0 w W ∧ ∀ p ∈ pre, befK until_ p = true)
theorem RI.own {w : World} {m0 B : Nat} {until_ : ByteArray} (hm : m0 ≤ w.heap.size) (hB : m0 ≤ B) : OwnFrom B (RI w m0 until_) :=
  OwnFrom.and (OwnFrom.and (Own.from (holdsRow_own m0 (m0 + 1) 26 65 2 (fun pre : List KV => pre.length) (fun pre => pcells pre) (fun _ _ => True)) _) (Own.from (boxed_own _ _ (fun _ => .string until_)) _)) (OwnFrom.and (ownFrom_below hm hB) (ownFrom_pure B (fun pre => ∀ p ∈ pre, befK until_ p = true)))
theorem two_new (W : World) (a b : Value) (t : TypeId) : ∀ j u, ([a, b] : List Value)[j]? = some u → (W.alloc (.cells #[a, b] t)).cell? ((⟨W.heap.size, 0, none⟩ : Addr).add j) = some u := by
  intro j u h
  rcases j with _ | _ | j
  · obtain rfl : a = u := by simpa using h
    exact cell_of_row (W.alloc (.cells #[a, b] t)) W.heap.size 0 #[a, b] _ _ (World.alloc_heap_new W _)
  · obtain rfl : b = u := by simpa using h
    exact cell_of_row (W.alloc (.cells #[a, b] t)) W.heap.size 1 #[a, b] _ _ (World.alloc_heap_new W _)
  · simp at h
set_option maxRecDepth 100000 in
set_option maxHeartbeats 4000000 in
theorem range_any {w : World} {g : Nat} {t : Option BT} {H : Nat} (h : TT w g t H) (from_ until_ : ByteArray) (hlen : (treeL t).length ≤ 1000000000) :
    Calls Try.prog 29 #[.pointer (some ⟨g, 0, none⟩), .string from_, .string until_] w fun e W' => ∃ v, e = .returned v ∧ W'.ownsRow w.heap.size 65 2 v (rngL from_ until_ (treeL t)).length (pcells (rngL from_ until_ (treeL t))) ∧ Below w.heap.size w W' := by
  refine (callsIn_wide (n := 7)).1 ?_
  obtain ⟨F, hF⟩ : ∃ F, F = Fence.wide := ⟨_, rfl⟩
  rw [← hF]
  have h29 : F.fn 29 := by rw [hF]; trivial
  have h55 : F.fn 55 := by rw [hF]; trivial
  have h76 : F.fn 76 := by rw [hF]; trivial
  have hro : F.round = none := by rw [hF]; rfl
  have hdd : ∀ k : Nat, (F.depth.isSome = true → 1 ≤ k) := fun k h => by rw [hF] at h; cases h
  have HW : Hid (∀ {m : Nat} {f : FuncId} {args : Array Value} {u : World} {R : Ending → World → Prop}, Calls Try.prog f args u R → CallsIn F m Try.prog f args u R) := Lib.hid (fun h => by rw [hF]; exact callsIn_wide.2 h)
  have HF := Lib.hid hF
  have HT := Lib.hid h
  have HL := Lib.hid hlen
  clear hF h hlen
  obtain ⟨i0, hi, hz0, hz1, hz2⟩ := info_parts rng_info
  refine callsIn_of_wp_marks Try.func29 rfl h29 ?_ hro
  simp only [Try.ntmps29, List.size_toArray, List.length_cons, List.length_nil, Nat.reduceAdd, Nat.reduceSub, Array.replicate_succ, Array.replicate_zero, List.push_toArray, List.append_toArray, List.nil_append, List.cons_append]
  gi_wp2_with ((try refine ⟨hdd _, ?_⟩); gi_at_call 55; refine (HW.out (pairs_any _)).mono ?_; rintro e w' ⟨rfl, rfl⟩)
  have bU := ((Boxed.new w 9 (.string until_)).alloc (.cells #[.slice none 0 0] 26))
  have bS := Boxed.new (w.alloc (.cells #[.string until_] 9)) 26 (.slice none 0 0)
  rw [World.size_alloc] at bS
  have hB1 : Below w.heap.size w ((w.alloc (.cells #[.string until_] 9)).alloc (.cells #[.slice none 0 0] 26)) := ((Below.refl _ w).alloc (Nat.le_refl _) _).alloc (by simp) _
  have hs1 : ((w.alloc (.cells #[.string until_] 9)).alloc (.cells #[.slice none 0 0] 26)).heap.size = w.heap.size + 2 := by simp
  obtain ⟨W1, hW1⟩ : ∃ W1, W1 = ((w.alloc (.cells #[.string until_] 9)).alloc (.cells #[.slice none 0 0] 26)) := ⟨_, rfl⟩
  rw [← hW1] at bU bS hB1 hs1 ⊢
  clear hW1
  obtain ⟨v, hit⟩ := Itr.of HT.out.tr hB1 from_
  rw [hs1] at hit
  have bU := (bU.alloc (.cells #[.pointer (some ⟨g, 0, none⟩)] 24)).alloc (.cells #[.string from_] 9)
  have bS := (bS.alloc (.cells #[.pointer (some ⟨g, 0, none⟩)] 24)).alloc (.cells #[.string from_] 9)
  have hB0 := (hB1.alloc (by omega) (.cells #[.pointer (some ⟨g, 0, none⟩)] 24)).alloc (by simp; omega) (.cells #[.string from_] 9)
  have hs0 : ((W1.alloc (.cells #[.pointer (some ⟨g, 0, none⟩)] 24)).alloc (.cells #[.string from_] 9)).heap.size = w.heap.size + 4 := by simp; omega
  obtain ⟨W0, hW0⟩ : ∃ W0, W0 = ((W1.alloc (.cells #[.pointer (some ⟨g, 0, none⟩)] 24)).alloc (.cells #[.string from_] 9)) := ⟨_, rfl⟩
  rw [← hW0] at bU bS hB0 hs0 hit ⊢
  clear hW0 hB1 hs1
  refine wpIn_rangeFunc_ownH hro (by omega) (gf := 76) (lb := #[.pointer (some ⟨w.heap.size + 1 + 1 + 1, 0, none⟩), .pointer (some ⟨w.heap.size + 1 + 1, 0, none⟩)]) rfl h76 (enters_of Try.func76 (by kernel_rfl) rfl)
    (pairs1_stops F HF.out (7 - 1) w.heap.size (w.heap.size + 1 + 1 + 1) (w.heap.size + 1 + 1) g v t H from_ HT.out.ok HT.out.so W0 (by omega) hit) (fun h k => KP.trans h k) (fun W l o o' hl h hc _ => KP.putObj (B := W0.heap.size) (by omega) W l o o' hl h hc) (Below.refl _ _) (fun _ => rfl)
    (RI w w.heap.size until_)
    (fun c pre W => ∃ q x, (c = .exit 0 ∧ pre = q ++ [x] ∧ befK until_ x = false) ∧ RI w w.heap.size until_ q W)
    (RI.own (Nat.le_refl _) (by omega))
    (fun c s A B row hs hg hr => by obtain ⟨q, x, h1, h2⟩ := hs; exact ⟨q, x, h1, RI.own (Nat.le_refl _) (by omega) q A B row h2 hg hr⟩)
    ⟨⟨⟨_, bS, World.ownsRow_nil _ _ _ _, trivial⟩, bU⟩, hB0, fun p hp => by cases hp⟩
    (fun x a' W => ∃ Bx, w.heap.size + 1 < Bx ∧ W.heap[Bx]? = some (.cells (kcells x) 65 (0, 0)) ∧ a' = { tmps := #[.pointer (some ⟨g, 0, none⟩), .string from_, .string until_, undef, undef, .pointer (some ⟨w.heap.size, 0, none⟩), .slice none 0 0, .pointer (some ⟨w.heap.size + 1, 0, none⟩), .pointer (some ⟨Bx, 0, none⟩), .pointer (some ⟨g, 0, none⟩), .string from_, .func (.func 76) #[] #[.pointer (some ⟨w.heap.size + 1 + 1 + 1, 0, none⟩), .pointer (some ⟨w.heap.size + 1 + 1, 0, none⟩)], pairV x, undef, undef, undef, undef, undef, undef, undef, undef, undef, undef, undef, undef, undef], defers := [] })
    (fun x a' s A B row hs hg hr => by
      obtain ⟨Bx, h1, h2, h3⟩ := hs
      refine ⟨Bx, h1, (hg.block Bx (Array.getElem?_eq_some_iff.1 h2).1 (fun e => ?_)).trans h2, h3⟩
      obtain ⟨_, o, ho, hc⟩ := hr Bx e.symm
      rw [h2] at ho; cases ho; cases hc)
    ?assign ?body ?done ?stop
  case assign =>
    rintro l pre x W K hR hK
    have p6 : PB (W.alloc (.cells #[.string ⟨#[]⟩, .string ⟨#[]⟩] 65)) W.heap.size := ⟨⟨⟨#[]⟩, ⟨#[]⟩⟩, heap_new rfl⟩
    unfold pairV
    have HR := Lib.hid hR
    clear hR
    gi_wp2
    have hb : Below W.heap.size W ((W.alloc (.cells #[.string ⟨#[]⟩, .string ⟨#[]⟩] 65)).setRow W.heap.size #[.string x.k, .string x.v]) :=
      ((((Kept.of_below (fun _ => False) (Below.refl W.heap.size W)).alloc _).setRow (fun h => by omega) _).below (Nat.le_refl _) (fun _ _ h => h))
    have hw : w.heap.size ≤ W.heap.size := HR.out.2.1.size
    have hWx := HR.out.1.1
    refine hK _ _ ⟨hb.size, fun k o _ h _ => (hb.block k (Array.getElem?_eq_some_iff.1 h).1).trans h⟩ (KP.of hb hw) (RI.own (Nat.le_refl _) (Nat.le_refl _) pre W _ none HR.out ⟨hb.os, hb.tape, hb.output, hb.size, fun i hi _ => hb.block i hi⟩ (fun r e => by cases e)) ⟨W.heap.size, ?_, setRow_heap _ _ _ _ _ _ (heap_new rfl), rfl⟩
    obtain ⟨_, h1, -⟩ := hWx
    exact h1.lt
  case body =>
    rintro l pre x a' W hl ⟨r, hr⟩ ⟨⟨⟨sl, hv, hrow, -⟩, hU⟩, hB, hall⟩ ⟨Bx, hBx, hbx, rfl⟩ hlt
    have cU := hU.cell
    have cS := hv.cell
    have c0 : W.cell? ⟨Bx, 0, none⟩ = some (.string x.k) := cell_of_row W Bx 0 _ _ _ hbx
    have HALL := Lib.hid hall
    have HB := Lib.hid hB
    have HLT := Lib.hid hlt
    clear hall hB hlt
    have hdp : ∀ k : Nat, k ≤ 3 → 1 ≤ 7 - k := fun k h => by omega
    have ld0 := run_loadPair (p := x) (range_kv hbx)
    have hpl : pre.length < 1000000000 := Nat.lt_of_lt_of_le HLT.out (Nat.le_trans (List.length_filter_le _ _) HL.out)
    have hk1 : pre.length + 1 ≤ maxLen := by unfold maxLen; omega
    have hk2 : (pre.length + 1) * 32 ≤ 140737488355328 := by omega
    have HU : Hid (∀ {w1 : World} {tmp : Obj} {v' : Value}, (W.alloc tmp).grownBy w1 sl.ownBlock → Boxed (w1.setCell ⟨w.heap.size + 1, 0, none⟩ v') w.heap.size 9 (.string until_)) := Lib.hid (fun hgrow => ((hU.alloc _).kept hgrow (hU.not_row (by decide) hrow)).other (by omega) _)
    clear hpl
    by_cases hue : until_ = emptyS
    · have hem : until_.toList.isEmpty = true := by rw [emp_iff]; simpa using hue
      have HBF : Hid (befK until_ x = true) := Lib.hid (by unfold befK; rw [hue]; simp)
      clear hue
      gi_wp2_with (gi_at_builtin; refine wpListIn_append_own _ rfl _ _ 26 rfl w.heap.size 65 i0 (.agg #[.string ⟨#[]⟩, .string ⟨#[]⟩]) 2 32 Try.underlying26 hi hz0 hz1 hz2 rfl (by decide) _ _ _ rfl (hrow.alloc _) ⟨W.heap.size, 0, none⟩ 1 1 [.string x.k, .string x.v] rfl rfl (two_new _ _ _ _) (by simp [Value.oneCell']) hk1 hk2 (by have := HB.out.size; simp; omega) ?_; intro sl' w1 hown' hgrow _; obtain ⟨g', cap', rfl⟩ := ownsRow_succ hown'; obtain ⟨hv1, hv2, hr2, hkk, hb2⟩ := hv.appended (by decide) hrow HB.out.size (by omega) hown' hgrow; have hc1 := hv1.cell; have hf1 := hv1.frozen)
      exact ⟨hkk.from _, KP.appended hv hrow hgrow (by decide) (by decide) hb2, ⟨⟨⟨_, hv2, by rw [List.length_append, pcells_app]; simpa [pcells, KV.cells] using hr2, trivial⟩, HU.out hgrow⟩, HB.out.trans hb2, fun p hp => by
            rcases List.mem_append.1 hp with h | h
            · exact HALL.out p h
            · rw [List.mem_singleton.1 h]; exact HBF.out⟩⟩
    · have hem : until_.toList.isEmpty = false := by rw [emp_iff]; simpa using hue
      by_cases hless : cmpK x.k until_ < 0
      · have hls : Op.bytesLess x.k.toList until_.toList = true := by rw [less_cmpK]; simpa using hless
        have HBF : Hid (befK until_ x = true) := Lib.hid (by unfold befK; simp [hless])
        clear hue hless
        gi_wp2_with (gi_at_builtin; refine wpListIn_append_own _ rfl _ _ 26 rfl w.heap.size 65 i0 (.agg #[.string ⟨#[]⟩, .string ⟨#[]⟩]) 2 32 Try.underlying26 hi hz0 hz1 hz2 rfl (by decide) _ _ _ rfl (hrow.alloc _) ⟨W.heap.size, 0, none⟩ 1 1 [.string x.k, .string x.v] rfl rfl (two_new _ _ _ _) (by simp [Value.oneCell']) hk1 hk2 (by have := HB.out.size; simp; omega) ?_; intro sl' w1 hown' hgrow _; obtain ⟨g', cap', rfl⟩ := ownsRow_succ hown'; obtain ⟨hv1, hv2, hr2, hkk, hb2⟩ := hv.appended (by decide) hrow HB.out.size (by omega) hown' hgrow; have hc1 := hv1.cell; have hf1 := hv1.frozen)
        exact ⟨hkk.from _, KP.appended hv hrow hgrow (by decide) (by decide) hb2, ⟨⟨⟨_, hv2, by rw [List.length_append, pcells_app]; simpa [pcells, KV.cells] using hr2, trivial⟩, HU.out hgrow⟩, HB.out.trans hb2, fun p hp => by
            rcases List.mem_append.1 hp with h | h
            · exact HALL.out p h
            · rw [List.mem_singleton.1 h]; exact HBF.out⟩⟩
      · have hls : Op.bytesLess x.k.toList until_.toList = false := by rw [less_cmpK]; simpa using hless
        have HBF : Hid (befK until_ x = false) := Lib.hid (by unfold befK; simp [hless, hue])
        have HRI : Hid (RI w w.heap.size until_ pre W) := Lib.hid ⟨⟨⟨sl, hv, hrow, trivial⟩, hU⟩, HB.out, HALL.out⟩
        clear hue hless
        gi_wp2
        exact ⟨KeepsFrom.refl _ _, pre, x, ⟨rfl, rfl, HBF.out⟩, HRI.out⟩
  case done =>
    rintro D ys W hD hys hRI hK
    have hL : rngL from_ until_ (treeL t) = ys := by unfold rngL; rw [← hys]; exact tw_all _ _ hRI.2.2
    have HLL := Lib.hid hL
    clear hys hL
    obtain ⟨⟨⟨sl, hv, hrow, -⟩, hU⟩, hB, hall⟩ := hRI
    have hc := hv.cell
    have HB := Lib.hid hB
    clear hU hB hall
    gi_wp2
    refine ⟨by simp, .inl ⟨_, _, rfl, run_takeDeferred hK, ?_⟩⟩
    exact ⟨_, results_tmp rfl _ _ _, sl, rfl, by rw [HLL.out]; exact ownsRow_putObj hrow _ hK rfl, HB.out.trans (belowK_b (w := w) (Nat.le_refl _) W D _ _ (by omega) hK rfl rfl)⟩
  case stop =>
    rintro D c pre W hD hSp ⟨q, x, ⟨rfl, rfl, hbf⟩, hRI⟩ hK
    have hL : rngL from_ until_ (treeL t) = q := by
      obtain ⟨rest, hr⟩ := hSp
      unfold rngL
      rw [← hr]
      exact tw_stop _ _ _ _ hRI.2.2 hbf
    have HLL := Lib.hid hL
    clear hSp hL hbf
    obtain ⟨⟨⟨sl, hv, hrow, -⟩, hU⟩, hB, hall⟩ := hRI
    have hc := hv.cell
    have HB := Lib.hid hB
    clear hU hB hall
    gi_wp2
    refine ⟨by simp, .inl ⟨_, _, rfl, run_takeDeferred hK, ?_⟩⟩
    exact ⟨_, results_tmp rfl _ _ _, sl, rfl, by rw [HLL.out]; exact ownsRow_putObj hrow _ hK rfl, HB.out.trans (belowK_b (w := w) (Nat.le_refl _) W D _ _ (by omega) hK rfl rfl)⟩
end Go.Proofs.Ytfgmhidgkemfoaa
namespace Go.Proofs.Ytfgmhidgkemfoaa
open Go.RowKit
set_option linter.unusedSimpArgs false
set_option linter.unusedVariables false
attribute [local go_sem ↓] exec_loadPair exec_storePair exec_at_zeroP exec_at_succP Go.wp_at_zero Go.wp_at_succ
attribute [local go_sem] run_storePair
theorem permitted_any {w : World} (k v : ByteArray) (hk : k.size < 9223372036854775808) (hv : v.size < 9223372036854775808) :
    Calls Try.prog 52 #[.string k, .string v] w fun e w' => e = .returned (.bool (decide (k.size ≤ 60 ∧ v.size ≤ 1000))) ∧ w = w' := by
  by_cases h1 : (k.size : Int) ≤ 60
  · by_cases h2 : (v.size : Int) ≤ 1000
    · rw [show decide (k.size ≤ 60 ∧ v.size ≤ 1000) = true from decide_eq_true (by omega)]
      go_enter Try.func52, Try.ntmps52
      go_wp2
      go_ret
      exact ⟨rfl, rfl⟩
    · rw [show decide (k.size ≤ 60 ∧ v.size ≤ 1000) = false from decide_eq_false (by omega)]
      go_enter Try.func52, Try.ntmps52
      go_wp2
      go_ret
      exact ⟨rfl, rfl⟩
  · rw [show decide (k.size ≤ 60 ∧ v.size ≤ 1000) = false from decide_eq_false (by omega)]
    go_enter Try.func52, Try.ntmps52
    go_wp2
    go_ret
    exact ⟨rfl, rfl⟩
set_option maxRecDepth 100000 in
set_option maxHeartbeats 2000000 in
theorem place_any {D : Nat → Prop} {w : World} {a : Option Addr} {n c : Nat} {ps : List KV} (h : Ps D w a n c ps) (key : ByteArray) :
    Calls Try.prog 53 #[.slice a n c, .string key] w fun e w' => e = .returned (.int .i64 ((ps.takeWhile fun p => decide (cmpK p.k key < 0)).length : Int)) ∧ w = w' := by
  have hL := h.1
  have hc1 := h.2.2.1
  have hc2 : c ≤ 9223372036854775807 := h.2.2.2.1
  have HP := Lib.hid h
  have HL := Lib.hid hL
  clear h hL
  go_enter Try.func53, Try.ntmps53
  go_wp2
  go_loopw [5] (fun x wr => ∃ j : Nat, x = .int .i64 (j : Int) ∧ j ≤ n ∧ (∀ p ∈ ps.take j, cmpK p.k key < 0) ∧ wr = w) (fun x _ => n - (intOf x).toNat)
  case atStart => exact ⟨0, rfl, Nat.zero_le _, (fun p hp => by cases hp), rfl⟩
  case round =>
    obtain ⟨j, rfl, hjn, hall, rfl⟩ := hrel
    have HALL := Lib.hid hall
    clear hall
    by_cases hlt : j < n
    · have hlt2 : (j : Int) < (n : Int) := by omega
      have hjl : j < ps.length := by rw [HL.out]; exact hlt
      obtain ⟨b, off, -, hbs, rfl, hcell⟩ := HP.out.at (by omega)
      have hr := hcell j hjl
      obtain ⟨kv, hkv⟩ : ∃ kv, kv = ps[j]'hjl := ⟨_, rfl⟩
      rw [← hkv] at hr
      obtain ⟨ob, hob⟩ : ∃ ob, ob = off + j * 2 := ⟨_, rfl⟩
      rw [← hob] at hr
      have hob2 : off + j * 2 = ob := hob.symm
      have c0 : wr.cell? ⟨b, ob, none⟩ = some (.string kv.k) := hr 0 _ rfl
      have HKV := Lib.hid hkv
      have HJL := Lib.hid hjl
      have hwj : IntKind.i64.wrap ((j : Int) + 1) = (j : Int) + 1 := i64_id _ (by omega) (by omega)
      clear hcell hr hkv hob
      by_cases hless : cmpK kv.k key < 0
      · have hls : Op.bytesLess kv.k.toList key.toList = true := by rw [less_cmpK]; simpa using hless
        have HLS := Lib.hid hless
        clear hless
        go_wp2
        go_roundw
        case rel => exact ⟨j + 1, by go_num, by omega, fun p hp => by
          rw [List.take_succ_eq_append_getElem HJL.out] at hp
          rcases List.mem_append.1 hp with h | h
          · exact HALL.out p h
          · rw [List.mem_singleton.1 h, ← HKV.out]; exact HLS.out, trivial⟩
        case measure => (try go_num); (try (simp only [intOf])); omega
      · have hls : Op.bytesLess kv.k.toList key.toList = false := by rw [less_cmpK]; simpa using hless
        have HE : Hid ((ps.takeWhile fun p => decide (cmpK p.k key < 0)).length = j) := Lib.hid (by
          conv => lhs; rw [← List.take_append_drop j ps]
          rw [List.takeWhile_append_of_pos (fun p hp => by simpa using HALL.out p hp), List.drop_eq_getElem_cons HJL.out, List.takeWhile_cons_of_neg (by rw [← HKV.out]; simpa using hless), List.append_nil, List.length_take]
          have := HJL.out
          omega)
        clear hless
        go_wp2
        go_ret
        exact ⟨by rw [HE.out]; rfl, rfl⟩
    · have hge : ¬ (j : Int) < (n : Int) := by omega
      have HE : Hid ((ps.takeWhile fun p => decide (cmpK p.k key < 0)).length = j) := Lib.hid (by
        have e : j = ps.length := by have := HL.out; omega
        have h2 := HALL.out
        rw [e, List.take_length] at h2
        rw [tw_all _ _ (fun p hp => by simpa using h2 p hp), e])
      go_wp2
      go_ret
      exact ⟨by rw [HE.out]; rfl, rfl⟩
deriving instance DecidableEq for KV
theorem str_eq (a b : ByteArray) : (a.toList = b.toList) ↔ a = b := by
  have h := str_beq a b
  rw [Bool.eq_iff_iff] at h
  simpa using h
theorem KV.ext' {p q : KV} (h1 : p.k = q.k) (h2 : p.v = q.v) : p = q := by cases p; cases q; simp_all
set_option maxRecDepth 100000 in
set_option maxHeartbeats 2000000 in
theorem same_any {D D' : Nat → Prop} {w : World} {a b : Option Addr} {n c m e : Nat} {ps qs : List KV} (h : Ps D w a n c ps) (h' : Ps D' w b m e qs) :
    Calls Try.prog 30 #[.slice a n c, .slice b m e] w fun e w' => e = .returned (.bool (decide (ps = qs))) ∧ Below w.heap.size w w' := by
  have hL := h.1
  have hM := h'.1
  have hc1 := h.2.2.1
  have hc2 : c ≤ 9223372036854775807 := h.2.2.2.1
  have he1 := h'.2.2.1
  have he2 : e ≤ 9223372036854775807 := h'.2.2.2.1
  have HP := Lib.hid h
  have HQ := Lib.hid h'
  have HL := Lib.hid hL
  have HM := Lib.hid hM
  clear h h' hL hM
  by_cases hnm : n = m
  · subst hnm
    obtain ⟨B, hB⟩ : ∃ B, B = decide (ps = qs) := ⟨_, rfl⟩
    rw [← hB]
    have HB := Lib.hid hB
    clear hB
    go_enter Try.func30, Try.ntmps30
    go_wp2
    go_loopw [5] (fun x wr => ∃ j : Nat, x = .int .i64 (j : Int) ∧ j ≤ n ∧ ps.take j = qs.take j ∧ Below w.heap.size w wr) (fun x _ => n - (intOf x).toNat)
    case atStart => exact ⟨0, rfl, Nat.zero_le _, rfl, Below.refl _ _⟩
    case round =>
      obtain ⟨j, rfl, hjn, htk, hb⟩ := hrel
      have HT := Lib.hid htk
      have HW := Lib.hid hb
      clear htk hb
      by_cases hlt : j < n
      · have hlt2 : (j : Int) < (n : Int) := by omega
        have hjl : j < ps.length := by rw [HL.out]; exact hlt
        have hjm : j < qs.length := by rw [HM.out]; exact hlt
        obtain ⟨b1, off1, -, hbs1, rfl, hcell1⟩ := (HP.out.below HW.out).at (by omega)
        obtain ⟨b2, off2, -, hbs2, rfl, hcell2⟩ := (HQ.out.below HW.out).at (by omega)
        have hr1 := hcell1 j hjl
        have hr2 := hcell2 j hjm
        obtain ⟨p, hp⟩ : ∃ p, p = ps[j]'hjl := ⟨_, rfl⟩
        obtain ⟨q, hq⟩ : ∃ q, q = qs[j]'hjm := ⟨_, rfl⟩
        rw [← hp] at hr1
        rw [← hq] at hr2
        obtain ⟨o1, ho1⟩ : ∃ o1, o1 = off1 + j * 2 := ⟨_, rfl⟩
        obtain ⟨o2, ho2⟩ : ∃ o2, o2 = off2 + j * 2 := ⟨_, rfl⟩
        rw [← ho1] at hr1
        rw [← ho2] at hr2
        have hob1 : off1 + j * 2 = o1 := ho1.symm
        have hob2 : off2 + j * 2 = o2 := ho2.symm
        have ld1 : ∀ u : World, u = wr.drew → (loadPairA (.pointer (some ⟨b1, o1, none⟩))).run Try.prog u = .ok (.value (.agg #[.string p.k, .string p.v])) u := fun u hu => by rw [hu]; exact run_loadPair (fun j v h => hr1 j v h)
        have ld1 := ld1 _ rfl
        have ld2 : (loadPairA (.pointer (some ⟨b2, o2, none⟩))).run Try.prog wr.drew = .ok (.value (.agg #[.string q.k, .string q.v])) wr.drew := run_loadPair (fun j v h => hr2 j v h)
        have HPQ : Hid (ps[j]'hjl = p ∧ qs[j]'hjm = q) := Lib.hid ⟨hp.symm, hq.symm⟩
        have hwj : IntKind.i64.wrap ((j : Int) + 1) = (j : Int) + 1 := i64_id _ (by omega) (by omega)
        clear hcell1 hcell2 hr1 hr2 hp hq ho1 ho2
        by_cases hpq : p = q
        · subst hpq
          go_wp2
          go_region
          go_wp2
          go_roundw
          case rel => exact ⟨j + 1, by go_num, by omega, by rw [List.take_succ_eq_append_getElem (by rw [HL.out]; omega), List.take_succ_eq_append_getElem (by rw [HM.out]; omega), HT.out, HPQ.out.1, HPQ.out.2], HW.out.drew⟩
          case measure => (try go_num); (try (simp only [intOf])); omega
        · have HNE : Hid (B = false) := Lib.hid (by rw [HB.out]; exact decide_eq_false (fun e => hpq (by have h1 := HPQ.out; subst e; exact h1.1.symm.trans h1.2)))
          by_cases hk : p.k = q.k
          · have hk1 : p.k.toList = q.k.toList := by rw [hk]
            have hv1 : ¬ p.v.toList = q.v.toList := fun h => hpq (KV.ext' hk ((str_eq _ _).1 h))
            clear hpq hk
            go_wp2
            go_region
            go_wp2
            go_ret
            exact ⟨by rw [HNE.out]; rfl, HW.out.drew⟩
          · have hk1 : ¬ p.k.toList = q.k.toList := fun h => hk ((str_eq _ _).1 h)
            clear hpq hk
            go_wp2
            go_region
            go_wp2
            go_ret
            exact ⟨by rw [HNE.out]; rfl, HW.out.drew⟩
      · have hge : ¬ (j : Int) < (n : Int) := by omega
        have HE : Hid (B = true) := Lib.hid (by
          rw [HB.out]
          have e1 : j = ps.length := by have := HL.out; omega
          have e2 : j = qs.length := by have := HM.out; omega
          have h := HT.out
          rw [e1, List.take_length, ← e1, e2, List.take_length] at h
          exact decide_eq_true h)
        go_wp2
        go_ret
        exact ⟨by rw [HE.out]; rfl, HW.out⟩
  · have HE : Hid (decide (ps = qs) = false) := Lib.hid (decide_eq_false (fun e => hnm (by rw [← HL.out, ← HM.out, e])))
    rw [HE.out]
    have hne : ¬ (n : Int) = (m : Int) := by omega
    clear hnm
    go_enter Try.func30, Try.ntmps30
    go_wp2
    go_ret
    exact ⟨rfl, Below.refl _ _⟩
end Go.Proofs.Ytfgmhidgkemfoaa
namespace Go.Proofs.Ytfgmhidgkemfoaa
open Go.RowKit
set_option linter.unusedSimpArgs false
set_option linter.unusedVariables false
theorem ret_intT {k : IntKind} {a b : Int} (h : a = b) : Ending.returned (.int k a) = .returned (.int k b) := by rw [h]
/-- n modulo most, as the laws reckon it -/
def aroundT (n most : Int) : Int := if n < 0 then -(n + 1) % most else n % most
theorem aroundT_bd (n most : Int) (h : 0 < most) : 0 ≤ aroundT n most ∧ aroundT n most < most := by
  unfold aroundT
  split
  · exact ⟨Int.emod_nonneg _ (by omega), Int.emod_lt_of_pos _ h⟩
  · exact ⟨Int.emod_nonneg _ (by omega), Int.emod_lt_of_pos _ h⟩
theorem aroundT_any (n most : Int) (w : World) (h1 : -9223372036854775808 ≤ n) (h2 : n ≤ 9223372036854775807) (h3 : 0 < most) (h4 : most ≤ 9223372036854775807) :
    Calls Try.prog 16 #[.int .i64 n, .int .i64 most] w fun e w' => e = .returned (.int .i64 (aroundT n most)) ∧ w = w' := by
  by_cases hn : n < 0
  · have hw1 : IntKind.i64.wrap (n + 1) = n + 1 := i64_id _ (by omega) (by omega)
    have hw2 : IntKind.i64.wrap (-(n + 1)) = -(n + 1) := i64_id _ (by omega) (by omega)
    have HA : Hid (aroundT n most = -(n + 1) % most) := Lib.hid (by unfold aroundT; rw [if_pos hn])
    go_enter Try.func16, Try.ntmps16
    go_wp2
    go_ret
    have e : -(n + 1).tmod most = -(n + 1) % most := by rw [← Int.neg_tmod, Int.tmod_eq_emod_of_nonneg (by omega)]
    refine ⟨ret_intT ?_, rfl⟩
    rw [HA.out, ← e]
  · have HA : Hid (aroundT n most = n % most) := Lib.hid (by unfold aroundT; rw [if_neg hn])
    go_enter Try.func16, Try.ntmps16
    go_wp2
    go_ret
    exact ⟨ret_intT (by rw [HA.out]), rfl⟩
def dig (n : Nat) : ByteArray := ⟨#[UInt8.ofNat (48 + n)]⟩
theorem dig_ext (n : Nat) (hn : n ≤ 9) : (⟨#[48, 49, 50, 51, 52, 53, 54, 55, 56, 57]⟩ : ByteArray).extract n (n + 1) ++ ⟨#[]⟩ = dig n := by
  have : n = 0 ∨ n = 1 ∨ n = 2 ∨ n = 3 ∨ n = 4 ∨ n = 5 ∨ n = 6 ∨ n = 7 ∨ n = 8 ∨ n = 9 := by omega
  rcases this with rfl | rfl | rfl | rfl | rfl | rfl | rfl | rfl | rfl | rfl <;> rfl
set_option maxRecDepth 100000 in
set_option maxHeartbeats 1000000 in
theorem decimal_any (n : Nat) (hn : n ≤ 9) (w : World) : Calls Try.prog 45 #[.int .i64 (n : Int)] w fun e w' => e = .returned (.string (dig n)) ∧ w = w' := by
  by_cases h0 : n = 0
  · subst h0
    go_enter Try.func45, Try.ntmps45
    go_wp2
    go_ret
    exact ⟨rfl, rfl⟩
  · have h1 : ¬ (n : Int) = 0 := by omega
    have h2 : (n : Int) % 10 = (n : Int) := by omega
    have h3 : ¬ (n : Int) < 0 := by omega
    have h4 : (n : Int) / 10 = 0 := by omega
    have h5 : (n : Int) + 1 ≤ 10 := by omega
    have HD := Lib.hid (dig_ext n hn)
    go_enter Try.func45, Try.ntmps45
    go_wp2
    go_loopw [4, 5] (fun s u wr => wr = w ∧ ((u = .int .i64 (n : Int) ∧ s = .string ⟨#[]⟩) ∨ (u = .int .i64 0 ∧ s = .string (dig n)))) (fun _ u _ => (intOf u).toNat)
    case atStart => exact ⟨rfl, .inl ⟨rfl, rfl⟩⟩
    case round =>
      obtain ⟨rfl, ⟨rfl, rfl⟩ | ⟨rfl, rfl⟩⟩ := hrel
      · go_wp2
        refine ⟨⟨trivial, .inr ⟨rfl, ?_⟩⟩, ?_⟩
        · rw [HD.out]
        · simp only [intOf]; omega
      · go_wp2
        go_ret
        exact ⟨rfl, rfl⟩
def letters : ByteArray := ⟨#[97, 98, 99, 100, 101, 102, 103, 104, 105, 106, 107, 108, 109, 110, 111, 112, 113, 114, 115, 116]⟩
theorem let_ext (n : Nat) (hn : n < 20) : letters.extract n (n + 1) = ⟨#[UInt8.ofNat (97 + n)]⟩ := by
  have : n = 0 ∨ n = 1 ∨ n = 2 ∨ n = 3 ∨ n = 4 ∨ n = 5 ∨ n = 6 ∨ n = 7 ∨ n = 8 ∨ n = 9 ∨ n = 10 ∨ n = 11 ∨ n = 12 ∨ n = 13 ∨ n = 14 ∨ n = 15 ∨ n = 16 ∨ n = 17 ∨ n = 18 ∨ n = 19 := by omega
  rcases this with rfl | rfl | rfl | rfl | rfl | rfl | rfl | rfl | rfl | rfl | rfl | rfl | rfl | rfl | rfl | rfl | rfl | rfl | rfl | rfl <;> rfl
/-- the key of a number below 4000 -/
def keyB (k : Nat) : ByteArray := ⟨#[UInt8.ofNat (97 + k % 20), UInt8.ofNat (97 + k / 20 % 20), UInt8.ofNat (48 + k / 400)]⟩
theorem keyB_size (k : Nat) : (keyB k).size = 3 := rfl
theorem keyB_ext (k : Nat) (hk : k < 4000) : letters.extract (k % 20) (k % 20 + 1) ++ letters.extract (k / 20 % 20) (k / 20 % 20 + 1) ++ dig (k / 400) = keyB k := by
  rw [let_ext _ (by omega), let_ext _ (by omega)]
  rfl
def Dke3 : List (Option Tmp) := [some 7, some 8, some 9, some 10, some 11, some 12, some 13, some 14, some 15, some 16, some 17, some 18, some 19, some 20, some 21, some 22, some 23, some 24, some 25, some 26, some 27, some 2]
def Lke3 : List (List Nat) := [[], [], [1], [], [3], [4], [0, 2, 5], [], [], [8], [9], [], [11], [12], [13], [7, 10, 14], [6, 15], [], [17], [18], [16, 19], [20]]
set_option maxRecDepth 100000 in
set_option maxHeartbeats 2000000 in
theorem key_any (n : Int) (h1 : -9223372036854775808 ≤ n) (h2 : n ≤ 9223372036854775807) (w : World) : Calls Try.prog 15 #[.int .i64 n] w fun e w' => e = .returned (.string (keyB (aroundT n 4000).toNat)) ∧ Below w.heap.size w w' := by
  have HA := Lib.hid (aroundT_any n 4000 w h1 h2 (by omega) (by omega))
  have hbd := aroundT_bd n 4000 (by omega)
  obtain ⟨k, hk⟩ : ∃ k : Nat, aroundT n 4000 = (k : Int) := ⟨(aroundT n 4000).toNat, by omega⟩
  rw [hk] at HA hbd
  have ek : (aroundT n 4000).toNat = k := by rw [hk]; rfl
  rw [ek]
  have hk4 : k < 4000 := by omega
  clear hk ek h1 h2 hbd
  obtain ⟨a, ha⟩ : ∃ a, a = k % 20 := ⟨_, rfl⟩
  obtain ⟨d, hd⟩ : ∃ d, d = k / 20 := ⟨_, rfl⟩
  obtain ⟨b, hb⟩ : ∃ b, b = d % 20 := ⟨_, rfl⟩
  obtain ⟨c, hc⟩ : ∃ c, c = k / 400 := ⟨_, rfl⟩
  have FKEY : Hid (letters.extract a (a + 1) ++ letters.extract b (b + 1) ++ dig c = keyB k) := Lib.hid (by rw [ha, hb, hd, hc]; exact keyB_ext k hk4)
  have FA : Hid ((k : Int).tmod 20 = (a : Int)) := Lib.hid (by rw [Int.tmod_eq_emod_of_nonneg (by omega)]; omega)
  have FA1 : Hid ((a : Int) + 1 ≤ 20) := Lib.hid (by omega)
  have FD : Hid ((k : Int).tdiv 20 = (d : Int)) := Lib.hid (by rw [Int.tdiv_eq_ediv_of_nonneg (by omega)]; omega)
  have FB : Hid ((d : Int).tmod 20 = (b : Int)) := Lib.hid (by rw [Int.tmod_eq_emod_of_nonneg (by omega)]; omega)
  have FB1 : Hid ((b : Int) + 1 ≤ 20) := Lib.hid (by omega)
  have FC : Hid ((k : Int).tdiv 400 = (c : Int)) := Lib.hid (by rw [Int.tdiv_eq_ediv_of_nonneg (by omega)]; omega)
  have FC9 : Hid (c ≤ 9) := Lib.hid (by omega)
  have FA2 : Hid (IntKind.i64.wrap ((a : Int) + 1) = (a : Int) + 1) := Lib.hid (i64_id _ (by omega) (by omega))
  have FB2 : Hid (IntKind.i64.wrap ((b : Int) + 1) = (b : Int) + 1) := Lib.hid (i64_id _ (by omega) (by omega))
  have FDW : Hid (IntKind.i64.wrap (d : Int) = (d : Int)) := Lib.hid (i64_id _ (by omega) (by omega))
  have FCW : Hid (IntKind.i64.wrap (c : Int) = (c : Int)) := Lib.hid (i64_id _ (by omega) (by omega))
  have FL : Hid (letters.size = 20) := Lib.hid rfl
  clear ha hd hb hc hk4
  go_enter Try.func15, Try.ntmps15
  go_upto_region 3 with (go_at_call 16; refine HA.out.mono ?_; rintro e w' ⟨rfl, rfl⟩)
  refine Roll.region_f 21 28 Dke3 Lke3 [(3, .int .i64 (k : Int)), (4, .string letters)] (fun p => p = w.drew) (fun p p2 => p = p2) [fun vv p => vv = .string letters, fun vv p => vv = .int .i64 (k : Int), fun vv p => vv = .int .i64 (a : Int), fun vv p => vv = .int .i64 (k : Int), fun vv p => vv = .int .i64 (a : Int), fun vv p => vv = .int .i64 ((a : Int) + 1), fun vv p => vv = .string (letters.extract a (a + 1)), fun vv p => vv = .string letters, fun vv p => vv = .int .i64 (k : Int), fun vv p => vv = .int .i64 (d : Int), fun vv p => vv = .int .i64 (b : Int), fun vv p => vv = .int .i64 (k : Int), fun vv p => vv = .int .i64 (d : Int), fun vv p => vv = .int .i64 (b : Int), fun vv p => vv = .int .i64 ((b : Int) + 1), fun vv p => vv = .string (letters.extract b (b + 1)), fun vv p => vv = .string (letters.extract a (a + 1) ++ letters.extract b (b + 1)), fun vv p => vv = .int .i64 (k : Int), fun vv p => vv = .int .i64 (c : Int), fun vv p => vv = .string (dig c), fun vv p => vv = .string (letters.extract a (a + 1) ++ letters.extract b (b + 1) ++ dig c)] (by kernel_rfl) (by kernel_rfl) rfl ⟨rfl, rfl, trivial⟩ (rfl) ?_ ?_ ?_
  · exact ⟨fun _ _ _ _ h => h, fun _ _ _ _ h => h, fun _ _ _ _ h => h, fun _ _ _ _ h => h, fun _ _ _ _ h => h, fun _ _ _ _ h => h, fun _ _ _ _ h => h, fun _ _ _ _ h => h, fun _ _ _ _ h => h, fun _ _ _ _ h => h, fun _ _ _ _ h => h, fun _ _ _ _ h => h, fun _ _ _ _ h => h, fun _ _ _ _ h => h, fun _ _ _ _ h => h, fun _ _ _ _ h => h, fun _ _ _ _ h => h, fun _ _ _ _ h => h, fun _ _ _ _ h => h, fun _ _ _ _ h => h, fun _ _ _ _ h => h, trivial⟩
  · intro b0 hN hlv
    refine ⟨?_, ?_, ?_, ?_, ?_, ?_, ?_, ?_, ?_, ?_, ?_, ?_, ?_, ?_, ?_, ?_, ?_, ?_, ?_, ?_, ?_, trivial⟩
    · intro vs p hI hp
      have e4 : (Roll.putD Dke3 vs [] b0).eval (.tmp 4) = .string letters := (Roll.eval_old rfl).trans (hlv.at 1 (4, .string letters) rfl)
      clear hp hlv hN
      unfold Roll.Goes
      simp only [Lke3, List.getD_cons_zero, List.getD_cons_succ]
      generalize Roll.putD Dke3 vs [] b0 = a1 at *
      refine Roll.goes_val (w' := p) (.string letters) rfl ?_ ⟨hI, rfl, rfl⟩
      (have ec : ∀ x, a1.eval (.const x) = x := fun _ => rfl); (have ef : ∀ x, a1.eval (.func x) = .func (.func x) #[] #[] := fun _ => rfl); generalize a1.eval = ρ at *
      skip
      go_simp <;> (intros; first | (exfalso; omega) | rfl | omega)
    · intro vs p hI hp
      have e3 : (Roll.putD Dke3 vs [] b0).eval (.tmp 3) = .int .i64 (k : Int) := (Roll.eval_old rfl).trans (hlv.at 0 (3, .int .i64 (k : Int)) rfl)
      clear hp hlv hN
      unfold Roll.Goes
      simp only [Lke3, List.getD_cons_zero, List.getD_cons_succ]
      generalize Roll.putD Dke3 vs [] b0 = a1 at *
      refine Roll.goes_val (w' := p) (.int .i64 (k : Int)) rfl ?_ ⟨hI, rfl, rfl⟩
      (have ec : ∀ x, a1.eval (.const x) = x := fun _ => rfl); (have ef : ∀ x, a1.eval (.func x) = .func (.func x) #[] #[] := fun _ => rfl); generalize a1.eval = ρ at *
      skip
      go_simp <;> (intros; first | (exfalso; omega) | rfl | omega)
    · intro vs p hI hp
      have h1 : (vs 1) = .int .i64 (k : Int) := hp 1 (by simp [Lke3])
      have e8 : (Roll.putD Dke3 vs [1] b0).eval (.tmp 8) = .int .i64 (k : Int) := (Roll.eval_new 1 rfl (by decide) (by decide) (by omega)).trans h1
      clear hp hlv hN
      unfold Roll.Goes
      simp only [Lke3, List.getD_cons_zero, List.getD_cons_succ]
      generalize Roll.putD Dke3 vs [1] b0 = a1 at *
      have f0 := FA.out
      refine Roll.goes_val (w' := p) (.int .i64 (a : Int)) rfl ?_ ⟨hI, rfl, rfl⟩
      (have ec : ∀ x, a1.eval (.const x) = x := fun _ => rfl); (have ef : ∀ x, a1.eval (.func x) = .func (.func x) #[] #[] := fun _ => rfl); generalize a1.eval = ρ at *
      clear h1
      go_simp <;> (intros; first | (exfalso; omega) | rfl | omega)
    · intro vs p hI hp
      have e3 : (Roll.putD Dke3 vs [] b0).eval (.tmp 3) = .int .i64 (k : Int) := (Roll.eval_old rfl).trans (hlv.at 0 (3, .int .i64 (k : Int)) rfl)
      clear hp hlv hN
      unfold Roll.Goes
      simp only [Lke3, List.getD_cons_zero, List.getD_cons_succ]
      generalize Roll.putD Dke3 vs [] b0 = a1 at *
      refine Roll.goes_val (w' := p) (.int .i64 (k : Int)) rfl ?_ ⟨hI, rfl, rfl⟩
      (have ec : ∀ x, a1.eval (.const x) = x := fun _ => rfl); (have ef : ∀ x, a1.eval (.func x) = .func (.func x) #[] #[] := fun _ => rfl); generalize a1.eval = ρ at *
      skip
      go_simp <;> (intros; first | (exfalso; omega) | rfl | omega)
    · intro vs p hI hp
      have h3 : (vs 3) = .int .i64 (k : Int) := hp 3 (by simp [Lke3])
      have e10 : (Roll.putD Dke3 vs [3] b0).eval (.tmp 10) = .int .i64 (k : Int) := (Roll.eval_new 3 rfl (by decide) (by decide) (by omega)).trans h3
      clear hp hlv hN
      unfold Roll.Goes
      simp only [Lke3, List.getD_cons_zero, List.getD_cons_succ]
      generalize Roll.putD Dke3 vs [3] b0 = a1 at *
      have f0 := FA.out
      refine Roll.goes_val (w' := p) (.int .i64 (a : Int)) rfl ?_ ⟨hI, rfl, rfl⟩
      (have ec : ∀ x, a1.eval (.const x) = x := fun _ => rfl); (have ef : ∀ x, a1.eval (.func x) = .func (.func x) #[] #[] := fun _ => rfl); generalize a1.eval = ρ at *
      clear h3
      go_simp <;> (intros; first | (exfalso; omega) | rfl | omega)
    · intro vs p hI hp
      have h4 : (vs 4) = .int .i64 (a : Int) := hp 4 (by simp [Lke3])
      have e11 : (Roll.putD Dke3 vs [4] b0).eval (.tmp 11) = .int .i64 (a : Int) := (Roll.eval_new 4 rfl (by decide) (by decide) (by omega)).trans h4
      clear hp hlv hN
      unfold Roll.Goes
      simp only [Lke3, List.getD_cons_zero, List.getD_cons_succ]
      generalize Roll.putD Dke3 vs [4] b0 = a1 at *
      have f0 := FA2.out
      refine Roll.goes_val (w' := p) (.int .i64 ((a : Int) + 1)) rfl ?_ ⟨hI, rfl, rfl⟩
      (have ec : ∀ x, a1.eval (.const x) = x := fun _ => rfl); (have ef : ∀ x, a1.eval (.func x) = .func (.func x) #[] #[] := fun _ => rfl); generalize a1.eval = ρ at *
      clear h4
      go_simp <;> (intros; first | (exfalso; omega) | rfl | omega)
    · intro vs p hI hp
      have h0 : (vs 0) = .string letters := hp 0 (by simp [Lke3])
      have h2 : (vs 2) = .int .i64 (a : Int) := hp 2 (by simp [Lke3])
      have h5 : (vs 5) = .int .i64 ((a : Int) + 1) := hp 5 (by simp [Lke3])
      have e7 : (Roll.putD Dke3 vs [0, 2, 5] b0).eval (.tmp 7) = .string letters := (Roll.eval_new 0 rfl (by decide) (by decide) (by omega)).trans h0
      have e9 : (Roll.putD Dke3 vs [0, 2, 5] b0).eval (.tmp 9) = .int .i64 (a : Int) := (Roll.eval_new 2 rfl (by decide) (by decide) (by omega)).trans h2
      have e12 : (Roll.putD Dke3 vs [0, 2, 5] b0).eval (.tmp 12) = .int .i64 ((a : Int) + 1) := (Roll.eval_new 5 rfl (by decide) (by decide) (by omega)).trans h5
      clear hp hlv hN
      unfold Roll.Goes
      simp only [Lke3, List.getD_cons_zero, List.getD_cons_succ]
      generalize Roll.putD Dke3 vs [0, 2, 5] b0 = a1 at *
      have f0 := FA1.out
      have f1 := FL.out
      refine Roll.goes_val (w' := p) (.string (letters.extract a (a + 1))) rfl ?_ ⟨hI, rfl, rfl⟩
      (have ec : ∀ x, a1.eval (.const x) = x := fun _ => rfl); (have ef : ∀ x, a1.eval (.func x) = .func (.func x) #[] #[] := fun _ => rfl); generalize a1.eval = ρ at *
      clear h0 h2 h5
      (go_simp; rw [if_pos (by omega), if_pos (by omega)])
    · intro vs p hI hp
      have e4 : (Roll.putD Dke3 vs [] b0).eval (.tmp 4) = .string letters := (Roll.eval_old rfl).trans (hlv.at 1 (4, .string letters) rfl)
      clear hp hlv hN
      unfold Roll.Goes
      simp only [Lke3, List.getD_cons_zero, List.getD_cons_succ]
      generalize Roll.putD Dke3 vs [] b0 = a1 at *
      refine Roll.goes_val (w' := p) (.string letters) rfl ?_ ⟨hI, rfl, rfl⟩
      (have ec : ∀ x, a1.eval (.const x) = x := fun _ => rfl); (have ef : ∀ x, a1.eval (.func x) = .func (.func x) #[] #[] := fun _ => rfl); generalize a1.eval = ρ at *
      skip
      go_simp <;> (intros; first | (exfalso; omega) | rfl | omega)
    · intro vs p hI hp
      have e3 : (Roll.putD Dke3 vs [] b0).eval (.tmp 3) = .int .i64 (k : Int) := (Roll.eval_old rfl).trans (hlv.at 0 (3, .int .i64 (k : Int)) rfl)
      clear hp hlv hN
      unfold Roll.Goes
      simp only [Lke3, List.getD_cons_zero, List.getD_cons_succ]
      generalize Roll.putD Dke3 vs [] b0 = a1 at *
      refine Roll.goes_val (w' := p) (.int .i64 (k : Int)) rfl ?_ ⟨hI, rfl, rfl⟩
      (have ec : ∀ x, a1.eval (.const x) = x := fun _ => rfl); (have ef : ∀ x, a1.eval (.func x) = .func (.func x) #[] #[] := fun _ => rfl); generalize a1.eval = ρ at *
      skip
      go_simp <;> (intros; first | (exfalso; omega) | rfl | omega)
    · intro vs p hI hp
      have h8 : (vs 8) = .int .i64 (k : Int) := hp 8 (by simp [Lke3])
      have e15 : (Roll.putD Dke3 vs [8] b0).eval (.tmp 15) = .int .i64 (k : Int) := (Roll.eval_new 8 rfl (by decide) (by decide) (by omega)).trans h8
      clear hp hlv hN
      unfold Roll.Goes
      simp only [Lke3, List.getD_cons_zero, List.getD_cons_succ]
      generalize Roll.putD Dke3 vs [8] b0 = a1 at *
      have f0 := FD.out
      have f1 := FDW.out
      refine Roll.goes_val (w' := p) (.int .i64 (d : Int)) rfl ?_ ⟨hI, rfl, rfl⟩
      (have ec : ∀ x, a1.eval (.const x) = x := fun _ => rfl); (have ef : ∀ x, a1.eval (.func x) = .func (.func x) #[] #[] := fun _ => rfl); generalize a1.eval = ρ at *
      clear h8
      go_simp <;> (intros; first | (exfalso; omega) | rfl | omega)
    · intro vs p hI hp
      have h9 : (vs 9) = .int .i64 (d : Int) := hp 9 (by simp [Lke3])
      have e16 : (Roll.putD Dke3 vs [9] b0).eval (.tmp 16) = .int .i64 (d : Int) := (Roll.eval_new 9 rfl (by decide) (by decide) (by omega)).trans h9
      clear hp hlv hN
      unfold Roll.Goes
      simp only [Lke3, List.getD_cons_zero, List.getD_cons_succ]
      generalize Roll.putD Dke3 vs [9] b0 = a1 at *
      have f0 := FB.out
      refine Roll.goes_val (w' := p) (.int .i64 (b : Int)) rfl ?_ ⟨hI, rfl, rfl⟩
      (have ec : ∀ x, a1.eval (.const x) = x := fun _ => rfl); (have ef : ∀ x, a1.eval (.func x) = .func (.func x) #[] #[] := fun _ => rfl); generalize a1.eval = ρ at *
      clear h9
      go_simp <;> (intros; first | (exfalso; omega) | rfl | omega)
    · intro vs p hI hp
      have e3 : (Roll.putD Dke3 vs [] b0).eval (.tmp 3) = .int .i64 (k : Int) := (Roll.eval_old rfl).trans (hlv.at 0 (3, .int .i64 (k : Int)) rfl)
      clear hp hlv hN
      unfold Roll.Goes
      simp only [Lke3, List.getD_cons_zero, List.getD_cons_succ]
      generalize Roll.putD Dke3 vs [] b0 = a1 at *
      refine Roll.goes_val (w' := p) (.int .i64 (k : Int)) rfl ?_ ⟨hI, rfl, rfl⟩
      (have ec : ∀ x, a1.eval (.const x) = x := fun _ => rfl); (have ef : ∀ x, a1.eval (.func x) = .func (.func x) #[] #[] := fun _ => rfl); generalize a1.eval = ρ at *
      skip
      go_simp <;> (intros; first | (exfalso; omega) | rfl | omega)
    · intro vs p hI hp
      have h11 : (vs 11) = .int .i64 (k : Int) := hp 11 (by simp [Lke3])
      have e18 : (Roll.putD Dke3 vs [11] b0).eval (.tmp 18) = .int .i64 (k : Int) := (Roll.eval_new 11 rfl (by decide) (by decide) (by omega)).trans h11
      clear hp hlv hN
      unfold Roll.Goes
      simp only [Lke3, List.getD_cons_zero, List.getD_cons_succ]
      generalize Roll.putD Dke3 vs [11] b0 = a1 at *
      have f0 := FD.out
      have f1 := FDW.out
      refine Roll.goes_val (w' := p) (.int .i64 (d : Int)) rfl ?_ ⟨hI, rfl, rfl⟩
      (have ec : ∀ x, a1.eval (.const x) = x := fun _ => rfl); (have ef : ∀ x, a1.eval (.func x) = .func (.func x) #[] #[] := fun _ => rfl); generalize a1.eval = ρ at *
      clear h11
      go_simp <;> (intros; first | (exfalso; omega) | rfl | omega)
    · intro vs p hI hp
      have h12 : (vs 12) = .int .i64 (d : Int) := hp 12 (by simp [Lke3])
      have e19 : (Roll.putD Dke3 vs [12] b0).eval (.tmp 19) = .int .i64 (d : Int) := (Roll.eval_new 12 rfl (by decide) (by decide) (by omega)).trans h12
      clear hp hlv hN
      unfold Roll.Goes
      simp only [Lke3, List.getD_cons_zero, List.getD_cons_succ]
      generalize Roll.putD Dke3 vs [12] b0 = a1 at *
      have f0 := FB.out
      refine Roll.goes_val (w' := p) (.int .i64 (b : Int)) rfl ?_ ⟨hI, rfl, rfl⟩
      (have ec : ∀ x, a1.eval (.const x) = x := fun _ => rfl); (have ef : ∀ x, a1.eval (.func x) = .func (.func x) #[] #[] := fun _ => rfl); generalize a1.eval = ρ at *
      clear h12
      go_simp <;> (intros; first | (exfalso; omega) | rfl | omega)
    · intro vs p hI hp
      have h13 : (vs 13) = .int .i64 (b : Int) := hp 13 (by simp [Lke3])
      have e20 : (Roll.putD Dke3 vs [13] b0).eval (.tmp 20) = .int .i64 (b : Int) := (Roll.eval_new 13 rfl (by decide) (by decide) (by omega)).trans h13
      clear hp hlv hN
      unfold Roll.Goes
      simp only [Lke3, List.getD_cons_zero, List.getD_cons_succ]
      generalize Roll.putD Dke3 vs [13] b0 = a1 at *
      have f0 := FB2.out
      refine Roll.goes_val (w' := p) (.int .i64 ((b : Int) + 1)) rfl ?_ ⟨hI, rfl, rfl⟩
      (have ec : ∀ x, a1.eval (.const x) = x := fun _ => rfl); (have ef : ∀ x, a1.eval (.func x) = .func (.func x) #[] #[] := fun _ => rfl); generalize a1.eval = ρ at *
      clear h13
      go_simp <;> (intros; first | (exfalso; omega) | rfl | omega)
    · intro vs p hI hp
      have h7 : (vs 7) = .string letters := hp 7 (by simp [Lke3])
      have h10 : (vs 10) = .int .i64 (b : Int) := hp 10 (by simp [Lke3])
      have h14 : (vs 14) = .int .i64 ((b : Int) + 1) := hp 14 (by simp [Lke3])
      have e14 : (Roll.putD Dke3 vs [7, 10, 14] b0).eval (.tmp 14) = .string letters := (Roll.eval_new 7 rfl (by decide) (by decide) (by omega)).trans h7
      have e17 : (Roll.putD Dke3 vs [7, 10, 14] b0).eval (.tmp 17) = .int .i64 (b : Int) := (Roll.eval_new 10 rfl (by decide) (by decide) (by omega)).trans h10
      have e21 : (Roll.putD Dke3 vs [7, 10, 14] b0).eval (.tmp 21) = .int .i64 ((b : Int) + 1) := (Roll.eval_new 14 rfl (by decide) (by decide) (by omega)).trans h14
      clear hp hlv hN
      unfold Roll.Goes
      simp only [Lke3, List.getD_cons_zero, List.getD_cons_succ]
      generalize Roll.putD Dke3 vs [7, 10, 14] b0 = a1 at *
      have f0 := FB1.out
      have f1 := FL.out
      refine Roll.goes_val (w' := p) (.string (letters.extract b (b + 1))) rfl ?_ ⟨hI, rfl, rfl⟩
      (have ec : ∀ x, a1.eval (.const x) = x := fun _ => rfl); (have ef : ∀ x, a1.eval (.func x) = .func (.func x) #[] #[] := fun _ => rfl); generalize a1.eval = ρ at *
      clear h7 h10 h14
      (go_simp; rw [if_pos (by omega), if_pos (by omega)])
    · intro vs p hI hp
      have h6 : (vs 6) = .string (letters.extract a (a + 1)) := hp 6 (by simp [Lke3])
      have h15 : (vs 15) = .string (letters.extract b (b + 1)) := hp 15 (by simp [Lke3])
      have e13 : (Roll.putD Dke3 vs [6, 15] b0).eval (.tmp 13) = .string (letters.extract a (a + 1)) := (Roll.eval_new 6 rfl (by decide) (by decide) (by omega)).trans h6
      have e22 : (Roll.putD Dke3 vs [6, 15] b0).eval (.tmp 22) = .string (letters.extract b (b + 1)) := (Roll.eval_new 15 rfl (by decide) (by decide) (by omega)).trans h15
      clear hp hlv hN
      unfold Roll.Goes
      simp only [Lke3, List.getD_cons_zero, List.getD_cons_succ]
      generalize Roll.putD Dke3 vs [6, 15] b0 = a1 at *
      refine Roll.goes_val (w' := p) (.string (letters.extract a (a + 1) ++ letters.extract b (b + 1))) rfl ?_ ⟨hI, rfl, rfl⟩
      (have ec : ∀ x, a1.eval (.const x) = x := fun _ => rfl); (have ef : ∀ x, a1.eval (.func x) = .func (.func x) #[] #[] := fun _ => rfl); generalize a1.eval = ρ at *
      clear h6 h15
      go_simp <;> (intros; first | (exfalso; omega) | rfl | omega)
    · intro vs p hI hp
      have e3 : (Roll.putD Dke3 vs [] b0).eval (.tmp 3) = .int .i64 (k : Int) := (Roll.eval_old rfl).trans (hlv.at 0 (3, .int .i64 (k : Int)) rfl)
      clear hp hlv hN
      unfold Roll.Goes
      simp only [Lke3, List.getD_cons_zero, List.getD_cons_succ]
      generalize Roll.putD Dke3 vs [] b0 = a1 at *
      refine Roll.goes_val (w' := p) (.int .i64 (k : Int)) rfl ?_ ⟨hI, rfl, rfl⟩
      (have ec : ∀ x, a1.eval (.const x) = x := fun _ => rfl); (have ef : ∀ x, a1.eval (.func x) = .func (.func x) #[] #[] := fun _ => rfl); generalize a1.eval = ρ at *
      skip
      go_simp <;> (intros; first | (exfalso; omega) | rfl | omega)
    · intro vs p hI hp
      have h17 : (vs 17) = .int .i64 (k : Int) := hp 17 (by simp [Lke3])
      have e24 : (Roll.putD Dke3 vs [17] b0).eval (.tmp 24) = .int .i64 (k : Int) := (Roll.eval_new 17 rfl (by decide) (by decide) (by omega)).trans h17
      clear hp hlv hN
      unfold Roll.Goes
      simp only [Lke3, List.getD_cons_zero, List.getD_cons_succ]
      generalize Roll.putD Dke3 vs [17] b0 = a1 at *
      have f0 := FC.out
      have f1 := FCW.out
      refine Roll.goes_val (w' := p) (.int .i64 (c : Int)) rfl ?_ ⟨hI, rfl, rfl⟩
      (have ec : ∀ x, a1.eval (.const x) = x := fun _ => rfl); (have ef : ∀ x, a1.eval (.func x) = .func (.func x) #[] #[] := fun _ => rfl); generalize a1.eval = ρ at *
      clear h17
      go_simp <;> (intros; first | (exfalso; omega) | rfl | omega)
    · intro vs p hI hp
      have h18 : (vs 18) = .int .i64 (c : Int) := hp 18 (by simp [Lke3])
      have e25 : (Roll.putD Dke3 vs [18] b0).eval (.tmp 25) = .int .i64 (c : Int) := (Roll.eval_new 18 rfl (by decide) (by decide) (by omega)).trans h18
      clear hp hlv hN
      unfold Roll.Goes
      simp only [Lke3, List.getD_cons_zero, List.getD_cons_succ]
      generalize Roll.putD Dke3 vs [18] b0 = a1 at *
      refine Roll.goes_call 45 #[.int .i64 (c : Int)] p rfl (by have ec : ∀ x, a1.eval (.const x) = x := fun _ => rfl; have ef : ∀ x, a1.eval (.func x) = .func (.func x) #[] #[] := fun _ => rfl; generalize a1.eval = ρ at *; go_simp) ?_
      refine (decimal_any c FC9.out p).mono ?_
      rintro z p2 ⟨rfl, rfl⟩
      exact ⟨_, rfl, hI, rfl, rfl⟩
    · intro vs p hI hp
      have h16 : (vs 16) = .string (letters.extract a (a + 1) ++ letters.extract b (b + 1)) := hp 16 (by simp [Lke3])
      have h19 : (vs 19) = .string (dig c) := hp 19 (by simp [Lke3])
      have e23 : (Roll.putD Dke3 vs [16, 19] b0).eval (.tmp 23) = .string (letters.extract a (a + 1) ++ letters.extract b (b + 1)) := (Roll.eval_new 16 rfl (by decide) (by decide) (by omega)).trans h16
      have e26 : (Roll.putD Dke3 vs [16, 19] b0).eval (.tmp 26) = .string (dig c) := (Roll.eval_new 19 rfl (by decide) (by decide) (by omega)).trans h19
      clear hp hlv hN
      unfold Roll.Goes
      simp only [Lke3, List.getD_cons_zero, List.getD_cons_succ]
      generalize Roll.putD Dke3 vs [16, 19] b0 = a1 at *
      refine Roll.goes_val (w' := p) (.string (letters.extract a (a + 1) ++ letters.extract b (b + 1) ++ dig c)) rfl ?_ ⟨hI, rfl, rfl⟩
      (have ec : ∀ x, a1.eval (.const x) = x := fun _ => rfl); (have ef : ∀ x, a1.eval (.func x) = .func (.func x) #[] #[] := fun _ => rfl); generalize a1.eval = ρ at *
      clear h16 h19
      (go_simp; have h := FL.out; have h2 : (dig c).size = 1 := rfl; omega)
  · intro vs p hI hR
    have h0 : (vs 0) = .string letters := hR 0 (by omega)
    have h1 : (vs 1) = .int .i64 (k : Int) := hR 1 (by omega)
    have h2 : (vs 2) = .int .i64 (a : Int) := hR 2 (by omega)
    have h3 : (vs 3) = .int .i64 (k : Int) := hR 3 (by omega)
    have h4 : (vs 4) = .int .i64 (a : Int) := hR 4 (by omega)
    have h5 : (vs 5) = .int .i64 ((a : Int) + 1) := hR 5 (by omega)
    have h6 : (vs 6) = .string (letters.extract a (a + 1)) := hR 6 (by omega)
    have h7 : (vs 7) = .string letters := hR 7 (by omega)
    have h8 : (vs 8) = .int .i64 (k : Int) := hR 8 (by omega)
    have h9 : (vs 9) = .int .i64 (d : Int) := hR 9 (by omega)
    have h10 : (vs 10) = .int .i64 (b : Int) := hR 10 (by omega)
    have h11 : (vs 11) = .int .i64 (k : Int) := hR 11 (by omega)
    have h12 : (vs 12) = .int .i64 (d : Int) := hR 12 (by omega)
    have h13 : (vs 13) = .int .i64 (b : Int) := hR 13 (by omega)
    have h14 : (vs 14) = .int .i64 ((b : Int) + 1) := hR 14 (by omega)
    have h15 : (vs 15) = .string (letters.extract b (b + 1)) := hR 15 (by omega)
    have h16 : (vs 16) = .string (letters.extract a (a + 1) ++ letters.extract b (b + 1)) := hR 16 (by omega)
    have h17 : (vs 17) = .int .i64 (k : Int) := hR 17 (by omega)
    have h18 : (vs 18) = .int .i64 (c : Int) := hR 18 (by omega)
    have h19 : (vs 19) = .string (dig c) := hR 19 (by omega)
    have h20 : (vs 20) = .string (letters.extract a (a + 1) ++ letters.extract b (b + 1) ++ dig c) := hR 20 (by omega)
    clear hR
    simp only [List.range_succ, List.range_zero, List.nil_append, List.cons_append, Roll.putD, Act.put, List.getD_cons_zero, List.getD_cons_succ, List.setIfInBounds_toArray, List.set_cons_zero, List.set_cons_succ, List.drop_succ_cons, List.drop_zero, Dke3]
    simp only [h0, h1, h2, h3, h4, h5, h6, h7, h8, h9, h10, h11, h12, h13, h14, h15, h16, h17, h18, h19, h20]
    clear h0 h1 h2 h3 h4 h5 h6 h7 h8 h9 h10 h11 h12 h13 h14 h15 h16 h17 h18 h19 h20
    obtain rfl : p = w.drew := hI
    go_wp2_with fail
    go_ret
    rw [FKEY.out]
    exact ⟨rfl, (Below.refl _ w).drew⟩
end Go.Proofs.Ytfgmhidgkemfoaa
namespace Go.Proofs.Ytfgmhidgkemfoaa
open Go.RowKit
set_option linter.unusedSimpArgs false
set_option linter.unusedVariables false
attribute [local go_sem ↓] exec_loadPair exec_storePair exec_at_zeroP exec_at_succP Go.wp_at_zero Go.wp_at_succ
attribute [local go_sem] run_storePair
/-- an edit -/
structure ED where
  k : ByteArray
  v : ByteArray
  d : Bool
deriving DecidableEq
def ED.cells (e : ED) : List Value := [.string e.k, .string e.v, .bool e.d]
def ecells (es : List ED) : List Value := es.flatMap ED.cells
theorem ecells_app (a b : List ED) : ecells (a ++ b) = ecells a ++ ecells b := by unfold ecells; rw [List.flatMap_append]
theorem ecells_one (e : ED) : ecells [e] = e.cells := by simp [ecells]
def remE (p : KV) : ED := ⟨p.k, emptyS, true⟩
def setE (p : KV) : ED := ⟨p.k, p.v, false⟩
theorem edit_info : (Try.prog.info? 61).map (fun i => (i.zero, i.size, i.bytes)) = some (some (.agg #[.string ⟨#[]⟩, .string ⟨#[]⟩, .bool false]), 3, 40) := by kernel_rfl
theorem ownsRow_below {w w' : World} {base : Nat} {e : TypeId} {size : Nat} {v : Value} {k : Nat} {xs : List Value} (h : w.ownsRow base e size v k xs) (hb : Below w.heap.size w w') : w'.ownsRow base e size v k xs :=
  h.kept (row := none) ⟨hb.os, hb.tape, hb.output, hb.size, fun i hi _ => hb.block i hi⟩ (by cases hv : v.ownBlock with | none => exact .inl rfl | some b => exact .inr (by simp))
theorem ownsRow_grown {w w1 : World} {n₀ : Nat} {e : TypeId} {size : Nat} {v : Value} {k : Nat} {xs : List Value} {tmp : Obj} (hrow : w.ownsRow n₀ e size v k xs) (hn : n₀ ≤ w.heap.size) (hgrow : (w.alloc tmp).grownBy w1 v.ownBlock) : Below n₀ w w1 := by
  refine ((Below.refl n₀ w).alloc hn tmp).grown hgrow (by simp; omega) fun j ej => ?_
  rcases hrow.2 with ⟨rfl, _⟩ | ⟨g, cap, cur, rfl, hb, _, _⟩
  · simp [Value.ownBlock] at ej
  · obtain rfl : g = j := by simpa [Value.ownBlock] using ej
    exact hb
theorem three_new (W : World) (a b c : Value) (t : TypeId) : ∀ j u, ([a, b, c] : List Value)[j]? = some u → (W.alloc (.cells #[a, b, c] t)).cell? ((⟨W.heap.size, 0, none⟩ : Addr).add j) = some u := by
  intro j u h
  rcases j with _ | _ | _ | j
  · obtain rfl : a = u := by simpa using h
    exact cell_of_row (W.alloc (.cells #[a, b, c] t)) W.heap.size 0 #[a, b, c] _ _ (World.alloc_heap_new W _)
  · obtain rfl : b = u := by simpa using h
    exact cell_of_row (W.alloc (.cells #[a, b, c] t)) W.heap.size 1 #[a, b, c] _ _ (World.alloc_heap_new W _)
  · obtain rfl : c = u := by simpa using h
    exact cell_of_row (W.alloc (.cells #[a, b, c] t)) W.heap.size 2 #[a, b, c] _ _ (World.alloc_heap_new W _)
  · simp at h
set_option maxRecDepth 100000 in
set_option maxHeartbeats 4000000 in
theorem removals_any {D : Nat → Prop} {w : World} {a : Option Addr} {n c : Nat} {ps : List KV} (h : Ps D w a n c ps) (hn : n ≤ 1000000000) :
    Calls Try.prog 58 #[.slice a n c] w fun e w' => ∃ v, e = .returned v ∧ w'.ownsRow w.heap.size 61 3 v n (ecells (ps.map remE)) ∧ Below w.heap.size w w' := by
  obtain ⟨i0, hi, hz0, hz1, hz2⟩ := info_parts edit_info
  have HP := Lib.hid h
  have HL := Lib.hid h.1
  have hc1 := h.2.2.1
  have hc2 : c ≤ 9223372036854775807 := h.2.2.2.1
  clear h
  go_enter Try.func58, Try.ntmps58
  go_wp2_with fail
  go_loopw [3, 8] (fun u x wr => ∃ j : Nat, x = .int .i64 (j : Int) ∧ j ≤ n ∧ wr.ownsRow w.heap.size 61 3 u j (ecells ((ps.take j).map remE)) ∧ Below w.heap.size w wr) (fun u x _ => n - (intOf x).toNat)
  case atStart => exact ⟨0, rfl, Nat.zero_le _, World.ownsRow_nil _ _ _ _, Below.refl _ _⟩
  case round =>
    obtain ⟨j, rfl, hjn, hrow, hb⟩ := hrel
    have HB := Lib.hid hb
    clear hb
    by_cases hlt : j < n
    · have hlt2 : (j : Int) < (n : Int) := by omega
      have hjl : j < ps.length := by rw [HL.out]; exact hlt
      obtain ⟨b, off, -, hbs, rfl, hcell⟩ := (HP.out.below HB.out).at (by omega)
      have hr := hcell j hjl
      obtain ⟨kv, hkv⟩ : ∃ kv, kv = ps[j]'hjl := ⟨_, rfl⟩
      rw [← hkv] at hr
      obtain ⟨ob, hob⟩ : ∃ ob, ob = off + j * 2 := ⟨_, rfl⟩
      rw [← hob] at hr
      have hob2 : off + j * 2 = ob := hob.symm
      have ld0 := run_loadPair hr
      have HKV : Hid (ps.take (j + 1) = ps.take j ++ [kv]) := Lib.hid (by rw [List.take_succ_eq_append_getElem hjl, hkv])
      have p6 : PB (wr.alloc (.cells #[.string ⟨#[]⟩, .string ⟨#[]⟩] 65)) wr.heap.size := ⟨⟨⟨#[]⟩, ⟨#[]⟩⟩, heap_new rfl⟩
      clear hcell hr hkv hob hjl
      go_upto_region 5 with fail
      have hb3 : Below wr.heap.size wr ((wr.alloc (.cells #[.string ⟨#[]⟩, .string ⟨#[]⟩] 65)).setRow wr.heap.size #[.string kv.k, .string kv.v]) :=
        ((((Kept.of_below (fun _ => False) (Below.refl wr.heap.size wr)).alloc _).setRow (fun h => by omega) _).below (Nat.le_refl _) (fun _ _ h => h))
      have hrw : ((wr.alloc (.cells #[.string ⟨#[]⟩, .string ⟨#[]⟩] 65)).setRow wr.heap.size #[.string kv.k, .string kv.v]).heap[wr.heap.size]? = some (.cells #[.string kv.k, .string kv.v] 65 (0, 0)) := setRow_heap _ _ _ _ _ _ (heap_new rfl)
      obtain ⟨w3, hw3⟩ : ∃ w3, w3 = (wr.alloc (.cells #[.string ⟨#[]⟩, .string ⟨#[]⟩] 65)).setRow wr.heap.size #[.string kv.k, .string kv.v] := ⟨_, rfl⟩
      rw [← hw3] at hb3 hrw ⊢
      obtain ⟨g5, hg5⟩ : ∃ g5, g5 = wr.heap.size := ⟨_, rfl⟩
      rw [← hg5] at hrw ⊢
      have c0 : w3.cell? ⟨g5, 0, none⟩ = some (.string kv.k) := cell_of_row w3 g5 0 _ _ _ hrw
      have hrow3 := ownsRow_below hrow hb3
      have hB3 := HB.out.trans (hb3.mono HB.out.size)
      have HB3 := Lib.hid hB3
      have hk1 : j + 1 ≤ maxLen := by unfold maxLen; omega
      have hk2 : (j + 1) * 40 ≤ 140737488355328 := by omega
      have hwj : IntKind.i64.wrap ((j : Int) + 1) = (j : Int) + 1 := i64_id _ (by omega) (by omega)
      have h1c : ∀ u ∈ ([.string kv.k, .string ⟨#[]⟩, .bool true] : List Value), u.oneCell' = true := by simp [Value.oneCell']
      have hbs3 : ∀ tmp : Obj, w.heap.size ≤ (w3.alloc tmp).heap.size := fun tmp => by rw [World.size_alloc]; have := HB3.out.size; omega
      have H1C := Lib.hid h1c
      have HBS := Lib.hid hbs3
      have HK1 := Lib.hid hk1
      have HK2 := Lib.hid hk2
      clear hw3 hg5 hb3 hB3 hrw ld0 p6 hrow h1c hbs3 hk1 hk2
      go_wp2_with (at_builtin; refine wpList_append_own _ rfl (.tmp 12) (.tmp 16) 56 rfl w.heap.size 61 i0 (.agg #[.string ⟨#[]⟩, .string ⟨#[]⟩, .bool false]) 3 40 Try.underlying56 hi hz0 hz1 hz2 rfl (Nat.succ_pos 2) _ _ _ rfl (hrow3.alloc _) ⟨w3.heap.size, 0, none⟩ 1 1 [.string kv.k, .string ⟨#[]⟩, .bool true] rfl rfl ?_ ?_ ?_ ?_ ?_ ?_; exact three_new _ _ _ _ _; exact H1C.out; exact HK1.out; exact HK2.out; exact HBS.out _; intro sl' w4 hown' hgrow _; have HO := Lib.hid hown'; have HG := Lib.hid hgrow; clear hown' hgrow)
      go_roundw
      case rel => exact ⟨j + 1, by go_num, by omega, by rw [HKV.out, List.map_append, ecells_app]; exact HO.out, HB3.out.trans (ownsRow_grown (v := u3) hrow3 HB3.out.size HG.out)⟩
      case measure => (try go_num); (try (simp only [intOf])); omega
    · have hge : ¬ (j : Int) < (n : Int) := by omega
      have HR : Hid (wr.ownsRow w.heap.size 61 3 u3 n (ecells (ps.map remE))) := Lib.hid (by
        have e : j = n := by omega
        rw [e, ← HL.out, List.take_length] at hrow
        rw [← HL.out]
        exact hrow)
      clear hrow
      go_wp2
      go_ret
      exact ⟨_, rfl, HR.out, HB.out⟩
end Go.Proofs.Ytfgmhidgkemfoaa
namespace Go.Proofs.Ytfgmhidgkemfoaa
open Go.RowKit
set_option linter.unusedSimpArgs false
set_option linter.unusedVariables false
attribute [local go_sem ↓] exec_loadPair exec_storePair exec_at_zeroP exec_at_succP Go.wp_at_zero Go.wp_at_succ
attribute [local go_sem] run_storePair
theorem str_eqq (a b : ByteArray) : (a.toList = b.toList) ↔ a = b := by
  have h := str_beq a b
  rw [Bool.eq_iff_iff] at h
  simpa using h
set_option maxRecDepth 100000 in
set_option maxHeartbeats 4000000 in
theorem refDelete_any {D : Nat → Prop} {w : World} {a : Option Addr} {n c : Nat} {ps : List KV} (h : Ps D w a n c ps) (hn : n ≤ 1000000000) (key : ByteArray) :
    Calls Try.prog 28 #[.slice a n c, .string key] w fun e w' => ∃ v, e = .returned v ∧ w'.ownsRow w.heap.size 65 2 v (ps.filter (fun p => !decide (p.k = key))).length (pcells (ps.filter (fun p => !decide (p.k = key)))) ∧ Below w.heap.size w w' := by
  obtain ⟨P, hP⟩ : ∃ P : KV → Bool, P = (fun p => !decide (p.k = key)) := ⟨_, rfl⟩
  rw [← hP]
  have HPP := Lib.hid hP
  clear hP
  obtain ⟨i0, hi, hz0, hz1, hz2⟩ := info_parts rng_info
  have HP := Lib.hid h
  have HL := Lib.hid h.1
  have hc1 := h.2.2.1
  have hc2 : c ≤ 9223372036854775807 := h.2.2.2.1
  clear h
  go_enter Try.func28, Try.ntmps28
  go_wp2_with fail
  go_loopw [5, 6] (fun u x wr => ∃ j : Nat, x = .int .i64 (j : Int) ∧ j ≤ n ∧ wr.ownsRow w.heap.size 65 2 u ((ps.take j).filter P).length (pcells ((ps.take j).filter P)) ∧ Below w.heap.size w wr) (fun u x _ => n - (intOf x).toNat)
  case atStart => exact ⟨0, rfl, Nat.zero_le _, World.ownsRow_nil _ _ _ _, Below.refl _ _⟩
  case round =>
    obtain ⟨j, rfl, hjn, hrow, hb⟩ := hrel
    have HW := Lib.hid hb
    clear hb
    by_cases hlt : j < n
    · have hlt2 : (j : Int) < (n : Int) := by omega
      have hjl : j < ps.length := by rw [HL.out]; exact hlt
      obtain ⟨b, off, -, hbs, rfl, hcell⟩ := (HP.out.below HW.out).at (by omega)
      have hr := hcell j hjl
      obtain ⟨kv, hkv⟩ : ∃ kv, kv = ps[j]'hjl := ⟨_, rfl⟩
      rw [← hkv] at hr
      obtain ⟨ob, hob⟩ : ∃ ob, ob = off + j * 2 := ⟨_, rfl⟩
      rw [← hob] at hr
      have hob2 : off + j * 2 = ob := hob.symm
      have ld0 := run_loadPair hr
      have c0 : wr.cell? ⟨b, ob, none⟩ = some (.string kv.k) := hr 0 _ rfl
      have HKV : Hid (ps.take (j + 1) = ps.take j ++ [kv]) := Lib.hid (by rw [List.take_succ_eq_append_getElem hjl, hkv])
      have H1C : Hid (∀ u ∈ ([.string kv.k, .string kv.v] : List Value), u.oneCell' = true) := Lib.hid (by simp [Value.oneCell'])
      have hfl : ((ps.take j).filter P).length ≤ j := Nat.le_trans (List.length_filter_le _ _) (by rw [List.length_take]; omega)
      have HK1 : Hid (((ps.take j).filter P).length + 1 ≤ maxLen) := Lib.hid (by unfold maxLen; omega)
      have HK2 : Hid ((((ps.take j).filter P).length + 1) * 32 ≤ 140737488355328) := Lib.hid (by omega)
      have HBS : Hid (∀ tmp : Obj, w.heap.size ≤ (wr.alloc tmp).heap.size) := Lib.hid (fun tmp => by rw [World.size_alloc]; have := HW.out.size; omega)
      have hwj : IntKind.i64.wrap ((j : Int) + 1) = (j : Int) + 1 := i64_id _ (by omega) (by omega)
      clear hcell hr hkv hob hjl hfl
      by_cases hk : kv.k = key
      · have hk1 : kv.k.toList = key.toList := by rw [hk]
        have hk2 : (kv.k.toList == key.toList) = true := by rw [str_beq]; simpa using hk
        have HB : Hid (P kv = false) := Lib.hid (by rw [HPP.out]; simp [hk])
        clear hk
        have HPT : Hid ((ps.take (j + 1)).filter P = (ps.take j).filter P) := Lib.hid (by rw [HKV.out, List.filter_append, List.filter_cons_of_neg (by rw [HB.out]; simp), List.filter_nil, List.append_nil])
        have HR := Lib.hid hrow
        clear hrow
        go_wp2
        go_roundw
        case rel => exact ⟨j + 1, by go_num, by omega, by rw [HPT.out]; exact HR.out, HW.out⟩
        case measure => (try go_num); (try (simp only [intOf])); omega
      · have hk1 : ¬ kv.k.toList = key.toList := fun h => hk ((str_eqq _ _).1 h)
        have hk2 : (kv.k.toList == key.toList) = false := by rw [str_beq]; simpa using hk
        have HB : Hid (P kv = true) := Lib.hid (by rw [HPP.out]; simp [hk])
        clear hk
        have HPT : Hid ((ps.take (j + 1)).filter P = (ps.take j).filter P ++ [kv]) := Lib.hid (by rw [HKV.out, List.filter_append, List.filter_cons_of_pos HB.out, List.filter_nil])
        have HPL : Hid (((ps.take (j + 1)).filter P).length = ((ps.take j).filter P).length + 1) := Lib.hid (by rw [HPT.out, List.length_append]; rfl)
        go_wp2_with (at_builtin; refine wpList_append_own _ rfl (.tmp 20) (.tmp 25) 26 rfl w.heap.size 65 i0 (.agg #[.string ⟨#[]⟩, .string ⟨#[]⟩]) 2 32 Try.underlying26 hi hz0 hz1 hz2 rfl (by decide) _ _ _ rfl (hrow.alloc _) ⟨wr.heap.size, 0, none⟩ 1 1 [.string kv.k, .string kv.v] rfl rfl (two_new _ _ _ _) H1C.out HK1.out HK2.out (HBS.out _) ?_; intro sl' w4 hown' hgrow _; have HO := Lib.hid hown'; have HG := Lib.hid hgrow; have HR := Lib.hid hrow; clear hown' hgrow hrow)
        go_roundw
        case rel => exact ⟨j + 1, by go_num, by omega, by rw [HPL.out, HPT.out, pcells_app]; simpa [pcells, KV.cells] using HO.out, HW.out.trans (ownsRow_grown (v := u5) HR.out HW.out.size HG.out)⟩
        case measure => (try go_num); (try (simp only [intOf])); omega
    · have hge : ¬ (j : Int) < (n : Int) := by omega
      have HR : Hid (wr.ownsRow w.heap.size 65 2 u5 (ps.filter P).length (pcells (ps.filter P))) := Lib.hid (by
        have e : j = ps.length := by have := HL.out; omega
        rw [e, List.take_length] at hrow
        exact hrow)
      clear hrow
      go_wp2
      go_ret
      exact ⟨_, rfl, HR.out, HW.out⟩
set_option maxRecDepth 100000 in
set_option maxHeartbeats 4000000 in
theorem refRange_any {D : Nat → Prop} {w : World} {a : Option Addr} {n c : Nat} {ps : List KV} (h : Ps D w a n c ps) (hn : n ≤ 1000000000) (from_ until_ : ByteArray) :
    Calls Try.prog 48 #[.slice a n c, .string from_, .string until_] w fun e w' => ∃ v, e = .returned v ∧ w'.ownsRow w.heap.size 65 2 v (ps.filter (fun p => decide (0 ≤ cmpK p.k from_) && befK until_ p)).length (pcells (ps.filter (fun p => decide (0 ≤ cmpK p.k from_) && befK until_ p))) ∧ Below w.heap.size w w' := by
  obtain ⟨P, hP⟩ : ∃ P : KV → Bool, P = (fun p => decide (0 ≤ cmpK p.k from_) && befK until_ p) := ⟨_, rfl⟩
  rw [← hP]
  have HPP := Lib.hid hP
  clear hP
  obtain ⟨i0, hi, hz0, hz1, hz2⟩ := info_parts rng_info
  have HP := Lib.hid h
  have HL := Lib.hid h.1
  have hc1 := h.2.2.1
  have hc2 : c ≤ 9223372036854775807 := h.2.2.2.1
  clear h
  go_enter Try.func48, Try.ntmps48
  go_wp2_with fail
  go_loopw [7, 8] (fun u x wr => ∃ j : Nat, x = .int .i64 (j : Int) ∧ j ≤ n ∧ wr.ownsRow w.heap.size 65 2 u ((ps.take j).filter P).length (pcells ((ps.take j).filter P)) ∧ Below w.heap.size w wr) (fun u x _ => n - (intOf x).toNat)
  case atStart => exact ⟨0, rfl, Nat.zero_le _, World.ownsRow_nil _ _ _ _, Below.refl _ _⟩
  case round =>
    obtain ⟨j, rfl, hjn, hrow, hb⟩ := hrel
    have HW := Lib.hid hb
    clear hb
    by_cases hlt : j < n
    · have hlt2 : (j : Int) < (n : Int) := by omega
      have hjl : j < ps.length := by rw [HL.out]; exact hlt
      obtain ⟨b, off, -, hbs, rfl, hcell⟩ := (HP.out.below HW.out).at (by omega)
      have hr := hcell j hjl
      obtain ⟨kv, hkv⟩ : ∃ kv, kv = ps[j]'hjl := ⟨_, rfl⟩
      rw [← hkv] at hr
      obtain ⟨ob, hob⟩ : ∃ ob, ob = off + j * 2 := ⟨_, rfl⟩
      rw [← hob] at hr
      have hob2 : off + j * 2 = ob := hob.symm
      have ld0 := run_loadPair hr
      have c0 : wr.cell? ⟨b, ob, none⟩ = some (.string kv.k) := hr 0 _ rfl
      have HKV : Hid (ps.take (j + 1) = ps.take j ++ [kv]) := Lib.hid (by rw [List.take_succ_eq_append_getElem hjl, hkv])
      have H1C : Hid (∀ u ∈ ([.string kv.k, .string kv.v] : List Value), u.oneCell' = true) := Lib.hid (by simp [Value.oneCell'])
      have hfl : ((ps.take j).filter P).length ≤ j := Nat.le_trans (List.length_filter_le _ _) (by rw [List.length_take]; omega)
      have HK1 : Hid (((ps.take j).filter P).length + 1 ≤ maxLen) := Lib.hid (by unfold maxLen; omega)
      have HK2 : Hid ((((ps.take j).filter P).length + 1) * 32 ≤ 140737488355328) := Lib.hid (by omega)
      have HBS : Hid (∀ tmp : Obj, w.heap.size ≤ (wr.alloc tmp).heap.size) := Lib.hid (fun tmp => by rw [World.size_alloc]; have := HW.out.size; omega)
      have hwj : IntKind.i64.wrap ((j : Int) + 1) = (j : Int) + 1 := i64_id _ (by omega) (by omega)
      clear hcell hr hkv hob hjl hfl
      by_cases hk : cmpK kv.k from_ < 0
      · have hk1 : Op.bytesLess kv.k.toList from_.toList = true := by rw [less_cmpK]; simpa using hk
        have HB : Hid (P kv = false) := Lib.hid (by rw [HPP.out]; simp [show ¬ 0 ≤ cmpK kv.k from_ by omega])
        clear hk
        have HPT : Hid ((ps.take (j + 1)).filter P = (ps.take j).filter P) := Lib.hid (by rw [HKV.out, List.filter_append, List.filter_cons_of_neg (by rw [HB.out]; simp), List.filter_nil, List.append_nil])
        have HR := Lib.hid hrow
        clear hrow
        go_wp2
        go_roundw
        case rel => exact ⟨j + 1, by go_num, by omega, by rw [HPT.out]; exact HR.out, HW.out⟩
        case measure => (try go_num); (try (simp only [intOf])); omega
      · have hk1 : Op.bytesLess kv.k.toList from_.toList = false := by rw [less_cmpK]; simpa using hk
        have HK : Hid (0 ≤ cmpK kv.k from_) := Lib.hid (by omega)
        clear hk
        by_cases hue : until_ = emptyS
        · have hem : until_.toList.isEmpty = true := by rw [emp_iff]; simpa using hue
          have HB : Hid (P kv = true) := Lib.hid (by rw [HPP.out]; simp [HK.out, befK, hue])
          clear hue
          have HPT : Hid ((ps.take (j + 1)).filter P = (ps.take j).filter P ++ [kv]) := Lib.hid (by rw [HKV.out, List.filter_append, List.filter_cons_of_pos HB.out, List.filter_nil])
          have HPL : Hid (((ps.take (j + 1)).filter P).length = ((ps.take j).filter P).length + 1) := Lib.hid (by rw [HPT.out, List.length_append]; rfl)
          go_wp2_with (at_builtin; refine wpList_append_own _ rfl (.tmp 35) (.tmp 40) 26 rfl w.heap.size 65 i0 (.agg #[.string ⟨#[]⟩, .string ⟨#[]⟩]) 2 32 Try.underlying26 hi hz0 hz1 hz2 rfl (by decide) _ _ _ rfl (hrow.alloc _) ⟨wr.heap.size, 0, none⟩ 1 1 [.string kv.k, .string kv.v] rfl rfl (two_new _ _ _ _) H1C.out HK1.out HK2.out (HBS.out _) ?_; intro sl' w4 hown' hgrow _; have HO := Lib.hid hown'; have HG := Lib.hid hgrow; have HR := Lib.hid hrow; clear hown' hgrow hrow)
          go_roundw
          case rel => exact ⟨j + 1, by go_num, by omega, by rw [HPL.out, HPT.out, pcells_app]; simpa [pcells, KV.cells] using HO.out, HW.out.trans (ownsRow_grown (v := u7) HR.out HW.out.size HG.out)⟩
          case measure => (try go_num); (try (simp only [intOf])); omega
        · have hem : until_.toList.isEmpty = false := by rw [emp_iff]; simpa using hue
          by_cases hless : cmpK kv.k until_ < 0
          · have hls : Op.bytesLess kv.k.toList until_.toList = true := by rw [less_cmpK]; simpa using hless
            have HB : Hid (P kv = true) := Lib.hid (by rw [HPP.out]; simp [HK.out, befK, hless])
            clear hue hless
            have HPT : Hid ((ps.take (j + 1)).filter P = (ps.take j).filter P ++ [kv]) := Lib.hid (by rw [HKV.out, List.filter_append, List.filter_cons_of_pos HB.out, List.filter_nil])
            have HPL : Hid (((ps.take (j + 1)).filter P).length = ((ps.take j).filter P).length + 1) := Lib.hid (by rw [HPT.out, List.length_append]; rfl)
            go_wp2_with (at_builtin; refine wpList_append_own _ rfl (.tmp 35) (.tmp 40) 26 rfl w.heap.size 65 i0 (.agg #[.string ⟨#[]⟩, .string ⟨#[]⟩]) 2 32 Try.underlying26 hi hz0 hz1 hz2 rfl (by decide) _ _ _ rfl (hrow.alloc _) ⟨wr.heap.size, 0, none⟩ 1 1 [.string kv.k, .string kv.v] rfl rfl (two_new _ _ _ _) H1C.out HK1.out HK2.out (HBS.out _) ?_; intro sl' w4 hown' hgrow _; have HO := Lib.hid hown'; have HG := Lib.hid hgrow; have HR := Lib.hid hrow; clear hown' hgrow hrow)
            go_roundw
            case rel => exact ⟨j + 1, by go_num, by omega, by rw [HPL.out, HPT.out, pcells_app]; simpa [pcells, KV.cells] using HO.out, HW.out.trans (ownsRow_grown (v := u7) HR.out HW.out.size HG.out)⟩
            case measure => (try go_num); (try (simp only [intOf])); omega
          · have hls : Op.bytesLess kv.k.toList until_.toList = false := by rw [less_cmpK]; simpa using hless
            have HB : Hid (P kv = false) := Lib.hid (by rw [HPP.out]; simp [befK, hless, hue])
            clear hue hless
            have HPT : Hid ((ps.take (j + 1)).filter P = (ps.take j).filter P) := Lib.hid (by rw [HKV.out, List.filter_append, List.filter_cons_of_neg (by rw [HB.out]; simp), List.filter_nil, List.append_nil])
            have HR := Lib.hid hrow
            clear hrow
            go_wp2
            go_roundw
            case rel => exact ⟨j + 1, by go_num, by omega, by rw [HPT.out]; exact HR.out, HW.out⟩
            case measure => (try go_num); (try (simp only [intOf])); omega
    · have hge : ¬ (j : Int) < (n : Int) := by omega
      have HR : Hid (wr.ownsRow w.heap.size 65 2 u7 (ps.filter P).length (pcells (ps.filter P))) := Lib.hid (by
        have e : j = ps.length := by have := HL.out; omega
        rw [e, List.take_length] at hrow
        exact hrow)
      clear hrow
      go_wp2
      go_ret
      exact ⟨_, rfl, HR.out, HW.out⟩
end Go.Proofs.Ytfgmhidgkemfoaa
namespace Go.Proofs.Ytfgmhidgkemfoaa
open Go.RowKit
set_option linter.unusedSimpArgs false
set_option linter.unusedVariables false
theorem ecells_len (ps : List ED) : (ecells ps).length = ps.length * 3 := by
  unfold ecells
  induction ps with
  | nil => rfl
  | cons m r ih => rw [List.flatMap_cons, List.length_append, ih, List.length_cons]; show 3 + _ = _; omega
theorem ecells_get (ps : List ED) (i j : Nat) (hi : i < ps.length) (hj : j < 3) : (ecells ps)[i * 3 + j]? = ps[i].cells[j]? := by
  unfold ecells
  induction ps generalizing i with
  | nil => simp at hi
  | cons m r ih =>
    rw [List.flatMap_cons]
    have hl : m.cells.length = 3 := rfl
    cases i with
    | zero =>
      rw [List.getElem?_append_left (by omega), Nat.zero_mul, Nat.zero_add]
      rfl
    | succ i =>
      rw [List.getElem?_append_right (by omega), show (i + 1) * 3 + j - m.cells.length = i * 3 + j by omega, ih i (by simpa using hi)]
      rfl
/-- a slice of edits -/
def Es (D : Nat → Prop) (w : World) (a : Option Addr) (n c : Nat) (ps : List ED) : Prop := ps.length = n ∧ Sl D w a n c (ecells ps) 3
theorem Es.kept {D S : Nat → Prop} {w w' : World} {a : Option Addr} {n c : Nat} {ps : List ED} (h : Es D w a n c ps) (hk : Kept S w w') (hd : ∀ b, b < w.heap.size → D b → ¬ S b) : Es D w' a n c ps := ⟨h.1, h.2.kept (by decide) hk hd⟩
theorem Es.below {D : Nat → Prop} {w w' : World} {a : Option Addr} {n c : Nat} {ps : List ED} (h : Es D w a n c ps) (hb : Below w.heap.size w w') : Es D w' a n c ps := h.kept (Kept.of_below (fun _ => False) hb) (fun _ _ _ h => h)
theorem Es.at {D : Nat → Prop} {w : World} {a : Option Addr} {n c : Nat} {ps : List ED} (h : Es D w a n c ps) (hp : 0 < n) : ∃ b off, D b ∧ b < w.heap.size ∧ a = some ⟨b, off, none⟩ ∧ ∀ (i : Nat) (hi : i < ps.length), w.rangeAt b (off + i * 3) ps[i].cells := by
  obtain ⟨h1, h2, h3, h4, h5, h6⟩ := h
  obtain ⟨b, off, hD, ha, hr⟩ := h6 hp
  refine ⟨b, off, hD, range_lt hr (by omega), ha, fun i hi j v hv => ?_⟩
  have hj : j < 3 := (List.getElem?_eq_some_iff.1 hv).1
  rw [Nat.add_assoc]
  exact hr (i * 3 + j) v (by rw [ecells_get ps i j hi hj]; exact hv)
def loadEditA (v : Value) : Sem Next := do pure (.value (← Instr.loadAt 61 v))
theorem exec_loadEdit (ρ : Operand → Value) (d : Option Tmp) (x : Operand) (ty : TypeId) (pos : String) (af : Array Edge) (gd : Option (Nat × Bool)) :
    execOp ρ { dst := d, op := .load 61 x, type := ty, pos := pos, after := af, guard := gd } = loadEditA (ρ x) := rfl
theorem run_loadEdit {w : World} {b o : Nat} {p : ED} (h : w.rangeAt b o p.cells) : (loadEditA (.pointer (some ⟨b, o, none⟩))).run Try.prog w = .ok (.value (.agg #[.string p.k, .string p.v, .bool p.d])) w := by
  unfold loadEditA
  simp only [Sem.run_bind, Sem.run_pure, Result.andThen_ok, run_loadAt_mid w b o 61 p.cells _ h Try.underlying61 rfl (by show _ = some 3; kernel_rfl)]
  rfl
attribute [local go_sem ↓] exec_loadPair exec_loadEdit exec_at_zeroP exec_at_succP Go.wp_at_zero Go.wp_at_succ
theorem ED.ext' {p q : ED} (h1 : p.k = q.k) (h2 : p.v = q.v) (h3 : p.d = q.d) : p = q := by cases p; cases q; simp_all
set_option maxRecDepth 100000 in
set_option maxHeartbeats 2000000 in
theorem sameE_any {D D' : Nat → Prop} {w : World} {a b : Option Addr} {n c m e : Nat} {ps qs : List ED} (h : Es D w a n c ps) (h' : Es D' w b m e qs) :
    Calls Try.prog 33 #[.slice a n c, .slice b m e] w fun e w' => e = .returned (.bool (decide (ps = qs))) ∧ Below w.heap.size w w' := by
  have hL := h.1
  have hM := h'.1
  have hc1 := h.2.2.1
  have hc2 : c ≤ 9223372036854775807 := h.2.2.2.1
  have he1 := h'.2.2.1
  have he2 : e ≤ 9223372036854775807 := h'.2.2.2.1
  have HP := Lib.hid h
  have HQ := Lib.hid h'
  have HL := Lib.hid hL
  have HM := Lib.hid hM
  clear h h' hL hM
  by_cases hnm : n = m
  · subst hnm
    obtain ⟨B, hB⟩ : ∃ B, B = decide (ps = qs) := ⟨_, rfl⟩
    rw [← hB]
    have HB := Lib.hid hB
    clear hB
    go_enter Try.func33, Try.ntmps33
    go_wp2
    go_loopw [5] (fun x wr => ∃ j : Nat, x = .int .i64 (j : Int) ∧ j ≤ n ∧ ps.take j = qs.take j ∧ Below w.heap.size w wr) (fun x _ => n - (intOf x).toNat)
    case atStart => exact ⟨0, rfl, Nat.zero_le _, rfl, Below.refl _ _⟩
    case round =>
      obtain ⟨j, rfl, hjn, htk, hb⟩ := hrel
      have HT := Lib.hid htk
      have HW := Lib.hid hb
      clear htk hb
      by_cases hlt : j < n
      · have hlt2 : (j : Int) < (n : Int) := by omega
        have hjl : j < ps.length := by rw [HL.out]; exact hlt
        have hjm : j < qs.length := by rw [HM.out]; exact hlt
        obtain ⟨b1, off1, -, hbs1, rfl, hcell1⟩ := (HP.out.below HW.out).at (by omega)
        obtain ⟨b2, off2, -, hbs2, rfl, hcell2⟩ := (HQ.out.below HW.out).at (by omega)
        have hr1 := hcell1 j hjl
        have hr2 := hcell2 j hjm
        obtain ⟨p, hp⟩ : ∃ p, p = ps[j]'hjl := ⟨_, rfl⟩
        obtain ⟨q, hq⟩ : ∃ q, q = qs[j]'hjm := ⟨_, rfl⟩
        rw [← hp] at hr1
        rw [← hq] at hr2
        obtain ⟨o1, ho1⟩ : ∃ o1, o1 = off1 + j * 3 := ⟨_, rfl⟩
        obtain ⟨o2, ho2⟩ : ∃ o2, o2 = off2 + j * 3 := ⟨_, rfl⟩
        rw [← ho1] at hr1
        rw [← ho2] at hr2
        have hob1 : off1 + j * 3 = o1 := ho1.symm
        have hob2 : off2 + j * 3 = o2 := ho2.symm
        have ld1 : ∀ u : World, u = wr.drew → (loadEditA (.pointer (some ⟨b1, o1, none⟩))).run Try.prog u = .ok (.value (.agg #[.string p.k, .string p.v, .bool p.d])) u := fun u hu => by rw [hu]; exact run_loadEdit (fun j v h => hr1 j v h)
        have ld1 := ld1 _ rfl
        have ld2 : (loadEditA (.pointer (some ⟨b2, o2, none⟩))).run Try.prog wr.drew = .ok (.value (.agg #[.string q.k, .string q.v, .bool q.d])) wr.drew := run_loadEdit (fun j v h => hr2 j v h)
        have HPQ : Hid (ps[j]'hjl = p ∧ qs[j]'hjm = q) := Lib.hid ⟨hp.symm, hq.symm⟩
        have hwj : IntKind.i64.wrap ((j : Int) + 1) = (j : Int) + 1 := i64_id _ (by omega) (by omega)
        clear hcell1 hcell2 hr1 hr2 hp hq ho1 ho2
        by_cases hpq : p = q
        · subst hpq
          go_wp2
          go_region
          go_wp2
          go_roundw
          case rel => exact ⟨j + 1, by go_num, by omega, by rw [List.take_succ_eq_append_getElem (by rw [HL.out]; omega), List.take_succ_eq_append_getElem (by rw [HM.out]; omega), HT.out, HPQ.out.1, HPQ.out.2], HW.out.drew⟩
          case measure => (try go_num); (try (simp only [intOf])); omega
        · have HNE : Hid (B = false) := Lib.hid (by rw [HB.out]; exact decide_eq_false (fun e => hpq (by have h1 := HPQ.out; subst e; exact h1.1.symm.trans h1.2)))
          by_cases hk : p.k = q.k
          · have hk1 : p.k.toList = q.k.toList := by rw [hk]
            by_cases hv : p.v = q.v
            · have hv1 : p.v.toList = q.v.toList := by rw [hv]
              have hd1 : ¬ p.d = q.d := fun h => hpq (ED.ext' hk hv h)
              clear hpq hk hv
              go_wp2
              go_region
              go_wp2
              go_ret
              exact ⟨by rw [HNE.out]; rfl, HW.out.drew⟩
            · have hv1 : ¬ p.v.toList = q.v.toList := fun h => hv ((str_eq _ _).1 h)
              clear hpq hk hv
              go_wp2
              go_region
              go_wp2
              go_ret
              exact ⟨by rw [HNE.out]; rfl, HW.out.drew⟩
          · have hk1 : ¬ p.k.toList = q.k.toList := fun h => hk ((str_eq _ _).1 h)
            clear hpq hk
            go_wp2
            go_region
            go_wp2
            go_ret
            exact ⟨by rw [HNE.out]; rfl, HW.out.drew⟩
      · have hge : ¬ (j : Int) < (n : Int) := by omega
        have HE : Hid (B = true) := Lib.hid (by
          rw [HB.out]
          have e1 : j = ps.length := by have := HL.out; omega
          have e2 : j = qs.length := by have := HM.out; omega
          have h := HT.out
          rw [e1, List.take_length, ← e1, e2, List.take_length] at h
          exact decide_eq_true h)
        go_wp2
        go_ret
        exact ⟨by rw [HE.out]; rfl, HW.out⟩
  · have HE : Hid (decide (ps = qs) = false) := Lib.hid (decide_eq_false (fun e => hnm (by rw [← HL.out, ← HM.out, e])))
    rw [HE.out]
    have hne : ¬ (n : Int) = (m : Int) := by omega
    clear hnm
    go_enter Try.func33, Try.ntmps33
    go_wp2
    go_ret
    exact ⟨rfl, Below.refl _ _⟩
end Go.Proofs.Ytfgmhidgkemfoaa
namespace Go.Proofs.Ytfgmhidgkemfoaa
open Go.RowKit
set_option linter.unusedSimpArgs false
set_option linter.unusedVariables false
attribute [local go_sem ↓] exec_loadPair exec_at_zeroP exec_at_succP Go.wp_at_zero Go.wp_at_succ
/-- where a key belongs, in the reference -/
def plc (ps : List KV) (key : ByteArray) : Nat := (ps.takeWhile fun p => decide (cmpK p.k key < 0)).length
theorem plc_le (ps : List KV) (key : ByteArray) : plc ps key ≤ ps.length := (List.takeWhile_prefix _).length_le
/-- the value of a key, in the reference -/
def gotR (ps : List KV) (key : ByteArray) : Option ByteArray := match ps[plc ps key]? with
  | some p => if p.k = key then some p.v else none
  | none => none
set_option maxRecDepth 100000 in
set_option maxHeartbeats 2000000 in
theorem refGet_any {D : Nat → Prop} {w : World} {a : Option Addr} {n c : Nat} {ps : List KV} (h : Ps D w a n c ps) (key : ByteArray) :
    Calls Try.prog 46 #[.slice a n c, .string key] w fun e w' => e = .returned (.tuple #[.string (strO (gotR ps key)), .bool (gotR ps key).isSome]) ∧ w = w' := by
  have HPL := Lib.hid (place_any h key)
  have hL := h.1
  have hc1 := h.2.2.1
  have hc2 : c ≤ 9223372036854775807 := h.2.2.2.1
  have HP := Lib.hid h
  have HL := Lib.hid hL
  obtain ⟨k, hk⟩ : ∃ k, k = plc ps key := ⟨_, rfl⟩
  have hkn : k ≤ n := by rw [hk, ← hL]; exact plc_le _ _
  have HPL : Hid (Calls Try.prog 53 #[.slice a n c, .string key] w fun e w' => e = .returned (.int .i64 (k : Int)) ∧ w = w') := Lib.hid (by rw [hk]; exact HPL.out)
  obtain ⟨G, hG⟩ : ∃ G, G = gotR ps key := ⟨_, rfl⟩
  rw [← hG]
  have hG2 : G = match ps[k]? with | some p => if p.k = key then some p.v else none | none => none := by rw [hG, hk]; rfl
  have HG := Lib.hid hG2
  clear h hL hk hG hG2
  by_cases hlt : k < n
  · have hlt2 : (k : Int) < (n : Int) := by omega
    have hkl : k < ps.length := by rw [HL.out]; exact hlt
    obtain ⟨b, off, -, hbs, rfl, hcell⟩ := HP.out.at (by omega)
    have hr := hcell k hkl
    obtain ⟨kv, hkv⟩ : ∃ kv, kv = ps[k]'hkl := ⟨_, rfl⟩
    rw [← hkv] at hr
    have HG3 : Hid (G = if kv.k = key then some kv.v else none) := Lib.hid (by rw [HG.out, List.getElem?_eq_getElem hkl, ← hkv])
    obtain ⟨ob, hob⟩ : ∃ ob, ob = off + k * 2 := ⟨_, rfl⟩
    rw [← hob] at hr
    have hob2 : off + k * 2 = ob := hob.symm
    have c0 : w.cell? ⟨b, ob, none⟩ = some (.string kv.k) := hr 0 _ rfl
    have c1 : w.cell? ⟨b, ob + 1, none⟩ = some (.string kv.v) := hr 1 _ rfl
    clear hcell hr hkv hob hkl HG
    by_cases he : kv.k = key
    · have he1 : kv.k.toList = key.toList := by rw [he]
      have he2 : (kv.k.toList == key.toList) = true := by rw [str_beq]; simpa using he
      have HR : Hid (G = some kv.v) := Lib.hid (by rw [HG3.out, if_pos he])
      clear he HG3
      rw [HR.out]
      go_enter Try.func46, Try.ntmps46
      go_wp2_with (go_at_call 53; refine HPL.out.mono ?_; rintro e w2 ⟨rfl, rfl⟩)
      go_ret2
      exact ⟨rfl, rfl⟩
    · have he1 : ¬ kv.k.toList = key.toList := fun h => he ((str_eqq _ _).1 h)
      have he2 : (kv.k.toList == key.toList) = false := by rw [str_beq]; simpa using he
      have HR : Hid (G = none) := Lib.hid (by rw [HG3.out, if_neg he])
      clear he HG3
      rw [HR.out]
      go_enter Try.func46, Try.ntmps46
      go_wp2_with (go_at_call 53; refine HPL.out.mono ?_; rintro e w2 ⟨rfl, rfl⟩)
      go_ret2
      exact ⟨rfl, rfl⟩
  · have hge : ¬ (k : Int) < (n : Int) := by omega
    have HR : Hid (G = none) := Lib.hid (by rw [HG.out, List.getElem?_eq_none (by have := HL.out; omega)])
    rw [HR.out]
    clear HG hlt
    go_enter Try.func46, Try.ntmps46
    go_wp2_with (go_at_call 53; refine HPL.out.mono ?_; rintro e w2 ⟨rfl, rfl⟩)
    go_ret2
    exact ⟨rfl, rfl⟩
end Go.Proofs.Ytfgmhidgkemfoaa
namespace Go.Proofs.Ytfgmhidgkemfoaa
open Go.RowKit
set_option linter.unusedSimpArgs false
set_option linter.unusedVariables false
attribute [local go_sem ↓] exec_loadPair exec_at_zeroP exec_at_succP Go.wp_at_zero Go.wp_at_succ
/-- how many pairs of a key there are at its place: none or one -/
def hasR (ps : List KV) (key : ByteArray) : Nat := match ps[plc ps key]? with
  | some p => if p.k = key then 1 else 0
  | none => 0
def putR (ps : List KV) (key value : ByteArray) : List KV := if key.size ≤ 60 ∧ value.size ≤ 1000 then ps.take (plc ps key) ++ [⟨key, value⟩] ++ ps.drop (plc ps key + hasR ps key) else ps
theorem two_src (W : World) (t tx : TypeId) (a b : Value) (ha : a.oneCell' = true) (hb : b.oneCell' = true) (hu : Try.prog.underlying tx = some (.slice t)) : Src Try.prog 2 tx (.slice (some ⟨W.heap.size, 0, none⟩) 1 1) 1 [a, b] (W.alloc (.cells #[a, b] t)) := by
  have h : Sl (fun _ => True) (W.alloc (.cells #[a, b] t)) (some ⟨W.heap.size, 0, none⟩) 1 1 [a, b] 2 := by
    refine ⟨rfl, Nat.le_refl _, by decide, by simp, fun _ => ⟨W.heap.size, 0, trivial, rfl, fun j v hv => ?_⟩⟩
    rw [Nat.zero_add]
    rcases j with _ | _ | j
    · obtain rfl : a = v := by simpa using hv
      exact cell_of_row (W.alloc (.cells #[a, b] t)) W.heap.size 0 #[a, b] _ _ (World.alloc_heap_new W _)
    · obtain rfl : b = v := by simpa using hv
      exact cell_of_row (W.alloc (.cells #[a, b] t)) W.heap.size 1 #[a, b] _ _ (World.alloc_heap_new W _)
    · simp at hv
  exact h.src hu (fun u hu => by
    rcases List.mem_cons.1 hu with rfl | hu
    · exact ha
    · rw [List.mem_singleton.1 hu]; exact hb)
/-- the part of a slice up to an index -/
theorem Ps.upto {D : Nat → Prop} {w : World} {a : Option Addr} {n c : Nat} {ps : List KV} (h : Ps D w a n c ps) (k : Nat) (hk : k ≤ n) : Ps D w a k c (ps.take k) := by
  obtain ⟨a', ha, hp⟩ := h.part 0 k (Nat.zero_le _) hk
  have : a' = a := by rw [ha]; cases a with | none => rfl | some x => simp
  rw [this, Nat.sub_zero, Nat.sub_zero, List.drop_zero] at hp
  exact hp
/-- the part of a slice from an index on: slicing leaves the address alone where no room is left -/
theorem Ps.fromK {D : Nat → Prop} {w : World} {a : Option Addr} {n c : Nat} {ps : List KV} (h : Ps D w a n c ps) (k : Nat) (hk : k ≤ n) : Ps D w (if c = k then a else a.map fun x => ⟨x.block, x.off + k * 2, x.spot⟩) (n - k) (c - k) (ps.drop k) := by
  obtain ⟨a', ha, hp⟩ := h.part k n hk (Nat.le_refl _)
  rw [← h.1, List.take_length, h.1] at hp
  by_cases hc : c = k
  · rw [if_pos hc]
    have hn : n - k = 0 := by have := h.2.2.1; omega
    have hck : c - k = 0 := by omega
    rw [hn, hck] at hp ⊢
    obtain ⟨h1, h2, h3, h4, h5, h6⟩ := hp
    exact ⟨h1, h2, h3, h4, fun _ => rfl, fun h => absurd h (by omega)⟩
  · rw [if_neg hc, ← ha]
    exact hp
end Go.Proofs.Ytfgmhidgkemfoaa
namespace Go.Proofs.Ytfgmhidgkemfoaa
open Go.RowKit
set_option linter.unusedSimpArgs false
set_option linter.unusedVariables false
attribute [local go_sem ↓] exec_loadPair exec_at_zeroP exec_at_succP Go.wp_at_zero Go.wp_at_succ
def RefPut (D : Nat → Prop) (w : World) (ps : List KV) (key value : ByteArray) (e : Ending) (w' : World) : Prop := ∃ a n c, e = .returned (.slice a n c) ∧ Ps (fun b => D b ∨ w.heap.size ≤ b) w' a n c (putR ps key value) ∧ Below w.heap.size w w'
set_option maxRecDepth 100000 in
set_option maxHeartbeats 4000000 in
theorem refPut_some {D : Nat → Prop} {w : World} {ad : Addr} {n c : Nat} {ps : List KV} (h : Ps D w (some ad) n c ps) (hn : n ≤ 1000000) (key value : ByteArray) (hks : key.size < 9223372036854775808) (hvs : value.size < 9223372036854775808) (hok : key.size ≤ 60 ∧ value.size ≤ 1000) :
    Calls Try.prog 26 #[.slice (some ad) n c, .string key, .string value] w (RefPut D w ps key value) := by
  obtain ⟨i0, hi, hz0, hz1, hz2⟩ := info_parts infoP
  have HPM : Hid (Calls Try.prog 52 #[.string key, .string value] w fun e w' => e = .returned (.bool true) ∧ w = w') := Lib.hid (by
    have := permitted_any (w := w) key value hks hvs
    rw [decide_eq_true hok] at this
    exact this)
  obtain ⟨k, hk⟩ : ∃ k, k = plc ps key := ⟨_, rfl⟩
  obtain ⟨z, hz⟩ : ∃ z, z = hasR ps key := ⟨_, rfl⟩
  have HPL : Hid (Calls Try.prog 53 #[.slice (some ad) n c, .string key] w fun e w' => e = .returned (.int .i64 (k : Int)) ∧ w = w') := Lib.hid (by rw [hk]; exact place_any h key)
  have HPR : Hid (putR ps key value = ps.take k ++ [⟨key, value⟩] ++ ps.drop (k + z)) := Lib.hid (by unfold putR; rw [if_pos hok, hk, hz])
  have hkn : k ≤ n := by rw [hk, ← h.1]; exact plc_le _ _
  have HZ : Hid (z = match ps[k]? with | some p => if p.k = key then 1 else 0 | none => 0) := Lib.hid (by rw [hz, hk]; rfl)
  have hc1 := h.2.2.1
  have hc2 : c ≤ 9223372036854775807 := h.2.2.2.1
  have HP := Lib.hid h
  have HL := Lib.hid h.1
  have HS1 : Hid (Src Try.prog 2 26 (.slice (some ad) k c) k (pcells (ps.take k)) w) := Lib.hid ((h.upto k hkn).2.src Try.underlying26 (pcells_one _))
  have hkc : (k : Int) ≤ (c : Int) := by omega
  have HB1 : Hid (0 + k ≤ maxLen ∧ (0 + k) * 32 ≤ 140737488355328) := Lib.hid ⟨by unfold maxLen; omega, by omega⟩
  have HB2 : Hid (0 + k + 1 ≤ maxLen ∧ (0 + k + 1) * 32 ≤ 140737488355328) := Lib.hid ⟨by unfold maxLen; omega, by omega⟩
  clear h hk hz hks hvs hok
  go_enter Try.func26, Try.ntmps26
  go_upto_region 6 with (first
    | (go_at_call 52; refine HPM.out.mono ?_; rintro e w2 ⟨rfl, rfl⟩)
    | (go_at_call 53; refine HPL.out.mono ?_; rintro e w2 ⟨rfl, rfl⟩)
    | (at_builtin; refine wpList_append_any _ rfl (.tmp 17) (.tmp 20) 26 26 rfl 65 i0 (.agg #[.string ⟨#[]⟩, .string ⟨#[]⟩]) 2 32 Try.underlying26 hi hz0 hz1 hz2 rfl none _ 0 [] rfl (Own.nil _ _ _) k (pcells (ps.take k)) HS1.out HB1.out.1 HB1.out.2 ?_; intro k1 v1 w1 ho1 hf1 hK1 _; have HO1 := Lib.hid ho1; have HF1 := Lib.hid hf1; have HK1 := Lib.hid hK1; clear ho1 hf1 hK1))
  have h2s : Src Try.prog 2 26 (.slice (some ⟨w1.heap.size, 0, none⟩) 1 1) 1 [.string key, .string value] (w1.alloc (.cells #[.string key, .string value] 65)) := two_src w1 _ _ _ _ rfl rfl Try.underlying26
  have HS2 := Lib.hid h2s
  clear h2s
  go_upto_region 7 with (at_builtin; refine wpList_append_any _ rfl (.tmp 22) (.tmp 26) 26 26 rfl 65 i0 (.agg #[.string ⟨#[]⟩, .string ⟨#[]⟩]) 2 32 Try.underlying26 hi hz0 hz1 hz2 rfl k1 v1 (0 + k) _ rfl (HO1.out.kept ((Kept.refl (fun _ => False) w1).alloc _) (fun _ _ h => h)) 1 [.string key, .string value] HS2.out HB2.out.1 HB2.out.2 ?_; intro k2 v2 w2 ho2 hf2 hK2 _; have HO2 := Lib.hid ho2; have HF2 := Lib.hid hf2; have HK2 := Lib.hid hK2; clear ho2 hf2 hK2)
  have hw1 : Below w.heap.size w w1 := HK1.out.below (Nat.le_refl _) (fun j hj h => by cases h)
  have hw2 : Below w.heap.size w w2 := hw1.trans (((Below.refl w.heap.size w1).alloc hw1.size _).trans (HK2.out.below (by rw [World.size_alloc]; have := hw1.size; omega) (fun j hj h => by
    rcases HF1.out j h with h1 | h1
    · cases h1
    · omega)))
  have hd2 : ∀ j, k2 = some j → w.heap.size ≤ j := fun j h => by
    rcases HF2.out j h with h1 | h1
    · rcases HF1.out j h1 with h2 | h2
      · cases h2
      · exact h2
    · rw [World.size_alloc] at h1
      have := hw1.size
      omega
  have FIN : Hid (∀ (k3 : Option Nat) (v3 : Value) (w3 : World) (m kz : Nat), (ps.drop kz).length = m → putR ps key value = ps.take k ++ [⟨key, value⟩] ++ ps.drop kz →
      Own w3 65 2 k3 v3 (0 + k + 1 + m) ([] ++ pcells (ps.take k) ++ [.string key, .string value] ++ pcells (ps.drop kz)) → (∀ j, k3 = some j → k2 = some j ∨ w2.heap.size ≤ j) → Kept (fun j => k2 = some j) w2 w3 → RefPut D w ps key value (.returned v3) w3) := Lib.hid (by
    intro k3 v3 w3 m kz hm hp ho hf hK
    obtain ⟨a3, c3, rfl, hsl⟩ := ho.sl
    refine ⟨a3, _, c3, rfl, ⟨?_, ?_⟩, hw2.trans (hK.below hw2.size (fun j hj h => by have := hd2 j h; omega))⟩
    · rw [hp]
      simp only [List.length_append, List.length_take, List.length_cons, List.length_nil, hm]
      have := HL.out
      omega
    · rw [hp, pcells_app, pcells_app]
      have e : pcells [(⟨key, value⟩ : KV)] = [.string key, .string value] := rfl
      rw [e]
      rw [List.nil_append] at hsl
      refine hsl.dom (fun b hb => .inr ?_)
      rcases hf b hb with h | h
      · exact hd2 b h
      · have := hw2.size
        omega)
  have HW2 : Hid (Below w.heap.size w w2) := Lib.hid hw2
  clear hw1 hw2 hd2
  by_cases hlt : k < n
  · have hlt2 : (k : Int) < (n : Int) := by omega
    have hkl : k < ps.length := by rw [HL.out]; exact hlt
    obtain ⟨b, off, -, hbs, hab, hcell⟩ := HP.out.at (by omega)
    obtain rfl : ad = ⟨b, off, none⟩ := Option.some.inj hab
    have hr := range_below (hcell k hkl) (by simp [KV.cells]) HW2.out
    obtain ⟨kv, hkv⟩ : ∃ kv, kv = ps[k]'hkl := ⟨_, rfl⟩
    rw [← hkv] at hr
    obtain ⟨ob, hob⟩ : ∃ ob, ob = off + k * 2 := ⟨_, rfl⟩
    rw [← hob] at hr
    have hob2 : off + k * 2 = ob := hob.symm
    have c0 : w2.cell? ⟨b, ob, none⟩ = some (.string kv.k) := hr 0 _ rfl
    have HZ2 : Hid (z = if kv.k = key then 1 else 0) := Lib.hid (by rw [HZ.out, List.getElem?_eq_getElem hkl, ← hkv])
    have hwk : IntKind.i64.wrap ((k : Int) + 1) = ((k + 1 : Nat) : Int) := by rw [i64_id _ (by omega) (by omega)]; omega
    clear hcell hr hkv hob hkl hab hbs
    by_cases he : kv.k = key
    · have he1 : kv.k.toList = key.toList := by rw [he]
      have he2 : (kv.k.toList == key.toList) = true := by rw [str_beq]; simpa using he
      have hz1' : z = 1 := by rw [HZ2.out, if_pos he]
      have HPR2 : Hid (putR ps key value = ps.take k ++ [⟨key, value⟩] ++ ps.drop (k + 1)) := Lib.hid (by rw [HPR.out, hz1'])
      have hkn1 : ((k + 1 : Nat) : Int) ≤ (n : Int) := by omega
      have hkc1 : ((k + 1 : Nat) : Int) ≤ (c : Int) := by omega
      have hkn2 : k + 1 ≤ n := by omega
      clear he hz1'
      by_cases hck : c = k + 1
      · have hsrc := HP.out.fromK (k + 1) hkn2
        rw [if_pos hck] at hsrc
        rw [show c - (k + 1) = 0 by omega] at hsrc
        have HSRC := Lib.hid hsrc
        clear hsrc
        have HS3 : Hid (Src Try.prog 2 26 (.slice (some ⟨b, off, none⟩) (n - (k + 1)) (0)) (n - (k + 1)) (pcells (ps.drop (k + 1))) w2) := Lib.hid (((HSRC.out).below HW2.out).2.src Try.underlying26 (pcells_one _))
        have HB3 : Hid (0 + k + 1 + (n - (k + 1)) ≤ maxLen ∧ (0 + k + 1 + (n - (k + 1))) * 32 ≤ 140737488355328) := Lib.hid ⟨by unfold maxLen; omega, by omega⟩
        go_wp2_with (at_builtin; go_loud (refine wpList_append_any _ rfl (.tmp 43) (.tmp 46) 26 26 rfl 65 i0 (.agg #[.string ⟨#[]⟩, .string ⟨#[]⟩]) 2 32 Try.underlying26 hi hz0 hz1 hz2 rfl k2 v2 (0 + k + 1) _ rfl HO2.out (n - (k + 1)) (pcells (ps.drop (k + 1))) HS3.out HB3.out.1 HB3.out.2 ?_); intro k3 v3 w3 ho3 hf3 hK3 _; have HO3 := Lib.hid ho3; have HF3 := Lib.hid hf3; have HK3 := Lib.hid hK3; clear ho3 hf3 hK3)
        go_ret
        exact FIN.out _ _ _ _ (k + 1) (by have := HL.out; rw [List.length_drop]; omega) HPR2.out HO3.out HF3.out HK3.out
      · have hsrc := HP.out.fromK (k + 1) hkn2
        rw [if_neg hck] at hsrc
        have HSRC : Hid (Ps D w (some ⟨b, off + (k + 1) * 2, none⟩) (n - (k + 1)) (c - (k + 1)) (ps.drop (k + 1))) := Lib.hid hsrc
        clear hsrc
        have HS3 : Hid (Src Try.prog 2 26 (.slice (some ⟨b, off + (k + 1) * 2, none⟩) (n - (k + 1)) (c - (k + 1))) (n - (k + 1)) (pcells (ps.drop (k + 1))) w2) := Lib.hid (((HSRC.out).below HW2.out).2.src Try.underlying26 (pcells_one _))
        have HB3 : Hid (0 + k + 1 + (n - (k + 1)) ≤ maxLen ∧ (0 + k + 1 + (n - (k + 1))) * 32 ≤ 140737488355328) := Lib.hid ⟨by unfold maxLen; omega, by omega⟩
        go_wp2_with (at_builtin; go_loud (refine wpList_append_any _ rfl (.tmp 43) (.tmp 46) 26 26 rfl 65 i0 (.agg #[.string ⟨#[]⟩, .string ⟨#[]⟩]) 2 32 Try.underlying26 hi hz0 hz1 hz2 rfl k2 v2 (0 + k + 1) _ rfl HO2.out (n - (k + 1)) (pcells (ps.drop (k + 1))) HS3.out HB3.out.1 HB3.out.2 ?_); intro k3 v3 w3 ho3 hf3 hK3 _; have HO3 := Lib.hid ho3; have HF3 := Lib.hid hf3; have HK3 := Lib.hid hK3; clear ho3 hf3 hK3)
        go_ret
        exact FIN.out _ _ _ _ (k + 1) (by have := HL.out; rw [List.length_drop]; omega) HPR2.out HO3.out HF3.out HK3.out
    · have he1 : ¬ kv.k.toList = key.toList := fun h => he ((str_eqq _ _).1 h)
      have he2 : (kv.k.toList == key.toList) = false := by rw [str_beq]; simpa using he
      have hz1' : z = 0 := by rw [HZ2.out, if_neg he]
      have HPR2 : Hid (putR ps key value = ps.take k ++ [⟨key, value⟩] ++ ps.drop k) := Lib.hid (by rw [HPR.out, hz1', Nat.add_zero])
      have hkn1 : (k : Int) ≤ (n : Int) := by omega
      have hck : ¬ c = k := by omega
      have hsrc := HP.out.fromK k hkn
      rw [if_neg hck] at hsrc
      have HSRC : Hid (Ps D w (some ⟨b, ob, none⟩) (n - k) (c - k) (ps.drop k)) := Lib.hid (by rw [← hob2]; exact hsrc)
      clear he hz1' hsrc
      go_upto_region 9 with fail
      have HS3 : Hid (Src Try.prog 2 26 (.slice (some ⟨b, ob, none⟩) (n - k) (c - k)) (n - k) (pcells (ps.drop (k))) w2) := Lib.hid (((HSRC.out).below HW2.out).2.src Try.underlying26 (pcells_one _))
      have HB3 : Hid (0 + k + 1 + (n - k) ≤ maxLen ∧ (0 + k + 1 + (n - k)) * 32 ≤ 140737488355328) := Lib.hid ⟨by unfold maxLen; omega, by omega⟩
      go_wp2_with (at_builtin; go_loud (refine wpList_append_any _ rfl (.tmp 43) (.tmp 46) 26 26 rfl 65 i0 (.agg #[.string ⟨#[]⟩, .string ⟨#[]⟩]) 2 32 Try.underlying26 hi hz0 hz1 hz2 rfl k2 v2 (0 + k + 1) _ rfl HO2.out (n - k) (pcells (ps.drop (k))) HS3.out HB3.out.1 HB3.out.2 ?_); intro k3 v3 w3 ho3 hf3 hK3 _; have HO3 := Lib.hid ho3; have HF3 := Lib.hid hf3; have HK3 := Lib.hid hK3; clear ho3 hf3 hK3)
      go_ret
      exact FIN.out _ _ _ _ (k) (by have := HL.out; rw [List.length_drop]; omega) HPR2.out HO3.out HF3.out HK3.out
  · have hge : ¬ (k : Int) < (n : Int) := by omega
    have hz1' : z = 0 := by rw [HZ.out, List.getElem?_eq_none (by have := HL.out; omega)]
    have HPR2 : Hid (putR ps key value = ps.take k ++ [⟨key, value⟩] ++ ps.drop k) := Lib.hid (by rw [HPR.out, hz1', Nat.add_zero])
    have hkn1 : (k : Int) ≤ (n : Int) := by omega
    have hsrc := HP.out.fromK k hkn
    clear hz1'
    by_cases hck : c = k
    · rw [if_pos hck, show c - k = 0 by omega] at hsrc
      have HSRC := Lib.hid hsrc
      clear hsrc
      go_upto_region 9 with fail
      have HS3 : Hid (Src Try.prog 2 26 (.slice (some ad) (n - k) (0)) (n - k) (pcells (ps.drop (k))) w2) := Lib.hid (((HSRC.out).below HW2.out).2.src Try.underlying26 (pcells_one _))
      have HB3 : Hid (0 + k + 1 + (n - k) ≤ maxLen ∧ (0 + k + 1 + (n - k)) * 32 ≤ 140737488355328) := Lib.hid ⟨by unfold maxLen; omega, by omega⟩
      go_wp2_with (at_builtin; go_loud (refine wpList_append_any _ rfl (.tmp 43) (.tmp 46) 26 26 rfl 65 i0 (.agg #[.string ⟨#[]⟩, .string ⟨#[]⟩]) 2 32 Try.underlying26 hi hz0 hz1 hz2 rfl k2 v2 (0 + k + 1) _ rfl HO2.out (n - k) (pcells (ps.drop (k))) HS3.out HB3.out.1 HB3.out.2 ?_); intro k3 v3 w3 ho3 hf3 hK3 _; have HO3 := Lib.hid ho3; have HF3 := Lib.hid hf3; have HK3 := Lib.hid hK3; clear ho3 hf3 hK3)
      go_ret
      exact FIN.out _ _ _ _ (k) (by have := HL.out; rw [List.length_drop]; omega) HPR2.out HO3.out HF3.out HK3.out
    · rw [if_neg hck] at hsrc
      by_cases hn0 : n = 0
      · have hk0 : k = 0 := by omega
        subst hk0
        have HSRC : Hid (Ps D w (some ad) 0 c (ps.drop 0)) := Lib.hid (by simpa [hn0] using hsrc)
        clear hsrc
        go_upto_region 9 with fail
        have HS3 : Hid (Src Try.prog 2 26 (.slice (some ad) (0) (c)) (0) (pcells (ps.drop (0))) w2) := Lib.hid (((HSRC.out).below HW2.out).2.src Try.underlying26 (pcells_one _))
        have HB3 : Hid (0 + 0 + 1 + (0) ≤ maxLen ∧ (0 + 0 + 1 + (0)) * 32 ≤ 140737488355328) := Lib.hid ⟨by unfold maxLen; omega, by omega⟩
        go_wp2_with (at_builtin; go_loud (refine wpList_append_any _ rfl (.tmp 43) (.tmp 46) 26 26 rfl 65 i0 (.agg #[.string ⟨#[]⟩, .string ⟨#[]⟩]) 2 32 Try.underlying26 hi hz0 hz1 hz2 rfl k2 v2 (0 + 0 + 1) _ rfl HO2.out (0) (pcells (ps.drop (0))) HS3.out HB3.out.1 HB3.out.2 ?_); intro k3 v3 w3 ho3 hf3 hK3 _; have HO3 := Lib.hid ho3; have HF3 := Lib.hid hf3; have HK3 := Lib.hid hK3; clear ho3 hf3 hK3)
        go_ret
        exact FIN.out _ _ _ _ (0) (by have := HL.out; rw [List.length_drop]; omega) HPR2.out HO3.out HF3.out HK3.out
      · obtain ⟨b, off, -, hbs, hab, hcell⟩ := HP.out.at (by omega)
        obtain rfl : ad = ⟨b, off, none⟩ := Option.some.inj hab
        have HSRC : Hid (Ps D w (some ⟨b, off + k * 2, none⟩) (n - k) (c - k) (ps.drop k)) := Lib.hid hsrc
        clear hsrc hbs hab hcell
        go_upto_region 9 with fail
        have HS3 : Hid (Src Try.prog 2 26 (.slice (some ⟨b, off + k * 2, none⟩) (n - k) (c - k)) (n - k) (pcells (ps.drop (k))) w2) := Lib.hid (((HSRC.out).below HW2.out).2.src Try.underlying26 (pcells_one _))
        have HB3 : Hid (0 + k + 1 + (n - k) ≤ maxLen ∧ (0 + k + 1 + (n - k)) * 32 ≤ 140737488355328) := Lib.hid ⟨by unfold maxLen; omega, by omega⟩
        go_wp2_with (at_builtin; go_loud (refine wpList_append_any _ rfl (.tmp 43) (.tmp 46) 26 26 rfl 65 i0 (.agg #[.string ⟨#[]⟩, .string ⟨#[]⟩]) 2 32 Try.underlying26 hi hz0 hz1 hz2 rfl k2 v2 (0 + k + 1) _ rfl HO2.out (n - k) (pcells (ps.drop (k))) HS3.out HB3.out.1 HB3.out.2 ?_); intro k3 v3 w3 ho3 hf3 hK3 _; have HO3 := Lib.hid ho3; have HF3 := Lib.hid hf3; have HK3 := Lib.hid hK3; clear ho3 hf3 hK3)
        go_ret
        exact FIN.out _ _ _ _ (k) (by have := HL.out; rw [List.length_drop]; omega) HPR2.out HO3.out HF3.out HK3.out
end Go.Proofs.Ytfgmhidgkemfoaa
namespace Go.Proofs.Ytfgmhidgkemfoaa
open Go.RowKit
set_option linter.unusedSimpArgs false
set_option linter.unusedVariables false
attribute [local go_sem ↓] exec_loadPair exec_at_zeroP exec_at_succP Go.wp_at_zero Go.wp_at_succ
set_option maxRecDepth 100000 in
set_option maxHeartbeats 1000000 in
theorem refPut_none {D : Nat → Prop} {w : World} (key value : ByteArray) (hks : key.size < 9223372036854775808) (hvs : value.size < 9223372036854775808) (hok : key.size ≤ 60 ∧ value.size ≤ 1000) :
    Calls Try.prog 26 #[.slice none 0 0, .string key, .string value] w (RefPut D w [] key value) := by
  obtain ⟨i0, hi, hz0, hz1, hz2⟩ := info_parts infoP
  have hnil : ∀ w : World, Ps D w none 0 0 [] := fun w => ⟨rfl, rfl, Nat.le_refl _, by decide, fun _ => rfl, fun h => absurd h (by omega)⟩
  have HPM : Hid (Calls Try.prog 52 #[.string key, .string value] w fun e w' => e = .returned (.bool true) ∧ w = w') := Lib.hid (by
    have := permitted_any (w := w) key value hks hvs
    rw [decide_eq_true hok] at this
    exact this)
  have HPL : Hid (Calls Try.prog 53 #[.slice none 0 0, .string key] w fun e w' => e = .returned (.int .i64 0) ∧ w = w') := Lib.hid (place_any (hnil w) key)
  have HPR : Hid (putR [] key value = [⟨key, value⟩]) := Lib.hid (by unfold putR; rw [if_pos hok]; simp)
  have HS1 : Hid (∀ w, Src Try.prog 2 26 (.slice none 0 0) 0 [] w) := Lib.hid (fun w => (hnil w).2.src Try.underlying26 (by simp [pcells]))
  have HB1 : Hid (0 + 0 ≤ maxLen ∧ (0 + 0) * 32 ≤ 140737488355328) := Lib.hid ⟨by decide, by decide⟩
  have HB2 : Hid (0 + 0 + 1 ≤ maxLen ∧ (0 + 0 + 1) * 32 ≤ 140737488355328) := Lib.hid ⟨by decide, by decide⟩
  have HB3 : Hid (0 + 0 + 1 + 0 ≤ maxLen ∧ (0 + 0 + 1 + 0) * 32 ≤ 140737488355328) := Lib.hid ⟨by decide, by decide⟩
  clear hks hvs hok hnil
  go_enter Try.func26, Try.ntmps26
  go_upto_region 6 with (first
    | (go_at_call 52; refine HPM.out.mono ?_; rintro e w2 ⟨rfl, rfl⟩)
    | (go_at_call 53; refine HPL.out.mono ?_; rintro e w2 ⟨rfl, rfl⟩)
    | (at_builtin; refine wpList_append_any _ rfl (.tmp 17) (.tmp 20) 26 26 rfl 65 i0 (.agg #[.string ⟨#[]⟩, .string ⟨#[]⟩]) 2 32 Try.underlying26 hi hz0 hz1 hz2 rfl none _ 0 [] rfl (Own.nil _ _ _) 0 [] (HS1.out _) HB1.out.1 HB1.out.2 ?_; intro k1 v1 w1 ho1 hf1 hK1 _; have HO1 := Lib.hid ho1; have HF1 := Lib.hid hf1; have HK1 := Lib.hid hK1; clear ho1 hf1 hK1))
  have h2s : Src Try.prog 2 26 (.slice (some ⟨w1.heap.size, 0, none⟩) 1 1) 1 [.string key, .string value] (w1.alloc (.cells #[.string key, .string value] 65)) := two_src w1 _ _ _ _ rfl rfl Try.underlying26
  have HS2 := Lib.hid h2s
  clear h2s
  go_upto_region 7 with (at_builtin; refine wpList_append_any _ rfl (.tmp 22) (.tmp 26) 26 26 rfl 65 i0 (.agg #[.string ⟨#[]⟩, .string ⟨#[]⟩]) 2 32 Try.underlying26 hi hz0 hz1 hz2 rfl k1 v1 (0 + 0) _ rfl (HO1.out.kept ((Kept.refl (fun _ => False) w1).alloc _) (fun _ _ h => h)) 1 [.string key, .string value] HS2.out HB2.out.1 HB2.out.2 ?_; intro k2 v2 w2 ho2 hf2 hK2 _; have HO2 := Lib.hid ho2; have HF2 := Lib.hid hf2; have HK2 := Lib.hid hK2; clear ho2 hf2 hK2)
  go_wp2_with (at_builtin; refine wpList_append_any _ rfl (.tmp 43) (.tmp 46) 26 26 rfl 65 i0 (.agg #[.string ⟨#[]⟩, .string ⟨#[]⟩]) 2 32 Try.underlying26 hi hz0 hz1 hz2 rfl k2 v2 (0 + 0 + 1) _ rfl HO2.out 0 [] (HS1.out _) HB3.out.1 HB3.out.2 ?_; intro k3 v3 w3 ho3 hf3 hK3 _; have HO3 := Lib.hid ho3; have HF3 := Lib.hid hf3; have HK3 := Lib.hid hK3; clear ho3 hf3 hK3)
  go_ret
  have hw1 : Below w.heap.size w w1 := HK1.out.below (Nat.le_refl _) (fun j hj h => by cases h)
  have hw2 : Below w.heap.size w w2 := hw1.trans (((Below.refl w.heap.size w1).alloc hw1.size _).trans (HK2.out.below (by rw [World.size_alloc]; have := hw1.size; omega) (fun j hj h => by
    rcases HF1.out j h with h1 | h1
    · cases h1
    · omega)))
  have hd2 : ∀ j, k2 = some j → w.heap.size ≤ j := fun j h => by
    rcases HF2.out j h with h1 | h1
    · rcases HF1.out j h1 with h2 | h2
      · cases h2
      · exact h2
    · rw [World.size_alloc] at h1
      have := hw1.size
      omega
  obtain ⟨a3, c3, rfl, hsl⟩ := HO3.out.sl
  refine ⟨a3, _, c3, rfl, ⟨?_, ?_⟩, hw2.trans (HK3.out.below hw2.size (fun j hj h => by have := hd2 j h; omega))⟩
  · rw [HPR.out]; rfl
  · rw [HPR.out]
    refine Sl.dom (xs := pcells [⟨key, value⟩]) hsl (fun b hb => .inr ?_)
    rcases HF3.out b hb with h | h
    · exact hd2 b h
    · have := hw2.size
      omega
theorem refPut_any {D : Nat → Prop} {w : World} {a : Option Addr} {n c : Nat} {ps : List KV} (h : Ps D w a n c ps) (hn : n ≤ 1000000) (key value : ByteArray) (hks : key.size < 9223372036854775808) (hvs : value.size < 9223372036854775808) :
    Calls Try.prog 26 #[.slice a n c, .string key, .string value] w (RefPut D w ps key value) := by
  by_cases hok : key.size ≤ 60 ∧ value.size ≤ 1000
  · cases a with
    | none =>
      have hc0 : c = 0 := h.2.2.2.2.1 rfl
      have hn0 : n = 0 := by have := h.2.2.1; omega
      have hp0 : ps = [] := List.eq_nil_of_length_eq_zero (by rw [h.1, hn0])
      rw [hc0, hn0, hp0]
      exact refPut_none key value hks hvs hok
    | some ad => exact refPut_some h hn key value hks hvs hok
  · have HPM : Hid (Calls Try.prog 52 #[.string key, .string value] w fun e w' => e = .returned (.bool false) ∧ w = w') := Lib.hid (by
      have := permitted_any (w := w) key value hks hvs
      rw [decide_eq_false hok] at this
      exact this)
    have HR : Hid (RefPut D w ps key value (.returned (.slice a n c)) w) := Lib.hid ⟨a, n, c, rfl, by unfold putR; rw [if_neg hok]; exact h.dom (fun b hb => .inl hb), Below.refl _ _⟩
    clear h hok hn hks hvs
    go_enter Try.func26, Try.ntmps26
    go_wp2_with (go_at_call 52; refine HPM.out.mono ?_; rintro e w2 ⟨rfl, rfl⟩)
    go_ret
    exact HR.out
end Go.Proofs.Ytfgmhidgkemfoaa
namespace Go.Proofs.Ytfgmhidgkemfoaa
open Go.RowKit
set_option linter.unusedSimpArgs false
set_option linter.unusedVariables false
/-- a round of the program's Diff: the edits so far and the old pairs that are left -/
def diffRound (s : List ED × List KV) (p : KV) : List ED × List KV :=
  (s.1 ++ (s.2.takeWhile fun q => decide (cmpK q.k p.k < 0)).map remE ++ (if (s.2.dropWhile fun q => decide (cmpK q.k p.k < 0)).head? = some p then [] else [setE p]),
    match s.2.dropWhile fun q => decide (cmpK q.k p.k < 0) with
    | q :: r => if q.k = p.k then r else q :: r
    | [] => [])
/-- the program's Diff -/
def diffP (a b : List KV) : List ED := (b.foldl diffRound ([], a)).1 ++ (b.foldl diffRound ([], a)).2.map remE
/-- the reference's Diff -/
def diffR : List KV → List KV → List ED
  | [], [] => []
  | a :: xs, [] => remE a :: diffR xs []
  | [], b :: bs => setE b :: diffR [] bs
  | a :: xs, b :: bs => if cmpK a.k b.k < 0 then remE a :: diffR xs (b :: bs) else if cmpK b.k a.k < 0 then setE b :: diffR (a :: xs) bs else (if a.v = b.v then [] else [setE b]) ++ diffR xs bs
termination_by a b => a.length + b.length
theorem diffR_nil : ∀ a : List KV, diffR a [] = a.map remE
  | [] => by rw [diffR]; rfl
  | a :: xs => by rw [diffR, diffR_nil xs]; rfl
theorem diffR_left : ∀ b : List KV, diffR [] b = b.map setE
  | [] => by rw [diffR]; rfl
  | b :: bs => by rw [diffR, diffR_left bs]; rfl
theorem round_diff (p : KV) (bs : List KV) : ∀ (a : List KV) (es : List ED), (diffRound (es, a) p).1 ++ diffR (diffRound (es, a) p).2 bs = es ++ diffR a (p :: bs)
  | [], es => by
    rw [diffR]
    simp [diffRound]
  | q :: xs, es => by
    have ih := round_diff p bs xs (es ++ [remE q])
    by_cases h : cmpK q.k p.k < 0
    · have e : diffRound (es, q :: xs) p = diffRound (es ++ [remE q], xs) p := by
        unfold diffRound
        simp only
        rw [List.takeWhile_cons_of_pos (by simpa using h), List.dropWhile_cons_of_pos (by simpa using h), List.map_cons]
        simp only [List.append_assoc, List.cons_append, List.nil_append]
      rw [e, ih, diffR, if_pos h]
      simp only [List.append_assoc, List.cons_append, List.nil_append]
    · have hd : diffRound (es, q :: xs) p = (es ++ (if q = p then [] else [setE p]), if q.k = p.k then xs else q :: xs) := by
        unfold diffRound
        simp only
        rw [List.takeWhile_cons_of_neg (by simpa using h), List.dropWhile_cons_of_neg (by simpa using h)]
        simp only [List.map_nil, List.append_nil, List.head?_cons, Option.some.injEq]
      rw [hd, diffR, if_neg h]
      by_cases hk : q.k = p.k
      · have h2 : ¬ cmpK p.k q.k < 0 := by rw [hk, (cmpK_eq _ _).2 rfl]; omega
        rw [if_neg h2, if_pos hk]
        by_cases hv : q.v = p.v
        · have : q = p := KV.ext' hk hv
          rw [if_pos this, if_pos hv]
          simp
        · have : ¬ q = p := fun e => hv (by rw [e])
          rw [if_neg this, if_neg hv]
          simp
      · have h2 : cmpK p.k q.k < 0 := by
          have h3 := cmpK_flip q.k p.k
          have h4 : cmpK q.k p.k ≠ 0 := fun e => hk ((cmpK_eq _ _).1 e)
          omega
        have : ¬ q = p := fun e => hk (by rw [e])
        rw [if_pos h2, if_neg hk, if_neg this]
        simp
theorem fold_diff : ∀ (b a : List KV) (es : List ED), (b.foldl diffRound (es, a)).1 ++ (b.foldl diffRound (es, a)).2.map remE = es ++ diffR a b
  | [], a, es => by rw [diffR_nil]; rfl
  | p :: bs, a, es => by
    rw [List.foldl_cons]
    have h := fold_diff bs (diffRound (es, a) p).2 (diffRound (es, a) p).1
    rw [show ((diffRound (es, a) p).1, (diffRound (es, a) p).2) = diffRound (es, a) p from rfl] at h
    rw [h, round_diff]
theorem diffP_eq (a b : List KV) : diffP a b = diffR a b := by
  have := fold_diff b a []
  rw [List.nil_append] at this
  exact this
end Go.Proofs.Ytfgmhidgkemfoaa
namespace Go.Proofs.Ytfgmhidgkemfoaa
open Go.RowKit
set_option linter.unusedSimpArgs false
set_option linter.unusedVariables false
theorem tw_eq {α : Type} (P : α → Bool) : ∀ {A B : List α}, (∀ a ∈ A, P a = true) → (∀ b ∈ B.head?, P b = false) → (A ++ B).takeWhile P = A
  | [], [], _, _ => rfl
  | [], b :: B, _, h => List.takeWhile_cons_of_neg (by simp [h b rfl])
  | a :: A, B, h, h2 => by rw [List.cons_append, List.takeWhile_cons_of_pos (h a (List.mem_cons_self ..)), tw_eq P (fun x hx => h x (List.mem_cons_of_mem _ hx)) h2]
/-- a sorted list at a key -/
theorem at_key {ps : List KV} (hs : Sorted ps) (key : ByteArray) : ∃ A B, ps = A ++ B ∧ plc ps key = A.length ∧ (∀ a ∈ A, cmpK a.k key < 0) ∧ (∀ b ∈ B, 0 ≤ cmpK b.k key) ∧ (∀ b S, B = b :: S → ∀ c ∈ S, 0 < cmpK c.k key) := by
  obtain ⟨A, hA⟩ : ∃ A, A = ps.takeWhile (fun p => decide (cmpK p.k key < 0)) := ⟨_, rfl⟩
  obtain ⟨B, hB⟩ : ∃ B, B = ps.dropWhile (fun p => decide (cmpK p.k key < 0)) := ⟨_, rfl⟩
  have e : ps = A ++ B := by rw [hA, hB, List.takeWhile_append_dropWhile]
  have hAl : ∀ a ∈ A, cmpK a.k key < 0 := fun a ha => by
    rw [hA] at ha
    have := List.all_takeWhile (l := ps) (p := fun p => decide (cmpK p.k key < 0))
    have := List.all_eq_true.1 this a ha
    simpa using this
  have hB0 : ∀ b S, B = b :: S → 0 ≤ cmpK b.k key := fun b S hbs => by
    rw [hB] at hbs
    have := List.head?_dropWhile_not (fun p : KV => decide (cmpK p.k key < 0)) ps
    rw [hbs] at this
    simp only [List.head?_cons] at this
    simpa using this
  have hsB : Sorted B := (sorted_app.1 (e ▸ hs)).2.1
  have hS : ∀ b S, B = b :: S → ∀ c ∈ S, 0 < cmpK c.k key := fun b S hbs c hc => by
    rw [hbs] at hsB
    exact cmpK_ge (hB0 b S hbs) ((sorted_cons.1 hsB).1 c hc)
  refine ⟨A, B, e, by unfold plc; rw [← hA], hAl, fun b hb => ?_, hS⟩
  cases hBB : B with
  | nil => rw [hBB] at hb; cases hb
  | cons x S =>
    rw [hBB] at hb
    rcases List.mem_cons.1 hb with rfl | hb
    · exact hB0 _ S hBB
    · exact Int.le_of_lt (hS x S hBB b hb)
theorem putR_ins {ps : List KV} (hs : Sorted ps) (key value : ByteArray) (hok : key.size ≤ 60 ∧ value.size ≤ 1000) : putR ps key value = insL ps ⟨key, value⟩ := by
  obtain ⟨A, B, rfl, hp, hA, hB, hS⟩ := at_key hs key
  unfold putR
  rw [if_pos hok, hp, List.take_left]
  unfold hasR
  rw [hp, List.getElem?_append_right (Nat.le_refl _), Nat.sub_self]
  cases B with
  | nil =>
    simp only [List.getElem?_nil, Nat.add_zero, List.drop_left]
    rw [insL_new hA (fun a ha => by cases ha)]
    simp
  | cons b S =>
    simp only [List.getElem?_cons_zero]
    by_cases hk : b.k = key
    · rw [if_pos hk, insL_old hA (hS b S rfl) hk]
      rw [show A ++ b :: S = (A ++ [b]) ++ S by simp, show A.length + 1 = (A ++ [b]).length by simp, List.drop_left]
      simp
    · rw [if_neg hk, Nat.add_zero, List.drop_left]
      have hb0 : 0 < cmpK b.k key := by
        have h1 := hB b (List.mem_cons_self ..)
        have h2 : cmpK b.k key ≠ 0 := fun h => hk ((cmpK_eq _ _).1 h)
        omega
      rw [insL_new hA (fun a ha => by
        rcases List.mem_cons.1 ha with rfl | ha
        · exact hb0
        · exact hS b S rfl a ha)]
      simp
theorem putR_bad (ps : List KV) (key value : ByteArray) (hok : ¬ (key.size ≤ 60 ∧ value.size ≤ 1000)) : putR ps key value = ps := if_neg hok
theorem gotR_got {ps : List KV} (hs : Sorted ps) (key : ByteArray) : gotR ps key = gotF (floorL ps key) key := by
  have hs' := hs
  obtain ⟨A, B, rfl, hp, hA, hB, hS⟩ := at_key hs key
  unfold gotR
  rw [hp, List.getElem?_append_right (Nat.le_refl _), Nat.sub_self]
  have hno : (∀ p ∈ B, p.k ≠ key) → gotF (floorL (A ++ B) key) key = none := fun h => by
    cases hg : gotF (floorL (A ++ B) key) key with
    | none => rfl
    | some v =>
      have hm := got_some hg
      rcases List.mem_append.1 hm with h1 | h1
      · have := hA _ h1
        rw [(cmpK_eq _ _).2 rfl] at this
        omega
      · exact (h _ h1 rfl).elim
  cases B with
  | nil => rw [hno (fun p hp => by cases hp)]; rfl
  | cons b S =>
    simp only [List.getElem?_cons_zero]
    by_cases hk : b.k = key
    · rw [if_pos hk]
      have := got_mem (p := b) hs' (by simp)
      rw [hk] at this
      exact this.symm
    · rw [if_neg hk, hno]
      intro p hp e
      rcases List.mem_cons.1 hp with rfl | hp
      · exact hk e
      · have := hS b S rfl p hp
        rw [e, (cmpK_eq _ _).2 rfl] at this
        omega
theorem delR_del (ps : List KV) (key : ByteArray) : ps.filter (fun p => !decide (p.k = key)) = delL ps key := by
  unfold delL
  congr 1
  funext p
  simp
theorem tw_filter (u : ByteArray) : ∀ {l : List KV}, Sorted l → l.takeWhile (befK u) = l.filter (befK u)
  | [], _ => rfl
  | p :: l, hs => by
    obtain ⟨h1, h2⟩ := sorted_cons.1 hs
    by_cases hb : befK u p = true
    · rw [List.takeWhile_cons_of_pos hb, List.filter_cons_of_pos hb, tw_filter u h2]
    · rw [List.takeWhile_cons_of_neg hb, List.filter_cons_of_neg hb]
      symm
      refine List.filter_eq_nil_iff.2 fun q hq hbq => hb ?_
      unfold befK at hbq ⊢
      simp only [Bool.or_eq_true, decide_eq_true_eq] at hbq ⊢
      rcases hbq with h | h
      · exact .inl h
      · exact .inr (cmpK_trans (h1 q hq) h)
theorem rngR_rng {ps : List KV} (hs : Sorted ps) (f u : ByteArray) : ps.filter (fun p => decide (0 ≤ cmpK p.k f) && befK u p) = rngL f u ps := by
  unfold rngL geL
  rw [tw_filter u (hs.sublist List.filter_sublist), List.filter_filter]
  congr 1
  funext p
  rw [Bool.and_comm]
theorem cmpK_emp (a : ByteArray) : 0 ≤ cmpK a emptyS := by
  unfold cmpK emptyS
  obtain ⟨⟨l⟩⟩ := a
  cases l with
  | nil => decide
  | cons a t => show (0 : Int) ≤ 1; decide
theorem geL_emp (l : List KV) : geL emptyS l = l := List.filter_eq_self.2 (fun p _ => by simpa using cmpK_emp p.k)
theorem rngL_emp (l : List KV) : rngL emptyS emptyS l = l := by
  unfold rngL
  rw [geL_emp]
  exact tw_all _ _ (fun y _ => by unfold befK; simp)
theorem rngL_sub (f u : ByteArray) (l : List KV) : (rngL f u l).Sublist l := (List.takeWhile_sublist _).trans List.filter_sublist
/-- a row that was made is a slice of pairs -/
theorem Ps.row {w : World} {base : Nat} {v : Value} {ps : List KV} (h : w.ownsRow base 65 2 v ps.length (pcells ps)) : ∃ a n c, v = .slice a n c ∧ Ps (fun b => base ≤ b) w a n c ps := by
  obtain ⟨h1, h2⟩ := h
  rcases h2 with ⟨rfl, h0⟩ | ⟨g, cap, cur, rfl, hb, hg, h3, h4, h5, h6⟩
  · exact ⟨none, 0, 0, rfl, h0, by rw [h0] at h1; exact h1, Nat.le_refl _, by decide, fun _ => rfl, fun h => absurd h (by omega)⟩
  · refine ⟨_, _, _, rfl, rfl, h1, h3, h4, (fun h => by cases h), fun _ => ⟨g, 0, hb, rfl, fun j v hj => ?_⟩⟩
    have : cur[0 + j]? = some v := by
      rw [← h6] at hj
      rw [Nat.zero_add, ← Array.getElem?_toList]
      rw [List.getElem?_take] at hj
      split at hj
      · exact hj
      · cases hj
    exact (cell_of_row w g (0 + j) cur _ _ hg).trans this
theorem Es.row {w : World} {base : Nat} {v : Value} {es : List ED} (h : w.ownsRow base 61 3 v es.length (ecells es)) : ∃ a n c, v = .slice a n c ∧ Es (fun b => base ≤ b) w a n c es := by
  obtain ⟨h1, h2⟩ := h
  rcases h2 with ⟨rfl, h0⟩ | ⟨g, cap, cur, rfl, hb, hg, h3, h4, h5, h6⟩
  · exact ⟨none, 0, 0, rfl, h0, by rw [h0] at h1; exact h1, Nat.le_refl _, by decide, fun _ => rfl, fun h => absurd h (by omega)⟩
  · refine ⟨_, _, _, rfl, rfl, h1, h3, h4, (fun h => by cases h), fun _ => ⟨g, 0, hb, rfl, fun j v hj => ?_⟩⟩
    have : cur[0 + j]? = some v := by
      rw [← h6] at hj
      rw [Nat.zero_add, ← Array.getElem?_toList]
      rw [List.getElem?_take] at hj
      split at hj
      · exact hj
      · cases hj
    exact (cell_of_row w g (0 + j) cur _ _ hg).trans this
end Go.Proofs.Ytfgmhidgkemfoaa
namespace Go.Proofs.Ytfgmhidgkemfoaa
open Go.RowKit
set_option linter.unusedSimpArgs false
set_option linter.unusedVariables false
theorem toLs_len1 : ∀ (ps : List KV) (ks : List BT), ks.length = ps.length + 1 → (toLs ps ks).length + 1 = (ks.map fun k => k.toL.length + 1).sum
  | [], [k], _ => by rw [toLs_last]; simp
  | [], k :: k2 :: ks, h => by simp at h
  | [], [], h => by simp at h
  | p :: ps, [], h => by simp at h
  | p :: ps, k :: ks, h => by
    have := toLs_len1 ps ks (by simpa using h)
    rw [toLs_cons, List.map_cons, List.sum_cons, ← this]
    simp only [List.length_append, List.length_cons]
    omega
theorem sum_bounds (f : BT → Nat) (lo hi : Nat) : ∀ ks : List BT, (∀ k ∈ ks, lo ≤ f k ∧ f k ≤ hi) → ks.length * lo ≤ (ks.map f).sum ∧ (ks.map f).sum ≤ ks.length * hi
  | [], _ => by simp
  | k :: ks, h => by
    have h1 := sum_bounds f lo hi ks (fun x hx => h x (List.mem_cons_of_mem _ hx))
    have h2 := h k (List.mem_cons_self ..)
    rw [List.map_cons, List.sum_cons, List.length_cons, Nat.add_mul, Nat.add_mul]
    omega
theorem wf_bounds : ∀ (h : Nat) (T : BT), T.Wf h → (3 ≤ T.ps.length → 4 ^ h ≤ T.toL.length + 1) ∧ T.toL.length + 1 ≤ 9 ^ h ∧ (1 ≤ T.ps.length → 2 * 4 ^ (h - 1) ≤ T.toL.length + 1)
  | 0, _, hw => hw.elim
  | h + 1, T, hw => by
    obtain ⟨h8, ⟨rfl, hk⟩ | ⟨h0, hl, hall⟩⟩ := hw
    · have e : T.toL.length = T.ps.length := by rw [toL_eq, hk, toLs_leaf]
      rw [e]
      refine ⟨fun h3 => ?_, ?_, fun h1 => ?_⟩
      · simp; omega
      · simp; omega
      · simp; omega
    · have e : T.toL.length + 1 = (T.ks.map fun k => k.toL.length + 1).sum := by rw [toL_eq]; exact toLs_len1 _ _ hl
      have hs := sum_bounds (fun k => k.toL.length + 1) (4 ^ h) (9 ^ h) T.ks (fun k hk => by
        obtain ⟨h1, h2⟩ := hall k hk
        have h3 := wf_bounds h k h1
        exact ⟨h3.1 h2, h3.2.1⟩)
      rw [← e, hl] at hs
      refine ⟨fun h3 => Nat.le_trans ?_ hs.1, Nat.le_trans hs.2 ?_, fun h1 => Nat.le_trans ?_ hs.1⟩
      · rw [Nat.pow_succ, Nat.mul_comm]; exact Nat.mul_le_mul_right _ (by omega)
      · rw [Nat.pow_succ, Nat.mul_comm]; exact Nat.mul_le_mul_left _ (by omega)
      · rw [Nat.add_sub_cancel]; exact Nat.mul_le_mul_right _ (by omega)
theorem tok_bounds {t : Option BT} {H : Nat} (h : TOk t H) (h0 : H ≠ 0) : 2 * 4 ^ (H - 1) ≤ (treeL t).length + 1 ∧ (treeL t).length + 1 ≤ 9 ^ H := by
  cases t with
  | none => exact (h0 h).elim
  | some T =>
    have := wf_bounds H T h.1
    exact ⟨this.2.2 h.2, this.2.1⟩
theorem tok_zero {t : Option BT} {H : Nat} (h : TOk t H) : H = 0 ↔ treeL t = [] := by
  cases t with
  | none => exact ⟨fun _ => rfl, fun _ => h⟩
  | some T =>
    have h1 : H ≠ 0 := fun e => by have := h.1; rw [e] at this; exact this
    refine ⟨fun e => (h1 e).elim, fun e => ?_⟩
    have := (tok_bounds (t := some T) h h1).1
    rw [e] at this
    have h4 : 0 < 4 ^ (H - 1) := Nat.pow_pos (by decide)
    simp at this
    omega
theorem pow4_le (a b : Nat) (h : a ≤ b) : 4 ^ a ≤ 4 ^ b := Nat.pow_le_pow_right (by decide) h
theorem tok_high {t : Option BT} {H : Nat} (h : TOk t H) (k : Nat) (hl : (treeL t).length + 1 < 2 * 4 ^ k) : H ≤ k := by
  by_cases h0 : H = 0
  · omega
  · by_cases hk : H ≤ k
    · exact hk
    · have h1 := (tok_bounds h h0).1
      have h2 := pow4_le k (H - 1) (by omega)
      omega
end Go.Proofs.Ytfgmhidgkemfoaa
namespace Go.Proofs.Ytfgmhidgkemfoaa
open Go.RowKit
set_option linter.unusedSimpArgs false
set_option linter.unusedVariables false
def xB : ByteArray := ⟨#[120]⟩
/-- a tree and the pairs that are the same -/
structure TP (B : Nat) (w : World) (g : Nat) (t : Option BT) (H : Nat) (a : Option Addr) (n c : Nat) : Prop where
  tt : TT w g t H
  pp : Ps (fun b => B ≤ b) w a n c (treeL t)
theorem TP.below {B : Nat} {w w' : World} {g : Nat} {t : Option BT} {H : Nat} {a : Option Addr} {n c : Nat} (h : TP B w g t H a n c) (hb : Below w.heap.size w w') : TP B w' g t H a n c := ⟨h.tt.under hb, h.pp.below hb⟩
theorem Ps.nil (D : Nat → Prop) (w : World) : Ps D w none 0 0 [] := ⟨rfl, rfl, Nat.le_refl _, by decide, fun _ => rfl, fun h => absurd h (by omega)⟩
def Many (w : World) (n : Nat) (e : Ending) (W' : World) : Prop := ∃ g t H a m c, e = .returned (.tuple #[.pointer (some ⟨g, 0, none⟩), .slice a m c, .bool true]) ∧ TP w.heap.size W' g t H a m c ∧ (treeL t).length ≤ n ∧ Below w.heap.size w W'
set_option maxRecDepth 100000 in
set_option maxHeartbeats 4000000 in
theorem many_any (n step : Nat) (thin : Bool) (hn : n ≤ 1000) (hs : step ≤ 4000) (w : World) : Calls Try.prog 20 #[.int .i64 (n : Int), .int .i64 (step : Int), .bool thin] w (Many w n) := by
  have HKEY : Hid (∀ (q : Nat) (u : World), q < 4000 → Calls Try.prog 15 #[.int .i64 (q : Int)] u fun e w' => ∃ kb : ByteArray, e = .returned (.string kb) ∧ kb.size = 3 ∧ Below u.heap.size u w') := Lib.hid (fun q u hq => (key_any (q : Int) (by omega) (by omega) u).mono (fun e w' h => ⟨_, h.1, keyB_size _, h.2⟩))
  have HMUL : Hid (∀ i : Nat, i < n → ∃ M q : Nat, (i : Int) * (step : Int) = (M : Int) ∧ IntKind.i64.wrap (M : Int) = (M : Int) ∧ (M : Int).tmod 3989 = (q : Int) ∧ (M : Int) % 3989 = (q : Int) ∧ q < 4000) := Lib.hid (fun i hi => by
    have hM : i * step ≤ 1000 * 4000 := Nat.mul_le_mul (by omega) hs
    refine ⟨i * step, i * step % 3989, by push_cast; rfl, i64_id _ (by omega) (by omega), ?_, by omega, by omega⟩
    rw [Int.tmod_eq_emod_of_nonneg (by omega)]
    omega)
  clear hs
  go_enter Try.func20, Try.ntmps20
  go_wp2_with (go_at_call 12; refine (new_any _).mono ?_; rintro e w1 ⟨g0, rfl, ht0, hg0, hb0⟩; have HT0 := Lib.hid ht0; have HB0 := Lib.hid hb0; clear ht0 hb0 hg0)
  go_loopw [9, 10, 11] (fun u v x wr => ∃ (i g : Nat) (t : Option BT) (H : Nat) (a : Option Addr) (m c : Nat), u = .pointer (some ⟨g, 0, none⟩) ∧ v = .slice a m c ∧ x = .int .i64 (i : Int) ∧ i ≤ n ∧ TP w.heap.size wr g t H a m c ∧ (treeL t).length ≤ i ∧ Below w.heap.size w wr) (fun _ _ x _ => n - (intOf x).toNat)
  case atStart => exact ⟨0, g0, none, 0, none, 0, 0, rfl, rfl, rfl, Nat.zero_le _, ⟨HT0.out, Ps.nil _ _⟩, Nat.le_refl _, HB0.out⟩
  case round =>
    obtain ⟨i, g, t, H, a, m, c, rfl, rfl, rfl, hi, htp, hlen, hb⟩ := hrel
    have HTP := Lib.hid htp
    have HLEN := Lib.hid hlen
    have HB := Lib.hid hb
    clear htp hlen hb
    by_cases hlt : i < n
    · have hlt2 : (i : Int) < (n : Int) := by omega
      obtain ⟨M, q, hm1, hm2, hm3, hm4, hq⟩ := HMUL.out i hlt
      have HQ := Lib.hid hq
      have HLT := Lib.hid hlt
      clear hq hlt
      go_wp2_with (first
        | (go_at_call 15; refine (HKEY.out q _ HQ.out).mono ?_; rintro e w2 ⟨kb, rfl, hks, hb2⟩; have HB2 := Lib.hid hb2; have HKS := Lib.hid hks; have HTP2 := Lib.hid (HTP.out.below hb2); clear hb2 hks)
        | (go_at_call 25; refine (put_tree HTP2.out.tt (by have := HLEN.out; omega) kb xB (by rw [HKS.out]; decide) (by decide)).mono ?_; rintro e w3 ⟨g3, t3, H3, rfl, ht3, hl3, -, -, hb3⟩; have HT3 := Lib.hid ht3; have HL3 := Lib.hid hl3; have HB3 := Lib.hid hb3; clear ht3 hl3 hb3)
        | (go_at_call 26; refine (refPut_any (HTP2.out.pp.below HB3.out) (by have := HTP2.out.pp.1; have := HLEN.out; omega) kb xB (by rw [HKS.out]; decide) (by decide)).mono ?_; rintro e w4 ⟨a4, m4, c4, rfl, hp4, hb4⟩; have HP4 := Lib.hid hp4; have HB4 := Lib.hid hb4; clear hp4 hb4))
      go_roundw
      case rel =>
        have hins : putR (treeL t) kb xB = treeL t3 := by rw [HL3.out]; exact putR_ins HTP2.out.tt.so kb xB ⟨by rw [HKS.out]; decide, by decide⟩
        refine ⟨i + 1, g3, t3, H3, a4, m4, c4, rfl, rfl, by go_num, by have := HLT.out; omega, ⟨HT3.out.under HB4.out, ?_⟩, ?_, ?_⟩
        · have h := HP4.out
          rw [hins] at h
          refine h.dom (fun b hb => hb.elim id (fun h2 => Nat.le_trans ?_ h2))
          have := HB.out.size; have := HB2.out.size; have := HB3.out.size
          omega
        · rw [HL3.out]
          have := insL_len_le (p := ⟨kb, xB⟩) HTP2.out.tt.so
          have := HLEN.out
          omega
        · exact HB.out.trans (((HB2.out.trans (HB3.out.mono HB2.out.size)).trans (HB4.out.mono (Nat.le_trans HB2.out.size HB3.out.size))).mono HB.out.size)
      case measure => (try go_num); (try (simp only [intOf])); have := HLT.out; omega
    · have hge : ¬ (i : Int) < (n : Int) := by omega
      have HLN : Hid ((treeL t).length ≤ n) := Lib.hid (Nat.le_trans HLEN.out hi)
      clear hlt
      go_wp2
      go_loopw [9, 10, 13] (fun u v x wr2 => ∃ (i g : Nat) (t : Option BT) (H : Nat) (a : Option Addr) (m c : Nat), u = .pointer (some ⟨g, 0, none⟩) ∧ v = .slice a m c ∧ x = .int .i64 (i : Int) ∧ i ≤ n + 3 ∧ TP w.heap.size wr2 g t H a m c ∧ (treeL t).length ≤ n ∧ Below w.heap.size w wr2) (fun _ _ x _ => n + 3 - (intOf x).toNat)
      case atStart => exact ⟨0, g, t, H, a, m, c, rfl, rfl, rfl, Nat.zero_le _, HTP.out, HLN.out, HB.out⟩
      case round =>
        clear HTP HLEN HB HLN hge hi
        obtain ⟨i, g, t, H, a, m, c, rfl, rfl, rfl, hi, htp, hlen, hb⟩ := hrel
        have HTP := Lib.hid htp
        have HLEN := Lib.hid hlen
        have HB := Lib.hid hb
        clear htp hlen hb
        have hw3 : IntKind.i64.wrap ((i : Int) + 3) = (i : Int) + 3 := i64_id _ (by omega) (by omega)
        by_cases hlt : i < n
        · have hlt2 : (i : Int) < (n : Int) := by omega
          cases thin with
          | false =>
            go_wp2
            refine bodyPost_ret (results_tmp3 rfl _ _ _) rfl ?_
            exact ⟨g, t, H, a, m, c, rfl, HTP.out, HLEN.out, HB.out⟩
          | true =>
            obtain ⟨M, q, hm1, hm2, hm3, hm4, hq⟩ := HMUL.out i hlt
            have HQ := Lib.hid hq
            have HLT := Lib.hid hlt
            clear hq hlt
            go_wp2_with (first
              | (go_at_call 15; refine (HKEY.out q _ HQ.out).mono ?_; rintro e w2 ⟨kb, rfl, hks, hb2⟩; have HB2 := Lib.hid hb2; have HKS := Lib.hid hks; have HTP2 := Lib.hid (HTP.out.below hb2); clear hb2 hks)
              | (go_at_call 27; refine (del_tree HTP2.out.tt (by have := HLEN.out; omega) kb).mono ?_; rintro e w3 ⟨g3, t3, H3, rfl, ht3, hl3, -, -, hb3⟩; have HT3 := Lib.hid ht3; have HL3 := Lib.hid hl3; have HB3 := Lib.hid hb3; clear ht3 hl3 hb3)
              | (go_at_call 28; refine (refDelete_any (HTP2.out.pp.below HB3.out) (by have := HTP2.out.pp.1; have := HLEN.out; omega) kb).mono ?_; rintro e w4 ⟨v4, rfl, hr4, hb4⟩; obtain ⟨a4, m4, c4, rfl, hp4⟩ := Ps.row hr4; have HP4 := Lib.hid hp4; have HB4 := Lib.hid hb4; clear hp4 hb4 hr4))
            go_roundw
            case rel =>
              refine ⟨i + 3, g3, t3, H3, a4, m4, c4, rfl, rfl, by go_num, by have := HLT.out; omega, ⟨HT3.out.under HB4.out, ?_⟩, ?_, ?_⟩
              · have h := HP4.out
                rw [delR_del, ← HL3.out] at h
                refine h.dom (fun b hb => Nat.le_trans ?_ hb)
                have := HB.out.size; have := HB2.out.size; have := HB3.out.size
                omega
              · rw [HL3.out]
                exact Nat.le_trans (delL_le _ _) HLEN.out
              · exact HB.out.trans (((HB2.out.trans (HB3.out.mono HB2.out.size)).trans (HB4.out.mono (Nat.le_trans HB2.out.size HB3.out.size))).mono HB.out.size)
            case measure => (try go_num); (try (simp only [intOf])); have := HLT.out; omega
        · have hge : ¬ (i : Int) < (n : Int) := by omega
          clear hlt
          go_wp2
          refine bodyPost_ret (results_tmp3 rfl _ _ _) rfl ?_
          exact ⟨g, t, H, a, m, c, rfl, HTP.out, HLEN.out, HB.out⟩
end Go.Proofs.Ytfgmhidgkemfoaa
namespace Go.Proofs.Ytfgmhidgkemfoaa
open Go.RowKit
set_option linter.unusedSimpArgs false
set_option linter.unusedVariables false
theorem oper_round {P : Program} {l n : Nat} {o : Oper} {K K' : Act → World → Prop} {Q : Exit → Act → World → Prop} {a : Act} {w : World} (hd : ∀ c, o.op ≠ .defer c) (hK : ∀ a w, K a w → K' a w) (h : o.wp P a w K Q) : o.wpIn (Fence.wide.inRound l) n P a w K' Q := by
  have hnd : ∀ m : Nat, ((Fence.wide.inRound l).depth.isSome = true → 1 ≤ m) := fun m h => by cases h
  refine ⟨fun _ _ => trivial, ?_⟩
  rw [Oper.semAt_eq _ _ _ hd]
  unfold Oper.wp at h
  generalize (execOp a.eval o).run P w = r at *
  cases r with
  | ok x w' =>
    cases x <;> simp only [Oper.upon, Oper.uponIn] at h ⊢
    case value => exact hK _ _ h
    case skip => exact hK _ _ h
    case defer => exact hK _ _ h
    case enter f args => exact ⟨hnd _, (callsIn_wide.2 h).mono (fun e w'' he => by cases e <;> first | exact hK _ _ he | exact he)⟩
    case row row args => exact ⟨hnd _, fun c cs _ => by
      obtain ⟨v, w'', r, s⟩ := h c cs
      exact ⟨v, w'', hK _ _ r, stepsIn_wide.2 s⟩⟩
  | halt x w' => cases x <;> simp only [Oper.upon, Oper.uponIn] at h ⊢ <;> exact h
theorem any_round {P : Program} {l n : Nat} {md : Region.Mode} {ops : Array Oper} {Q : Exit → Act → World → Prop} (hd : ∀ (i : Nat) (o : Oper), ops[i]? = some o → ∀ c, o.op ≠ .defer c) (hlo : ¬ LetsOut Q) :
    ∀ (fuel : Nat) (listed : Array Bool) (a : Act) (w : World), wpAny P md ops Q fuel listed a w → wpAnyIn (Fence.wide.inRound l) n P md ops Q fuel listed a w
  | 0, _, _, _, h => h
  | fuel + 1, listed, a, w, h => ⟨h.1, fun i hi => by
      have h1 := h.2 i hi
      unfold wpOp at h1
      unfold wpOpIn
      cases ho : ops[i]? with
      | none =>
        simp only [ho] at h1 ⊢
        exact any_round hd hlo fuel _ a w h1
      | some o =>
        simp only [ho] at h1 ⊢
        split
        · rename_i hw
          simp only [hw, if_true] at h1
          rcases h1 with h1 | h1
          · exact oper_round (hd i o ho) (fun a w => any_round hd hlo fuel _ a w) h1
          · exact (hlo h1.2).elim
        · rename_i hw
          simp only [hw] at h1
          exact ⟨fun _ _ => trivial, any_round hd hlo fuel _ _ w h1⟩⟩
/-- no operation of a region is a defer statement -/
def noDefer (ops : Array Oper) : Bool := ops.all fun o => match o.op with | .defer _ => false | _ => true
theorem noDefer_spec {ops : Array Oper} (h : noDefer ops = true) : ∀ (i : Nat) (o : Oper), ops[i]? = some o → ∀ c, o.op ≠ .defer c := by
  intro i o ho c hc
  obtain ⟨hlt, rfl⟩ := Array.getElem?_eq_some_iff.1 ho
  have := Array.all_eq_true.1 h i hlt
  rw [hc] at this
  cases this
theorem region_round {P : Program} {l n id : Nat} {ops : Array Oper} {Q : Exit → Act → World → Prop} {a : Act} {w : World} (hm : P.follows .mixedOrders = true) (hd : noDefer ops = true) (hlo : ¬ LetsOut Q)
    (h : wpAny P .any ops Q ops.size (Array.replicate ops.size false) a { w with drawn := w.drawn + 1 }) : (Code.region id ops true).wpIn (Fence.wide.inRound l) n P Q a w :=
  wpIn_region_any hm (any_round (noDefer_spec hd) hlo _ _ _ _ h)
end Go.Proofs.Ytfgmhidgkemfoaa
namespace Go.Proofs.Ytfgmhidgkemfoaa.Roll
variable {P : Program} {ops : Array Oper} {Q : Exit → Act → World → Prop}
theorem region_any_r {lr nn : Nat} {id : Nat} {l : List Oper} {a0 : Act} {w0 : World} (n : Nat) (D : List (Option Tmp)) (L : List (List Nat)) (I : World → Prop) (S : World → World → Prop) (R : Nat → Value → World → Prop) (hm : P.follows .mixedOrders = true) (hnd : noDefer l.toArray = true) (hlq : ¬ LetsOut Q)
    (hok : regOk l.toArray D L n a0.tmps.size = true) (h0 : I w0.drew)
    (hS : ∀ j v w w', S w w' → R j v w → R j v w')
    (hop : OwesAll P D L I S R a0 0 n l)
    (hend : ∀ (vals : Nat → Value) (w : World), I w → (∀ j : Nat, j < n → R j (vals j) w) → wpList P l.toArray Q (l.drop n) (putD D vals (List.range n) a0) w) :
    (Code.region id l.toArray true).wpIn (Fence.wide.inRound lr) nn P Q a0 w0 := by
  simp only [regOk, Bool.and_eq_true] at hok
  obtain ⟨⟨⟨⟨⟨⟨⟨hnle, htl⟩, hb⟩, hap⟩, hlo⟩, hsz⟩, hD⟩, hgd⟩ := hok
  have hnle' := of_decide_eq_true hnle
  have slot_lt : ∀ {j t : Nat}, slot l.toArray j = some t → j < l.toArray.size := by
    intro j t hj
    unfold slot at hj
    cases hk : l.toArray[j]? with
    | none => rw [hk] at hj; cases hj
    | some o => exact (Array.getElem?_eq_some_iff.1 hk).1
  have hsz' : ∀ j t, slot l.toArray j = some t → t < a0.tmps.size := by
    intro j t hj
    have h1 := List.all_eq_true.1 hsz j (List.mem_range.2 (slot_lt hj))
    simp only [hj] at h1
    exact of_decide_eq_true h1
  have hD' : ∀ j, j < l.toArray.size → slot l.toArray j = D.getD j none := fun j hj => by simpa using List.all_eq_true.1 hD j (List.mem_range.2 hj)
  refine region_round hm hnd hlq ?_
  refine wpAny_held hb hap hlo hnle' htl (I := I) (S := S) (R := R) (a0 := a0) hsz' hS (fun k o hk ho => ?_) (fun vals w hI hR => ?_) _ _ (fun _ => undef) a0 _ ?_ ?_ ?_
  · have hklt : k < l.toArray.size := (Array.getElem?_eq_some_iff.1 ho).1
    have h1 := owes_of_all l 0 n hop k o hk (by simpa using ho)
    rw [Nat.zero_add] at h1
    have hlk := List.all_eq_true.1 hlo k (List.mem_range.2 hklt)
    simp only [ho, Bool.and_eq_true] at hlk
    refine does_of_owes hD' (fun j hj => ?_) hap hsz' (fun g want hg => ?_) h1
    · have h2 : j ∈ ahead o := by simpa using List.all_eq_true.1 hlk.1.2 j hj
      have h3 := List.all_eq_true.1 hb k (List.mem_range.2 hklt)
      simp only [ho] at h3
      have := of_decide_eq_true (List.all_eq_true.1 h3 j h2)
      omega
    · have h2 := List.all_eq_true.1 hgd k (List.mem_range.2 hklt)
      simp only [ho, Option.bind_some, hg, Bool.and_eq_true] at h2
      have hgl : g ∈ L.getD k [] := by simpa using h2.1
      refine ⟨hgl, ?_⟩
      have h4 : g ∈ ahead o := by simpa using List.all_eq_true.1 hlk.1.2 g hgl
      have h3 := List.all_eq_true.1 hb k (List.mem_range.2 hklt)
      simp only [ho] at h3
      have := of_decide_eq_true (List.all_eq_true.1 h3 g h4)
      rw [hD' g (by omega)]; exact h2.2
  · rw [putD_eq hD' vals _ _ (fun j hj => by have := List.mem_range.1 hj; omega)]
    exact hend vals w hI hR
  · simp
  · intro j _ hj
    rw [Array.getElem?_replicate, if_pos hj]
  · refine ⟨h0, by simp, rfl, rfl, ?_, fun _ _ => rfl, ?_, ?_⟩
    · intro j o _ hj
      rw [Array.getElem?_replicate] at hj
      split at hj <;> simp at hj
    · intro j t hj
      rw [Array.getElem?_replicate] at hj
      split at hj <;> simp at hj
    · intro j hj
      rw [Array.getElem?_replicate] at hj
      split at hj <;> simp at hj
theorem region_l_r {lr nn : Nat} {id : Nat} {l : List Oper} {a0 : Act} {w0 : World} (n : Nat) (D : List (Option Tmp)) (L : List (List Nat)) (I : World → Prop) (S : World → World → Prop) (RL : List (Value → World → Prop)) (hm : P.follows .mixedOrders = true) (hnd : noDefer l.toArray = true) (hlq : ¬ LetsOut Q)
    (hok : regOk l.toArray D L n a0.tmps.size = true) (h0 : I w0.drew) (hS : Stab S RL)
    (hop : OwesAll P D L I S (at_ RL) a0 0 n l)
    (hend : ∀ (vals : Nat → Value) (w : World), I w → (∀ j : Nat, j < n → at_ RL j (vals j) w) → wpList P l.toArray Q (l.drop n) (putD D vals (List.range n) a0) w) :
    (Code.region id l.toArray true).wpIn (Fence.wide.inRound lr) nn P Q a0 w0 := region_any_r n D L I S (at_ RL) hm hnd hlq hok h0 hS.at hop hend
theorem region_f_r {lr nn : Nat} {id : Nat} {l : List Oper} {a0 : Act} {w0 : World} (n N : Nat) (D : List (Option Tmp)) (L : List (List Nat)) (LV : List (Nat × Value)) (I : World → Prop) (S : World → World → Prop) (RL : List (Value → World → Prop)) (hm : P.follows .mixedOrders = true) (hnd : noDefer l.toArray = true) (hlq : ¬ LetsOut Q)
    (hok : regOk l.toArray D L n N = true) (hN : a0.tmps.size = N) (hLV : Lives a0 LV) (h0 : I w0.drew) (hS : Stab S RL)
    (hop : ∀ b0 : Act, b0.tmps.size = N → Lives b0 LV → OwesAll P D L I S (at_ RL) b0 0 n l)
    (hend : ∀ (vals : Nat → Value) (w : World), I w → (∀ j : Nat, j < n → at_ RL j (vals j) w) → wpList P l.toArray Q (l.drop n) (putD D vals (List.range n) a0) w) :
    (Code.region id l.toArray true).wpIn (Fence.wide.inRound lr) nn P Q a0 w0 := region_l_r n D L I S RL hm hnd hlq (hN ▸ hok) h0 hS (hop a0 hN hLV) hend
theorem region_anyv_r {lr nn : Nat} {id : Nat} {l : List Oper} {a0 : Act} {w0 : World} (n : Nat) (D : List (Option Tmp)) (L : List (List Nat)) (I0 : World → Prop) (I1 : Value → World → Prop) (J : World → Prop) (k0 : Nat) (PL : List Bool) (S : World → World → Prop) (R : Nat → (Nat → Value) → World → Prop) (hm : P.follows .mixedOrders = true) (hnd : noDefer l.toArray = true) (hlq : ¬ LetsOut Q)
    (hok : regOk2 l.toArray D L n a0.tmps.size = true) (h0 : I0 w0.drew) (hk0 : k0 < n) (hPL : (List.range n).all (fun k => k == k0 || PL.getD k false || aheadB l.toArray 12 k0 k) = true) (hJ0 : ∀ w, I0 w → J w) (hJ1 : ∀ u w, I1 u w → J w) (hS0 : ∀ w, S w w)
    (hS : ∀ j v w w', S w w' → R j v w → R j v w') (hC : ∀ j v v' w, (∀ i, i = j ∨ i ∈ L.getD j [] → v i = v' i) → R j v w → R j v' w)
    (hop : OwesAllw P D L I0 I1 J k0 PL S R a0 0 n l)
    (hend : ∀ (vals : Nat → Value) (w : World), I1 (vals k0) w → (∀ j : Nat, j < n → R j vals w) → wpList P l.toArray Q (l.drop n) (putD D vals (List.range n) a0) w) :
    (Code.region id l.toArray true).wpIn (Fence.wide.inRound lr) nn P Q a0 w0 := by
  simp only [regOk2, Bool.and_eq_true] at hok
  obtain ⟨⟨⟨⟨⟨⟨⟨hnle, htl⟩, hb⟩, hap⟩, hlo⟩, hsz⟩, hD⟩, hgd⟩ := hok
  have hnle' := of_decide_eq_true hnle
  have slot_lt : ∀ {j t : Nat}, slot l.toArray j = some t → j < l.toArray.size := by
    intro j t hj
    unfold slot at hj
    cases hk : l.toArray[j]? with
    | none => rw [hk] at hj; cases hj
    | some o => exact (Array.getElem?_eq_some_iff.1 hk).1
  have hsz' : ∀ j t, slot l.toArray j = some t → t < a0.tmps.size := by
    intro j t hj
    have h1 := List.all_eq_true.1 hsz j (List.mem_range.2 (slot_lt hj))
    simp only [hj] at h1
    exact of_decide_eq_true h1
  have hD' : ∀ j, j < l.toArray.size → slot l.toArray j = D.getD j none := fun j hj => by simpa using List.all_eq_true.1 hD j (List.mem_range.2 hj)
  refine region_round hm hnd hlq ?_
  refine wpAny_heldv hb hap hlo hnle' htl (I0 := I0) (I1 := I1) (J := J) (k0 := k0) (PL := PL) (S := S) (R := R) (a0 := a0) hsz' hS hC hk0 (fun o k ho hk hne => ?_) hJ0 hJ1 hS0 (fun k o hk ho => ?_) (fun vals w hI hR => ?_) _ _ (fun _ => undef) a0 _ ?_ ?_ ?_
  · have h1 := List.all_eq_true.1 hPL k (List.mem_range.2 hk)
    simp only [Bool.or_eq_true, beq_iff_eq] at h1
    rcases h1 with (h1 | h1) | h1
    · exact (hne h1).elim
    · exact .inl h1
    · exact .inr h1
  · have hklt : k < l.toArray.size := (Array.getElem?_eq_some_iff.1 ho).1
    have h1 := owes_of_allw l 0 n hop k o hk (by simpa using ho)
    rw [Nat.zero_add] at h1
    have hlk := List.all_eq_true.1 hlo k (List.mem_range.2 hklt)
    simp only [ho, Bool.and_eq_true] at hlk
    refine does_of_owesw hD' (fun j hj => ?_) hap hsz' (fun g want hg => ?_) h1
    · have h2 : j ∈ ahead o := by simpa using List.all_eq_true.1 hlk.1.2 j hj
      have h3 := List.all_eq_true.1 hb k (List.mem_range.2 hklt)
      simp only [ho] at h3
      have := of_decide_eq_true (List.all_eq_true.1 h3 j h2)
      omega
    · have h2 := List.all_eq_true.1 hgd k (List.mem_range.2 hklt)
      simp only [ho, Option.bind_some, hg, Bool.and_eq_true] at h2
      have hgl : g ∈ L.getD k [] := by simpa using h2.1
      refine ⟨hgl, ?_⟩
      have h4 : g ∈ ahead o := by simpa using List.all_eq_true.1 hlk.1.2 g hgl
      have h3 := List.all_eq_true.1 hb k (List.mem_range.2 hklt)
      simp only [ho] at h3
      have := of_decide_eq_true (List.all_eq_true.1 h3 g h4)
      rw [hD' g (by omega)]; exact h2.2
  · rw [putD_eq hD' vals _ _ (fun j hj => by have := List.mem_range.1 hj; omega)]
    exact hend vals w hI hR
  · simp
  · intro j _ hj
    rw [Array.getElem?_replicate, if_pos hj]
  · refine ⟨⟨fun hf => ?_, fun _ => h0⟩, by simp, rfl, rfl, ?_, fun _ _ => rfl, ?_, ?_⟩
    · rw [Array.getElem?_replicate] at hf
      split at hf <;> simp at hf
    · intro j o _ hj
      rw [Array.getElem?_replicate] at hj
      split at hj <;> simp at hj
    · intro j t hj
      rw [Array.getElem?_replicate] at hj
      split at hj <;> simp at hj
    · intro j hj
      rw [Array.getElem?_replicate] at hj
      split at hj <;> simp at hj
theorem region_v_r {lr nn : Nat} {id : Nat} {l : List Oper} {a0 : Act} {w0 : World} (n N : Nat) (D : List (Option Tmp)) (L : List (List Nat)) (LV : List (Nat × Value)) (k0 : Nat) (PL : List Bool) (I0 : World → Prop) (I1 : Value → World → Prop) (J : World → Prop) (S : World → World → Prop) (RL : List ((Nat → Value) → World → Prop)) (hm : P.follows .mixedOrders = true) (hnd : noDefer l.toArray = true) (hlq : ¬ LetsOut Q)
    (hok : regOk2 l.toArray D L n N = true) (hN : a0.tmps.size = N) (hLV : Lives a0 LV) (h0 : I0 w0.drew) (hk0 : k0 < n)
    (hPL : (List.range n).all (fun k => k == k0 || PL.getD k false || aheadB l.toArray 12 k0 k) = true) (hJ0 : ∀ w, I0 w → J w) (hJ1 : ∀ u w, I1 u w → J w) (hS0 : ∀ w, S w w) (hS : Stabg S RL)
    (hop : ∀ b0 : Act, b0.tmps.size = N → Lives b0 LV → OwesAllw P D L I0 I1 J k0 PL S (atg L RL) b0 0 n l)
    (hend : ∀ (vals : Nat → Value) (w : World), I1 (vals k0) w → (∀ j : Nat, j < n → atg L RL j vals w) → wpList P l.toArray Q (l.drop n) (putD D vals (List.range n) a0) w) :
    (Code.region id l.toArray true).wpIn (Fence.wide.inRound lr) nn P Q a0 w0 := by
  refine region_anyv_r n D L I0 I1 J k0 PL S (atg L RL) hm hnd hlq (hN ▸ hok) h0 hk0 hPL hJ0 hJ1 hS0 (fun j v w w' hs h => hS.get j _ w w' hs h) (fun j v v' w hv h => ?_) (hop a0 hN hLV) hend
  unfold atg at *
  have e : rs L j v = rs L j v' := by
    funext i
    unfold rs
    split
    · rename_i hi
      exact hv i (by simpa using hi)
    · rfl
  rw [← e]; exact h
end Go.Proofs.Ytfgmhidgkemfoaa.Roll
namespace Go.Proofs.Ytfgmhidgkemfoaa
open Go.RowKit Go.Shelf
set_option linter.unusedSimpArgs false
set_option linter.unusedVariables false
/-- blocks of pairs stay as they are -/
def KeepP (W W' : World) : Prop := ∀ (b : Nat) (cur : Array Value), W.heap[b]? = some (.cells cur 65 (0, 0)) → W'.heap[b]? = some (.cells cur 65 (0, 0))
/-- the blocks of pairs -/
def DP (W : World) (b : Nat) : Prop := ∃ cur : Array Value, W.heap[b]? = some (.cells cur 65 (0, 0))
theorem KeepP.refl (W : World) : KeepP W W := fun _ _ h => h
theorem KeepP.trans {A B C : World} (h : KeepP A B) (k : KeepP B C) : KeepP A C := fun b cur e => k b cur (h b cur e)
theorem KeepP.of_below {A B : World} (h : Below A.heap.size A B) : KeepP A B := fun b cur e => (h.block b (Array.getElem?_eq_some_iff.1 e).1).trans e
theorem Ps.keepP {W W' : World} {a : Option Addr} {n c : Nat} {ps : List KV} (h : Ps (DP W) W a n c ps) (k : KeepP W W') : Ps (DP W) W' a n c ps := by
  obtain ⟨h1, h2, h3, h4, h5, h6⟩ := h
  refine ⟨h1, h2, h3, h4, h5, fun hn => ?_⟩
  obtain ⟨b, off, ⟨cur, hb⟩, ha, hr⟩ := h6 hn
  refine ⟨b, off, ⟨cur, hb⟩, ha, fun j v hj => ?_⟩
  have := hr j v hj
  rw [cell_of_row W b (off + j) cur _ _ hb] at this
  exact (cell_of_row W' b (off + j) cur _ _ (k b cur hb)).trans this
theorem Ps.rowP {w : World} {base : Nat} {v : Value} {ps : List KV} (h : w.ownsRow base 65 2 v ps.length (pcells ps)) : ∃ a n c, v = .slice a n c ∧ Ps (DP w) w a n c ps ∧ (∀ ad, a = some ad → ad.spot = none) := by
  obtain ⟨h1, h2⟩ := h
  rcases h2 with ⟨rfl, h0⟩ | ⟨g, cap, cur, rfl, hb, hg, h3, h4, h5, h6⟩
  · exact ⟨none, 0, 0, rfl, ⟨h0, by rw [h0] at h1; exact h1, Nat.le_refl _, by decide, fun _ => rfl, fun h => absurd h (by omega)⟩, (fun ad h => by cases h)⟩
  · refine ⟨_, _, _, rfl, ⟨rfl, h1, h3, h4, (fun h => by cases h), fun _ => ⟨g, 0, ⟨cur, hg⟩, rfl, fun j v hj => ?_⟩⟩, (fun ad h => by cases h; rfl)⟩
    have : cur[0 + j]? = some v := by
      rw [← h6] at hj
      rw [Nat.zero_add, ← Array.getElem?_toList]
      rw [List.getElem?_take] at hj
      split at hj
      · exact hj
      · cases hj
    exact (cell_of_row w g (0 + j) cur _ _ hg).trans this
theorem Ps.toP {W W' : World} {a : Option Addr} {n c : Nat} {ps : List KV} (h : Ps (DP W) W a n c ps) (k : KeepP W W') : Ps (DP W') W' a n c ps := (h.keepP k).dom (fun b hb => by obtain ⟨cur, hb⟩ := hb; exact ⟨cur, k b cur hb⟩)
theorem Own.blk {w : World} {e : TypeId} {size : Nat} {k : Option Nat} {v : Value} {n : Nat} {xs : List Value} (h : Own w e size k v n xs) : k = v.ownBlock := by
  rcases h.2 with ⟨rfl, rfl, _⟩ | ⟨g, cap, cur, rfl, rfl, _⟩ <;> rfl
theorem Own.owns {w : World} {base : Nat} {e : TypeId} {size : Nat} {k : Option Nat} {v : Value} {n : Nat} {xs : List Value} (h : Own w e size k v n xs) (hb : ∀ j, k = some j → base ≤ j) : w.ownsRow base e size v n xs := by
  refine ⟨h.1, ?_⟩
  rcases h.2 with ⟨_, h1, h2⟩ | ⟨g, cap, cur, h1, h2, h3⟩
  · exact .inl ⟨h1, h2⟩
  · exact .inr ⟨g, cap, cur, h2, hb g h1, h3⟩
theorem Own.ofRow {w : World} {base : Nat} {e : TypeId} {size : Nat} {v : Value} {n : Nat} {xs : List Value} (h : w.ownsRow base e size v n xs) : Own w e size v.ownBlock v n xs ∧ ∀ j, v.ownBlock = some j → base ≤ j := by
  rcases h with ⟨h0, ⟨rfl, h2⟩ | ⟨g, cap, cur, rfl, hb, h3⟩⟩
  · exact ⟨⟨h0, .inl ⟨rfl, rfl, h2⟩⟩, fun j hj => by simp [Value.ownBlock] at hj⟩
  · exact ⟨⟨h0, .inr ⟨g, cap, cur, rfl, rfl, h3⟩⟩, fun j hj => by simp [Value.ownBlock] at hj; omega⟩
/-- what a step of a round keeps -/
structure KD (n0 : Nat) (W W' : World) : Prop where
  kp : KP n0 W W'
  p : KeepP W W'
  o : KeepsOthers W W'
theorem KD.refl (n0 : Nat) (W : World) : KD n0 W W := ⟨KP.refl _ _, KeepP.refl _, KeepsOthers.refl _⟩
theorem KD.trans {n0 : Nat} {A B C : World} (h : KD n0 A B) (k : KD n0 B C) : KD n0 A C := ⟨h.kp.trans k.kp, h.p.trans k.p, h.o.trans k.o⟩
theorem KD.of_below {n0 : Nat} {A B : World} (h : Below A.heap.size A B) (hn : n0 ≤ A.heap.size) : KD n0 A B :=
  ⟨KP.of h hn, KeepP.of_below h, ⟨h.size, fun k o hk _ => (h.block k (Array.getElem?_eq_some_iff.1 hk).1).trans hk⟩⟩
theorem KD.set {n0 B : Nat} {W : World} {tb : TypeId} {v : Value} (hv : Boxed W B tb v) (hn : n0 ≤ B) (v' : Value) (h1 : tb ≠ 9 ∧ tb ≠ 24 ∧ tb ≠ 124 ∧ tb ≠ 125 ∧ tb ≠ 65) : KD n0 W (W.setCell ⟨B, 0, none⟩ v') := by
  have hlt := hv.lt
  have hbb : Below n0 W (W.setCell ⟨B, 0, none⟩ v') := ((Kept.refl (fun j => j = B) W).setCell (p := ⟨B, 0, none⟩) (fun _ => rfl) v').below (by omega) (fun j hj e => by omega)
  have key : ∀ (b : Nat) (cs : Array Value) (t : TypeId), t ≠ tb → W.heap[b]? = some (.cells cs t (0, 0)) → (W.setCell ⟨B, 0, none⟩ v').heap[b]? = some (.cells cs t (0, 0)) := fun b cs t ht hh => by
    refine (Below.heap_setCell _ _ _ b (fun e => ?_)).trans hh
    have e' : b = B := e
    subst e'
    have := hh.symm.trans hv
    simp at this
    exact ht this.2
  refine ⟨⟨hbb, fun b cs t ht hh => key b cs t (by rintro rfl; rcases ht with h | h | h | h <;> simp_all) hh⟩, fun b cur hh => key b cur _ (fun e => h1.2.2.2.2 e.symm) hh, KeepsOthers.setCell _ _ _⟩
theorem KD.row {n0 : Nat} {W W' : World} {te : TypeId} {size n : Nat} {k : Option Nat} {v : Value} {xs : List Value} (ho : Own W te size k v n xs) (hk : Kept (fun j => k = some j) W W') (hn : n0 ≤ W.heap.size) (hb : ∀ j, k = some j → n0 ≤ j) (h1 : te ≠ 9 ∧ te ≠ 24 ∧ te ≠ 124 ∧ te ≠ 125 ∧ te ≠ 65) : KD n0 W W' := by
  have hbb : Below n0 W W' := hk.below hn (fun j hj e => by have := hb j e; omega)
  have key : ∀ (b : Nat) (cs : Array Value) (t : TypeId), t ≠ te → W.heap[b]? = some (.cells cs t (0, 0)) → W'.heap[b]? = some (.cells cs t (0, 0)) := fun b cs t ht hh => by
    refine hk.heap hh (fun e => ?_)
    subst e
    obtain ⟨cap, cur, -, hg, -⟩ := ho.row
    have := hh.symm.trans hg
    simp at this
    exact ht this.2
  refine ⟨⟨hbb, fun b cs t ht hh => key b cs t (by rintro rfl; rcases ht with h | h | h | h <;> simp_all) hh⟩, fun b cur hh => key b cur _ (fun e => h1.2.2.2.2 e.symm) hh, ⟨hk.size, fun b o hh hc => ?_⟩⟩
  refine hk.heap hh (fun e => ?_)
  subst e
  obtain ⟨cap, cur, -, hg, -⟩ := ho.row
  rw [hh] at hg
  cases hg
  cases hc
/-- Diff between two rounds: the edits so far, the old pairs that are left -/
structure DS (w W0 : World) (be bo : Nat) (es : List ED) (rest : List KV) (W : World) (sl : Value) (a : Option Addr) (n c : Nat) : Prop where
  e : Boxed W be 56 sl
  row : W.ownsRow w.heap.size 61 3 sl es.length (ecells es)
  o : Boxed W bo 26 (.slice a n c)
  ps : Ps (DP W0) W0 a n c rest
  sp : ∀ ad, a = some ad → ad.spot = none
  kp : KeepP W0 W
  b : Below w.heap.size w W
section
variable {w W0 W p w1 : World} {be bo : Nat} {es es' : List ED} {rest rest' : List KV} {sl v' : Value} {a a' : Option Addr} {n c n' c' m : Nat}
theorem DS.below (h : DS w W0 be bo es rest W sl a n c) (hb : Below W.heap.size W p) : DS w W0 be bo es rest p sl a n c :=
  ⟨(hb.block _ h.e.lt).trans h.e, ownsRow_below h.row hb, (hb.block _ h.o.lt).trans h.o, h.ps, h.sp, h.kp.trans (KeepP.of_below hb), h.b.trans (hb.mono h.b.size)⟩
theorem DS.setO (h : DS w W0 be bo es rest W sl a n c) (hne : be ≠ bo) (hw : w.heap.size ≤ bo) (hp : Ps (DP W0) W0 a' n' c' rest') (hsp : ∀ ad, a' = some ad → ad.spot = none) : DS w W0 be bo es rest' (W.setCell ⟨bo, 0, none⟩ (.slice a' n' c')) sl a' n' c' ∧ KD w.heap.size W (W.setCell ⟨bo, 0, none⟩ (.slice a' n' c')) := by
  have hk : KD w.heap.size W (W.setCell ⟨bo, 0, none⟩ (.slice a' n' c')) := KD.set h.o hw _ (by decide)
  refine ⟨⟨h.e.other hne _, ?_, h.o.set _, hp, hsp, h.kp.trans hk.p, h.b.trans hk.kp.1⟩, hk⟩
  exact h.row.kept (grownBy_setCell' W bo _) (.inr (h.o.not_row (by decide) h.row).symm)
theorem DS.app (h : DS w W0 be bo es rest W sl a n c) (hne : be ≠ bo) (hw : w.heap.size ≤ be) (hb : Below W.heap.size W p) (hk : Kept (fun j => sl.ownBlock = some j) p w1) (hown : w1.ownsRow w.heap.size 61 3 v' es'.length (ecells es')) :
    Boxed w1 be 56 sl ∧ DS w W0 be bo es' rest (w1.setCell ⟨be, 0, none⟩ v') v' a n c ∧ KD w.heap.size W (w1.setCell ⟨be, 0, none⟩ v') := by
  have h2 := h.below hb
  have hnr := h2.e.not_row (by decide) h2.row
  have hor := h2.o.not_row (by decide) h2.row
  have e1 : Boxed w1 be 56 sl := hk.heap h2.e (fun e => hnr e.symm)
  have o1 : Boxed w1 bo 26 (.slice a n c) := hk.heap h2.o (fun e => hor e.symm)
  obtain ⟨ho, hbj⟩ := Own.ofRow h2.row
  have hK1 : KD w.heap.size W p := KD.of_below hb h.b.size
  have hK2 : KD w.heap.size p w1 := KD.row ho hk h2.b.size hbj (by decide)
  have hK3 : KD w.heap.size w1 (w1.setCell ⟨be, 0, none⟩ v') := KD.set e1 hw _ (by decide)
  refine ⟨e1, ⟨e1.set _, ?_, o1.other (Ne.symm hne) _, h.ps, h.sp, (h.kp.trans hK1.p).trans (hK2.p.trans hK3.p), h.b.trans (hK1.trans (hK2.trans hK3)).kp.1⟩, hK1.trans (hK2.trans hK3)⟩
  exact hown.kept (grownBy_setCell' w1 be _) (.inr (e1.not_row (by decide) hown).symm)
end
/-- the invariant of Diff's loop -/
def DI (w W0 : World) (be bo : Nat) (old : List KV) (pre : List KV) (W : World) : Prop := ∃ sl a n c, DS w W0 be bo (pre.foldl diffRound ([], old)).1 (pre.foldl diffRound ([], old)).2 W sl a n c
theorem DI.own {w W0 : World} {be bo B : Nat} {old : List KV} (hm : w.heap.size ≤ B) : OwnFrom B (DI w W0 be bo old) := by
  rintro pre X Y row ⟨sl, a, n, c, h⟩ hg hr
  have hx : ∀ (b : Nat) (cs : Array Value) (t : TypeId), X.heap[b]? = some (.cells cs t (0, 0)) → Y.heap[b]? = some (.cells cs t (0, 0)) := fun b cs t hh => by
    refine (hg.block b (Array.getElem?_eq_some_iff.1 hh).1 (fun e => ?_)).trans hh
    obtain ⟨_, o, ho, hc⟩ := hr b e.symm
    rw [hh] at ho
    cases ho
    cases hc
  refine ⟨sl, a, n, c, hx _ _ _ h.e, ?_, hx _ _ _ h.o, h.ps, h.sp, h.kp.trans (fun b cur hh => hx b cur _ hh), ?_⟩
  · refine h.row.kept hg ?_
    rcases h.row.2 with ⟨rfl, _⟩ | ⟨g, cap, cur, rfl, _, hgb, _⟩
    · exact .inl rfl
    · refine .inr (fun e => ?_)
      obtain ⟨_, o, ho, hc⟩ := hr g e.symm
      rw [hgb] at ho
      cases ho
      cases hc
  · exact h.b.grown hg (Nat.le_trans h.b.size (Nat.le_refl _)) (fun j ej => by obtain ⟨h1, _⟩ := hr j ej; omega)
end Go.Proofs.Ytfgmhidgkemfoaa

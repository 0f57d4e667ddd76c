/-
  Texts N9, O0, NA, NB, NC, ND, NE, NF, NG, NH, NI, NJ, NK, R0, one behind the other.
-/
import Derived.WalkKit
import Derived.WalkSpells
import Derived.WalkLawsBesides
import Derived.Laws.AppendOwn
import Derived.Laws.OwnMore
import Derived.Deep.AppendSrc
import Derived.Deep.MidRow
import Derived.Lib.Hide
import GoSem.Claim
import Derived.Lib.Bytealg
import Derived.Laws.Externs
import Derived.Deep.QuietTactic
import Derived.BigQuiet
import Derived.Deep.CutBlock
import Derived.OwnWalk
import Derived.Deep.DrawnRows
import Derived.Deep.CutRange
import Derived.Deep.LoopGhost
import Derived.Laws.Tables
import Derived.Laws.ResultCell
import Derived.Deep.WholeRow
import Derived.Lib.Strings
import Derived.Shelf.Spec.SlicesInsert
import Derived.Lib.AppendZerosOnto
import Derived.Lib.Overlaps
import Derived.Laws.CopyRow
import Derived.Deep.RegionLaw
import Derived.Orders
import Derived.Tactics
import Derived.Test.YtfgmhidgkemfoaaRows
import Derived.Test.YtfgmhidgkemfoaaZT900
namespace Go.Proofs.Ytfgmhidgkemfoaa
open Go.RowKit
set_option linter.unusedSimpArgs false
set_option linter.unusedVariables false
theorem infoP : (Try.prog.info? 65).map (fun i => (i.zero, i.size, i.bytes)) = some (some (.agg #[.string ⟨#[]⟩, .string ⟨#[]⟩]), 2, 32) := by kernel_rfl
theorem infoN : (Try.prog.info? 85).map (fun i => (i.zero, i.size, i.bytes)) = some (some (.pointer none), 1, 8) := by kernel_rfl
theorem pcells_one (ps : List KV) : ∀ u ∈ pcells ps, u.oneCell' = true := by
  intro u hu
  unfold pcells at hu
  obtain ⟨p, -, hp⟩ := List.mem_flatMap.1 hu
  simp [KV.cells] at hp
  rcases hp with rfl | rfl <;> rfl
theorem pnts_one (gs : List Nat) : ∀ u ∈ pnts gs, u.oneCell' = true := by
  intro u hu
  obtain ⟨g, -, rfl⟩ := List.mem_map.1 hu
  rfl
/-- a row of pairs of one's own, in new memory -/
def MadeP (w : World) (v : Value) (ps : List KV) (w' : World) : Prop := ∃ k, Own w' 65 2 k v ps.length (pcells ps) ∧ (∀ j, k = some j → w.heap.size ≤ j) ∧ Below w.heap.size w w'
def MadeN (w : World) (v : Value) (gs : List Nat) (w' : World) : Prop := ∃ k, Own w' 85 1 k v gs.length (pnts gs) ∧ (∀ j, k = some j → w.heap.size ≤ j) ∧ Below w.heap.size w w'
theorem Own.emptyP (w : World) : Own (w.alloc (.cells #[] 65)) 65 2 (some w.heap.size) (.slice (some ⟨w.heap.size, 0, none⟩) 0 0) 0 [] := Own.made w 65 2 #[] 0 (Nat.zero_le _) rfl
theorem Own.emptyN (w : World) : Own (w.alloc (.cells #[] 85)) 85 1 (some w.heap.size) (.slice (some ⟨w.heap.size, 0, none⟩) 0 0) 0 [] := Own.made w 85 1 #[] 0 (Nat.zero_le _) rfl
set_option maxRecDepth 100000 in
set_option maxHeartbeats 400000 in
theorem clonePs_any (D : Nat → Prop) (a : Option Addr) (n c : Nat) (ps : List KV) (w : World) (hB : Ps D w a n c ps) (hn : n ≤ 1000000) :
    Calls Try.prog 81 #[.slice a n c] w fun e w' => ∃ v, e = .returned v ∧ MadeP w v ps w' := by
  obtain ⟨i0, hi, hz0, hz1, hz2⟩ := info_parts infoP
  cases a with
  | none =>
    have ke := fun (w : World) => Lib.run_eql_slice_nil (P := Try.prog) w 26 65 none n c 0 0 Try.underlying26
    have h0 := hB.2.2.2.2.1 rfl
    have h1 := hB.2.2.1
    subst h0
    obtain rfl : n = 0 := by omega
    obtain rfl : ps = [] := List.eq_nil_of_length_eq_zero hB.1
    clear hB
    go_enter Try.func81, Try.ntmps81
    go_wp2
    go_ret
    exact ⟨_, rfl, none, Own.nil _ _ _, (fun _ h => by cases h), Below.refl _ _⟩
  | some ad =>
    have HB := Lib.hid hB
    have HL := Lib.hid hB.1
    have ke := fun (w : World) => Lib.run_eql_slice_nil (P := Try.prog) w 26 65 (some ad) n c 0 0 Try.underlying26
    clear hB
    go_enter Try.func81, Try.ntmps81
    go_wp2_with (at_builtin; refine wpList_append_any _ rfl (.tmp 5) (.tmp 6) 26 26 rfl 65 i0 (.agg #[.string ⟨#[]⟩, .string ⟨#[]⟩]) 2 32 Try.underlying26 hi hz0 hz1 hz2 rfl (some w.heap.size) _ 0 [] rfl (Own.emptyP w) n (pcells ps) ((HB.out.2.kept (by decide) ((Kept.refl (fun _ => False) w).alloc _) (fun _ _ _ h => h)).src Try.underlying26 (pcells_one ps)) (by unfold maxLen; omega) (by omega) ?_)
    intro k' v' w' ho hf hK hn
    have R : MadeP w v' ps w' := ⟨k', by rw [HL.out]; simpa using ho, fun j hj => by
      rcases hf j hj with h | h
      · cases h; exact Nat.le_refl _
      · omega, ((Below.refl w.heap.size w).alloc (Nat.le_refl _) _).trans (hK.below (by simp) (fun j hj h => by cases h; omega))⟩
    have HR := Lib.hid R
    clear R ho hf hK hn
    go_wp2
    go_ret
    exact ⟨_, rfl, HR.out⟩
set_option maxRecDepth 100000 in
set_option maxHeartbeats 400000 in
theorem cloneNs_any (D : Nat → Prop) (a : Option Addr) (n c : Nat) (gs : List Nat) (w : World) (hB : Ks D w a n c gs) (hn : n ≤ 1000000) :
    Calls Try.prog 82 #[.slice a n c] w fun e w' => ∃ v, e = .returned v ∧ MadeN w v gs w' := by
  obtain ⟨i0, hi, hz0, hz1, hz2⟩ := info_parts infoN
  cases a with
  | none =>
    have ke := fun (w : World) => Lib.run_eql_slice_nil (P := Try.prog) w 92 85 none n c 0 0 Try.underlying92
    have h0 := hB.2.2.2.2.1 rfl
    have h1 := hB.2.2.1
    subst h0
    obtain rfl : n = 0 := by omega
    obtain rfl : gs = [] := List.eq_nil_of_length_eq_zero hB.1
    clear hB
    go_enter Try.func82, Try.ntmps82
    go_wp2
    go_ret
    exact ⟨_, rfl, none, Own.nil _ _ _, (fun _ h => by cases h), Below.refl _ _⟩
  | some ad =>
    have HB := Lib.hid hB
    have HL := Lib.hid hB.1
    have ke := fun (w : World) => Lib.run_eql_slice_nil (P := Try.prog) w 92 85 (some ad) n c 0 0 Try.underlying92
    clear hB
    go_enter Try.func82, Try.ntmps82
    go_wp2_with (at_builtin; refine wpList_append_any _ rfl (.tmp 5) (.tmp 6) 92 92 rfl 85 i0 (.pointer none) 1 8 Try.underlying92 hi hz0 hz1 hz2 rfl (some w.heap.size) _ 0 [] rfl (Own.emptyN w) n (pnts gs) ((HB.out.2.kept (by decide) ((Kept.refl (fun _ => False) w).alloc _) (fun _ _ _ h => h)).src Try.underlying92 (pnts_one gs)) (by unfold maxLen; omega) (by omega) ?_)
    intro k' v' w' ho hf hK hn
    have R : MadeN w v' gs w' := ⟨k', by rw [HL.out]; simpa using ho, fun j hj => by
      rcases hf j hj with h | h
      · cases h; exact Nat.le_refl _
      · omega, ((Below.refl w.heap.size w).alloc (Nat.le_refl _) _).trans (hK.below (by simp) (fun j hj h => by cases h; omega))⟩
    have HR := Lib.hid R
    clear R ho hf hK hn
    go_wp2
    go_ret
    exact ⟨_, rfl, HR.out⟩
end Go.Proofs.Ytfgmhidgkemfoaa
namespace Go.Proofs.Ytfgmhidgkemfoaa
set_option linter.unusedSimpArgs false
set_option linter.unusedVariables false
mutual
/-- how many nodes have a property -/
def BT.cnt (P : Nat → Bool) : BT → Nat
  | .mk g _ ks => (P g).toNat + cntL P ks
def cntL (P : Nat → Bool) : List BT → Nat
  | [] => 0
  | k :: ks => k.cnt P + cntL P ks
end
theorem cnt_mk (P : Nat → Bool) (g : Nat) (ps : List KV) (ks : List BT) : (BT.mk g ps ks).cnt P = (P g).toNat + cntL P ks := by rw [BT.cnt]
theorem cnt_eq (P : Nat → Bool) (t : BT) : t.cnt P = (P t.g).toNat + cntL P t.ks := by cases t; rw [BT.cnt]; rfl
theorem cntL_nil (P : Nat → Bool) : cntL P [] = 0 := by rw [cntL]
theorem cntL_cons (P : Nat → Bool) (k : BT) (ks : List BT) : cntL P (k :: ks) = k.cnt P + cntL P ks := by rw [cntL]
theorem cntL_app (P : Nat → Bool) (a b : List BT) : cntL P (a ++ b) = cntL P a + cntL P b := by
  induction a with
  | nil => rw [cntL_nil, List.nil_append, Nat.zero_add]
  | cons k ks ih => rw [List.cons_append, cntL_cons, cntL_cons, ih, Nat.add_assoc]
theorem toNat_le (b : Bool) : b.toNat ≤ 1 := by cases b <;> decide
theorem toLs_cons (p : KV) (ps : List KV) (k : BT) (ks : List BT) : toLs (p :: ps) (k :: ks) = k.toL ++ p :: toLs ps ks := by rw [toLs]
theorem toLs_last (k : BT) : toLs [] [k] = k.toL := by rw [toLs, toLs_leaf, List.append_nil]
/-- two nodes and a pair between them, in one -/
theorem toLs_app : ∀ (pl : List KV) (kl : List BT) (p : KV) (pr : List KV) (kr : List BT), kl.length = pl.length + 1 → toLs (pl ++ p :: pr) (kl ++ kr) = toLs pl kl ++ p :: toLs pr kr
  | [], [k], p, pr, kr, _ => by rw [List.nil_append, List.singleton_append, toLs_cons, toLs_last]
  | [], [], _, _, _, h => by simp at h
  | [], _ :: _ :: _, _, _, _, h => by simp at h
  | q :: pl, k :: kl, p, pr, kr, h => by rw [List.cons_append, List.cons_append, toLs_cons, toLs_app pl kl p pr kr (by simpa using h), toLs_cons, List.append_assoc, List.cons_append]
  | q :: pl, [], _, _, _, h => by simp at h
theorem preL_set : ∀ (ps : List KV) (ks : List BT) (i : Nat) (k : BT), preL ps (ks.set i k) i = preL ps ks i
  | ps, ks, 0, k => by rw [preL_zero, preL_zero]
  | p :: ps, k0 :: ks, i + 1, k => by rw [List.set_cons_succ, preL, preL_set ps ks i k, preL]
  | [], k0 :: ks, i + 1, k => by rw [List.set_cons_succ]; rfl
  | _, [], i + 1, k => by rw [List.set_nil]
theorem preL_setP : ∀ (ps : List KV) (ks : List BT) (i : Nat) (q : KV), preL (ps.set i q) ks i = preL ps ks i
  | ps, ks, 0, k => by rw [preL_zero, preL_zero]
  | p :: ps, k0 :: ks, i + 1, k => by rw [List.set_cons_succ, preL, preL_setP ps ks i k, preL]
  | [], k0 :: ks, i + 1, k => by rw [List.set_nil]
  | [], [], i + 1, k => by rw [List.set_nil]
  | p :: ps, [], i + 1, k => by rw [List.set_cons_succ]; rfl
/-- another child -/
theorem toLs_set (ps : List KV) (ks : List BT) (i : Nat) (hi : i < ks.length) (hl : ks.length = ps.length + 1) (k : BT) : toLs ps (ks.set i k) = preL ps ks i ++ (k.toL ++ sufL (ps.drop i) (ks.drop (i + 1))) := by
  rw [toLs_split ps (ks.set i k) i (by simpa using hi) (by simpa using hl), preL_set, List.getElem_set_self, List.drop_set_of_lt (by omega)]
/-- another child and another pair behind it -/
theorem toLs_set2 (ps : List KV) (ks : List BT) (i : Nat) (hi : i < ps.length) (hl : ks.length = ps.length + 1) (k : BT) (q : KV) : ∃ B, toLs ps ks = preL ps ks i ++ ((ks[i]'(by omega)).toL ++ ps[i] :: B) ∧ toLs (ps.set i q) (ks.set i k) = preL ps ks i ++ (k.toL ++ q :: B) ∧ toLs (ps.set i q) ks = preL ps ks i ++ ((ks[i]'(by omega)).toL ++ q :: B) := by
  have e1 : ps.drop i = ps[i] :: ps.drop (i + 1) := List.drop_eq_getElem_cons hi
  have e2 : ks.drop (i + 1) = ks[i + 1]'(by omega) :: ks.drop (i + 2) := List.drop_eq_getElem_cons (by omega)
  have e3 : (ps.set i q).drop i = q :: ps.drop (i + 1) := by
    rw [List.drop_eq_getElem_cons (by simpa using hi), List.getElem_set_self, List.drop_set_of_lt (by omega)]
  refine ⟨(ks[i + 1]'(by omega)).toL ++ sufL (ps.drop (i + 1)) (ks.drop (i + 2)), ?_, ?_, ?_⟩
  · rw [toLs_split ps ks i (by omega) hl, e1, e2]
    rfl
  · rw [toLs_set (ps.set i q) ks i (by omega) (by simpa using hl) k, preL_setP, e3, e2]
    rfl
  · rw [toLs_split (ps.set i q) ks i (by omega) (by simpa using hl), preL_setP, e3, e2]
    rfl
/-- a child in two -/
theorem toLs_split1 (m : KV) (L R : BT) : ∀ (ps : List KV) (ks : List BT) (i : Nat) (hi : i < ks.length), ks.length = ps.length + 1 → ks[i].toL = L.toL ++ m :: R.toL → toLs (ps.take i ++ m :: ps.drop i) (ks.take i ++ L :: R :: ks.drop (i + 1)) = toLs ps ks
  | ps, k :: ks, 0, _, hl, h => by
    simp only [List.take_zero, List.drop_zero, List.nil_append, List.drop_succ_cons]
    rw [toLs_cons, toLs_one ps R ks (by simpa using hl), toLs_one ps k ks (by simpa using hl)]
    have h : k.toL = L.toL ++ m :: R.toL := h
    rw [h]
    simp
  | p :: ps, k :: ks, i + 1, hi, hl, h => by
    simp only [List.take_succ_cons, List.drop_succ_cons, List.cons_append]
    rw [toLs_cons, toLs_cons, toLs_split1 m L R ps ks i (by simpa using hi) (by simpa using hl) (by simpa using h)]
  | [], k :: ks, i + 1, hi, hl, _ => by exfalso; simp only [List.length_cons, List.length_nil] at hl hi; omega
  | _, [], i, hi, _, _ => absurd hi (by simp)
/-- two children in one -/
theorem toLs_join (J : BT) : ∀ (ps : List KV) (ks : List BT) (i : Nat) (hi : i < ps.length) (hl : ks.length = ps.length + 1), J.toL = (ks[i]'(by omega)).toL ++ ps[i] :: (ks[i + 1]'(by omega)).toL → toLs (ps.take i ++ ps.drop (i + 1)) (ks.take i ++ J :: ks.drop (i + 2)) = toLs ps ks
  | p :: ps, k :: k2 :: ks, 0, _, hl, h => by
    simp only [List.take_zero, List.drop_zero, List.nil_append, List.drop_succ_cons]
    rw [toLs_cons, toLs_one ps J ks (by simpa using hl), toLs_one ps k2 ks (by simpa using hl)]
    have h : J.toL = k.toL ++ p :: k2.toL := h
    rw [h]
    simp
  | p :: ps, [k], 0, _, hl, _ => by simp at hl
  | p :: ps, k :: ks, i + 1, hi, hl, h => by
    simp only [List.take_succ_cons, List.drop_succ_cons, List.cons_append]
    rw [toLs_cons, toLs_cons, toLs_join J ps ks i (by simpa using hi) (by simpa using hl) (by simpa using h)]
  | p :: ps, [], _, _, hl, _ => by simp at hl
  | [], _, _, hi, _, _ => absurd hi (by simp)
/-- where a key belongs among the children -/
theorem place_inner {ps : List KV} {ks : List BT} {key : ByteArray} {i : Nat} (hl : ks.length = ps.length + 1) (hs : Sorted (toLs ps ks)) (hp : Place ps key i) (hik : i < ks.length) (hf : ¬ ∃ h : i < ps.length, ps[i].k = key) :
    (∀ x ∈ preL ps ks i, cmpK x.k key < 0) ∧ (∀ x ∈ sufL (ps.drop i) (ks.drop (i + 1)), 0 < cmpK x.k key) ∧ Sorted ks[i].toL := by
  obtain ⟨hi, h1, h2⟩ := hp
  have e := toLs_split ps ks i hik hl
  rw [e] at hs
  obtain ⟨s1, s2, s3⟩ := sorted_app.1 hs
  obtain ⟨s4, s5, s6⟩ := sorted_app.1 s2
  refine ⟨?_, ?_, s4⟩
  · intro p hpp
    by_cases h0 : i = 0
    · subst h0
      rw [preL_zero] at hpp
      cases hpp
    · obtain ⟨j, rfl⟩ : ∃ j, i = j + 1 := ⟨i - 1, by omega⟩
      obtain ⟨A, hA⟩ := preL_snoc ps ks j (by omega) hik
      rw [hA] at s1 hpp
      have h5 := h1 j (by omega) (by omega)
      rcases List.mem_append.1 hpp with hpp | hpp
      · have := (sorted_app.1 s1).2.2 p hpp ps[j] (by simp)
        exact cmpK_trans this h5
      · rw [List.mem_singleton.1 hpp]; exact h5
  · intro p hpp
    by_cases hip : i < ps.length
    · obtain ⟨B, hB⟩ := sufL_cons ps ks i hip hl
      rw [hB] at hpp s5
      have h3 := h2 i hip (Nat.le_refl _)
      have h4 : 0 < cmpK ps[i].k key := by
        by_cases h5 : cmpK ps[i].k key = 0
        · exact absurd ⟨hip, (cmpK_eq _ _).1 h5⟩ hf
        · omega
      rcases List.mem_cons.1 hpp with rfl | hpp
      · exact h4
      · exact cmpK_ge (by omega) ((sorted_cons.1 s5).1 p hpp)
    · rw [sufL_nil ps ks i (by omega)] at hpp
      cases hpp
/-- the pairs with a pair, and without a key -/
def insL (l : List KV) (p : KV) : List KV := l.filter (fun q => decide (cmpK q.k p.k < 0)) ++ p :: l.filter (fun q => decide (0 < cmpK q.k p.k))
def delL (l : List KV) (key : ByteArray) : List KV := l.filter (fun q => decide (q.k ≠ key))
theorem fil_lt {A : List KV} {key : ByteArray} (h : ∀ a ∈ A, cmpK a.k key < 0) : A.filter (fun q => decide (cmpK q.k key < 0)) = A ∧ A.filter (fun q => decide (0 < cmpK q.k key)) = [] :=
  ⟨List.filter_eq_self.2 (fun a ha => by simpa using h a ha), List.filter_eq_nil_iff.2 (fun a ha => by have := h a ha; simp; omega)⟩
theorem fil_gt {A : List KV} {key : ByteArray} (h : ∀ a ∈ A, 0 < cmpK a.k key) : A.filter (fun q => decide (cmpK q.k key < 0)) = [] ∧ A.filter (fun q => decide (0 < cmpK q.k key)) = A :=
  ⟨List.filter_eq_nil_iff.2 (fun a ha => by have := h a ha; simp; omega), List.filter_eq_self.2 (fun a ha => by simpa using h a ha)⟩
theorem insL_mid {A M S : List KV} {p : KV} (hA : ∀ a ∈ A, cmpK a.k p.k < 0) (hS : ∀ a ∈ S, 0 < cmpK a.k p.k) : insL (A ++ (M ++ S)) p = A ++ (insL M p ++ S) := by
  unfold insL
  rw [List.filter_append, List.filter_append, List.filter_append, List.filter_append, (fil_lt hA).1, (fil_lt hA).2, (fil_gt hS).1, (fil_gt hS).2]
  simp
theorem insL_new {A S : List KV} {p : KV} (hA : ∀ a ∈ A, cmpK a.k p.k < 0) (hS : ∀ a ∈ S, 0 < cmpK a.k p.k) : insL (A ++ S) p = A ++ p :: S := by
  have := insL_mid (M := []) hA hS
  rw [List.nil_append] at this
  rw [this]
  rfl
theorem insL_old {A S : List KV} {p q : KV} (hA : ∀ a ∈ A, cmpK a.k p.k < 0) (hS : ∀ a ∈ S, 0 < cmpK a.k p.k) (hq : q.k = p.k) : insL (A ++ q :: S) p = A ++ p :: S := by
  have h := insL_mid (M := [q]) hA hS
  have hc : cmpK q.k p.k = 0 := by rw [hq]; exact (cmpK_eq _ _).2 rfl
  have h2 : insL [q] p = [p] := by unfold insL; simp [hc]
  rw [h2] at h
  exact h
theorem sorted_around {A S : List KV} {q : KV} (hs : Sorted (A ++ q :: S)) : (∀ a ∈ A, cmpK a.k q.k < 0) ∧ (∀ a ∈ S, 0 < cmpK a.k q.k) := by
  obtain ⟨s1, s2, s3⟩ := sorted_app.1 hs
  refine ⟨fun a ha => s3 a ha q (by simp), fun a ha => ?_⟩
  have := (sorted_cons.1 s2).1 a ha
  have := cmpK_flip q.k a.k
  omega
theorem delL_none {A : List KV} {key : ByteArray} (h : ∀ a ∈ A, a.k ≠ key) : delL A key = A := List.filter_eq_self.2 (fun a ha => by simpa using h a ha)
theorem ne_lt {a key : ByteArray} (h : cmpK a key < 0) : a ≠ key := fun e => by have := (cmpK_eq a key).2 e; omega
theorem ne_gt {a key : ByteArray} (h : 0 < cmpK a key) : a ≠ key := fun e => by have := (cmpK_eq a key).2 e; omega
theorem delL_mid {A M S : List KV} {key : ByteArray} (hA : ∀ a ∈ A, cmpK a.k key < 0) (hS : ∀ a ∈ S, 0 < cmpK a.k key) : delL (A ++ (M ++ S)) key = A ++ (delL M key ++ S) := by
  have h1 := delL_none (key := key) (fun a ha => ne_lt (hA a ha))
  have h2 := delL_none (key := key) (fun a ha => ne_gt (hS a ha))
  unfold delL at *
  rw [List.filter_append, List.filter_append, h1, h2]
theorem delL_old {A S : List KV} {q : KV} (hs : Sorted (A ++ q :: S)) : delL (A ++ q :: S) q.k = A ++ S := by
  obtain ⟨hA, hS⟩ := sorted_around hs
  have h := delL_mid (M := [q]) hA hS
  have h2 : delL [q] q.k = [] := by unfold delL; simp
  rw [h2, List.nil_append] at h
  exact h
/-- a leaf -/
theorem ins_leaf {ps : List KV} {p : KV} {i : Nat} (hs : Sorted ps) (hp : Place ps p.k i) (hf : ¬ ∃ h : i < ps.length, ps[i].k = p.k) : insL ps p = ps.take i ++ p :: ps.drop i := by
  obtain ⟨hi, h1, h2⟩ := hp
  have e : ps = ps.take i ++ ps.drop i := (List.take_append_drop i ps).symm
  conv => lhs; rw [e]
  refine insL_new ?_ ?_
  · intro q hq
    obtain ⟨t, ht, rfl⟩ := List.mem_iff_getElem.1 hq
    rw [List.length_take] at ht
    rw [List.getElem_take]
    exact h1 t (by omega) (by omega)
  · intro q hq
    obtain ⟨t, ht, rfl⟩ := List.mem_iff_getElem.1 hq
    rw [List.length_drop] at ht
    rw [List.getElem_drop]
    have h3 := h2 (i + t) (by omega) (by omega)
    by_cases h4 : cmpK ps[i + t].k p.k = 0
    · exfalso
      have h5 := (cmpK_eq _ _).1 h4
      by_cases h6 : t = 0
      · subst h6; exact hf ⟨by omega, h5⟩
      · have h7 := hs.lt (i := i) (j := i + t) (by omega) (by omega)
        rw [h5] at h7
        have h8 := h2 i (by omega) (Nat.le_refl _)
        omega
    · omega
theorem set_at (ps : List KV) (i : Nat) (hi : i < ps.length) (p : KV) : ps.set i p = ps.take i ++ p :: ps.drop (i + 1) := by
  rw [List.set_eq_take_append_cons_drop, if_pos hi]
theorem at_split {α : Type} (ps : List α) (i : Nat) (hi : i < ps.length) : ps = ps.take i ++ ps[i] :: ps.drop (i + 1) := by
  rw [← List.drop_eq_getElem_cons hi, List.take_append_drop]
theorem ins_leaf_old {ps : List KV} {p : KV} {i : Nat} (hs : Sorted ps) (hi : i < ps.length) (hk : ps[i].k = p.k) : insL ps p = ps.set i p := by
  have e := at_split ps i hi
  rw [e] at hs
  obtain ⟨hA, hS⟩ := sorted_around hs
  rw [set_at ps i hi]
  conv => lhs; rw [e]
  exact insL_old (by rw [← hk]; exact hA) (by rw [← hk]; exact hS) hk
theorem ins_inner_old {ps : List KV} {ks : List BT} {p : KV} {i : Nat} (hl : ks.length = ps.length + 1) (hs : Sorted (toLs ps ks)) (hi : i < ps.length) (hk : ps[i].k = p.k) : insL (toLs ps ks) p = toLs (ps.set i p) ks := by
  obtain ⟨B, e1, -, e3⟩ := toLs_set2 ps ks i hi hl (ks[i]'(by omega)) p
  rw [e3, e1]
  rw [e1, ← List.append_assoc] at hs
  obtain ⟨hA, hS⟩ := sorted_around hs
  rw [← List.append_assoc, ← List.append_assoc]
  exact insL_old (by rw [← hk]; exact hA) (by rw [← hk]; exact hS) hk
theorem ins_inner {ps : List KV} {ks : List BT} {p : KV} {i : Nat} (hl : ks.length = ps.length + 1) (hs : Sorted (toLs ps ks)) (hp : Place ps p.k i) (hik : i < ks.length) (hf : ¬ ∃ h : i < ps.length, ps[i].k = p.k) (k : BT) (hk : k.toL = insL ks[i].toL p) : insL (toLs ps ks) p = toLs ps (ks.set i k) := by
  obtain ⟨hA, hS, -⟩ := place_inner hl hs hp hik hf
  rw [toLs_set ps ks i hik hl, toLs_split ps ks i hik hl, insL_mid hA hS, hk]
theorem del_leaf {ps : List KV} {i : Nat} (hs : Sorted ps) (hi : i < ps.length) : delL ps ps[i].k = ps.take i ++ ps.drop (i + 1) := by
  have e := at_split ps i hi
  have hs2 := hs
  rw [e] at hs2
  have := delL_old hs2
  rw [← e] at this
  exact this
theorem del_inner {ps : List KV} {ks : List BT} {key : ByteArray} {i : Nat} (hl : ks.length = ps.length + 1) (hs : Sorted (toLs ps ks)) (hp : Place ps key i) (hik : i < ks.length) (hf : ¬ ∃ h : i < ps.length, ps[i].k = key) (k : BT) (hk : k.toL = delL ks[i].toL key) : delL (toLs ps ks) key = toLs ps (ks.set i k) := by
  obtain ⟨hA, hS, -⟩ := place_inner hl hs hp hik hf
  rw [toLs_set ps ks i hik hl, toLs_split ps ks i hik hl, delL_mid hA hS, hk]
/-- the pair before it takes its place -/
theorem del_inner_old {ps : List KV} {ks : List BT} {i : Nat} (hl : ks.length = ps.length + 1) (hs : Sorted (toLs ps ks)) (hi : i < ps.length) (k : BT) (A : List KV) (q : KV) (hq : (ks[i]'(by omega)).toL = A ++ [q]) (hk : k.toL = delL (A ++ [q]) q.k) : delL (toLs ps ks) ps[i].k = toLs (ps.set i q) (ks.set i k) := by
  obtain ⟨B, e1, e2, -⟩ := toLs_set2 ps ks i hi hl k q
  rw [e2, e1]
  rw [e1, ← List.append_assoc] at hs
  rw [← List.append_assoc, delL_old hs, hk]
  obtain ⟨s1, -, -⟩ := sorted_app.1 hs
  obtain ⟨-, s2, -⟩ := sorted_app.1 s1
  rw [hq] at s2 ⊢
  rw [delL_old s2]
  simp
end Go.Proofs.Ytfgmhidgkemfoaa
namespace Go.Proofs.Ytfgmhidgkemfoaa
open Go.RowKit
set_option linter.unusedSimpArgs false
set_option linter.unusedVariables false
/-- the blocks that are not the node's own -/
def Off (D : Nat → Prop) (B g : Nat) (kp kk : Option Nat) : Nat → Prop := fun b => (D b ∨ B ≤ b) ∧ b ≠ g ∧ kp ≠ some b ∧ kk ≠ some b
/-- a node that is being made: its block g and its two rows are its own, and lie in memory that is new since w0; its children ks, and further trees xs, lie elsewhere -/
structure ONx (D : Nat → Prop) (w0 w : World) (g : Nat) (kp kk : Option Nat) (vp vk : Value) (ps : List KV) (ks xs : List BT) : Prop where
  blk : w.heap[g]? = some (.cells #[vp, vk] 94 (0, 0))
  hp : Own w 65 2 kp vp ps.length (pcells ps)
  hk : Own w 85 1 kk vk ks.length (pnts (ks.map BT.g))
  d1 : kp ≠ some g
  d2 : kk ≠ some g
  d3 : ∀ j, kp = some j → kk ≠ some j
  n0 : w0.heap.size ≤ g
  n1 : ∀ j, kp = some j → w0.heap.size ≤ j
  n2 : ∀ j, kk = some j → w0.heap.size ≤ j
  kids : ∀ k, k ∈ ks ++ xs → NdD (Off D w0.heap.size g kp kk) w k
  below : Below w0.heap.size w0 w
def ON (D : Nat → Prop) (w0 w : World) (g : Nat) (ps : List KV) (ks xs : List BT) : Prop := ∃ kp kk vp vk, ONx D w0 w g kp kk vp vk ps ks xs
section
variable {D : Nat → Prop} {w0 w : World} {g : Nat} {kp kk : Option Nat} {vp vk : Value} {ps : List KV} {ks xs : List BT}
theorem ONx.lt (h : ONx D w0 w g kp kk vp vk ps ks xs) : g < w.heap.size := (Array.getElem?_eq_some_iff.1 h.blk).1
theorem ONx.under {w' : World} (h : ONx D w0 w g kp kk vp vk ps ks xs) (hb : Below w.heap.size w w') : ONx D w0 w' g kp kk vp vk ps ks xs :=
  ⟨(hb.block _ h.lt).trans h.blk, h.hp.kept (Kept.of_below (fun _ => False) hb) (fun _ _ h => h), h.hk.kept (Kept.of_below (fun _ => False) hb) (fun _ _ h => h), h.d1, h.d2, h.d3, h.n0, h.n1, h.n2, fun k hk => (h.kids k hk).under hb, h.below.trans (hb.mono h.below.size)⟩
theorem ONx.sub {ys : List BT} (h : ONx D w0 w g kp kk vp vk ps ks xs) (hs : ∀ k ∈ ys, k ∈ ks ++ xs) : ONx D w0 w g kp kk vp vk ps ks ys :=
  ⟨h.blk, h.hp, h.hk, h.d1, h.d2, h.d3, h.n0, h.n1, h.n2, fun k hk => by
    rcases List.mem_append.1 hk with hk | hk
    · exact h.kids k (List.mem_append.2 (.inl hk))
    · exact h.kids k (hs k hk), h.below⟩
/-- what a call makes of children lies elsewhere, too -/
theorem ONx.add {w' : World} {r : BT} (h : ONx D w0 w g kp kk vp vk ps ks xs) (hb : Below w.heap.size w w') (hr : NdD (fun b => Off D w0.heap.size g kp kk b ∨ w.heap.size ≤ b) w' r) : ONx D w0 w' g kp kk vp vk ps ks (r :: xs) := by
  have h2 := h.under hb
  refine ⟨h2.blk, h2.hp, h2.hk, h2.d1, h2.d2, h2.d3, h2.n0, h2.n1, h2.n2, fun k hk => ?_, h2.below⟩
  have key : k = r ∨ k ∈ ks ++ xs := by
    rcases List.mem_append.1 hk with hk | hk
    · exact .inr (List.mem_append.2 (.inl hk))
    · rcases List.mem_cons.1 hk with hk | hk
      · exact .inl hk
      · exact .inr (List.mem_append.2 (.inr hk))
  rcases key with rfl | hk
  · refine hr.dom (fun b hbb => ?_)
    rcases hbb with hbb | hbb
    · exact hbb
    · have h3 := h.below.size
      have h4 := h.lt
      exact ⟨.inr (by omega), by omega, fun e => by have := h.hp.lt _ e; omega, fun e => by have := h.hk.lt _ e; omega⟩
  · exact h2.kids k hk
theorem ONx.nd (h : ONx D w0 w g kp kk vp vk ps ks xs) : NdD (fun b => D b ∨ w0.heap.size ≤ b) w (.mk g ps ks) := by
  obtain ⟨a, c, hv, hs⟩ := h.hp.sl
  obtain ⟨b, e, hv2, hs2⟩ := h.hk.sl
  have h1 := h.blk
  rw [hv, hv2] at h1
  refine .mk (.inr h.n0) h1 ⟨rfl, hs.dom (fun x hx => .inr (h.n1 x hx))⟩ ⟨by simp, hs2.dom (fun x hx => .inr (h.n2 x hx))⟩ (fun k hk => (h.kids k (List.mem_append.2 (.inl hk))).dom (fun x hx => hx.1))
/-- another row of pairs -/
theorem ONx.newP {w2 : World} {kp2 : Option Nat} {vp2 : Value} {ps2 : List KV} (h : ONx D w0 w g kp kk vp vk ps ks xs) (ho : Own w2 65 2 kp2 vp2 ps2.length (pcells ps2)) (hn : ∀ j, kp2 = some j → kp = some j ∨ w.heap.size ≤ j) (hk : Kept (fun j => kp = some j) w w2) : ONx D w0 (w2.setCell ⟨g, 0, none⟩ vp2) g kp2 kk vp2 vk ps2 ks xs := by
  have hg : w2.heap[g]? = some (.cells #[vp, vk] 94 (0, 0)) := hk.heap h.blk h.d1
  have hgl : g < w.heap.size := h.lt
  have hgk : kp2 ≠ some g := fun e => by
    rcases hn g e with e2 | e2
    · exact h.d1 e2
    · omega
  have K2 : Kept (fun j => j = g) w2 (w2.setCell ⟨g, 0, none⟩ vp2) := (Kept.refl (fun j => j = g) w2).setCell (p := ⟨g, 0, none⟩) (fun _ => rfl) _
  have d3' : ∀ j, kp2 = some j → kk ≠ some j := fun j e e2 => by
    rcases hn j e with e3 | e3
    · exact h.d3 j e3 e2
    · have := h.hk.lt j e2; omega
  refine ⟨?_, ho.kept K2 (fun j e e2 => hgk (e2 ▸ e)), (h.hk.kept hk (fun j e e2 => h.d3 j e2 e)).kept K2 (fun j e e2 => h.d2 (e2 ▸ e)), hgk, h.d2, d3', h.n0, fun j e => ?_, h.n2, fun k hkk => ?_, ?_⟩
  · rw [heap_setCell_same w2 g 0 _ _ _ hg]; rfl
  · rcases hn j e with e3 | e3
    · exact h.n1 j e3
    · have := h.below.size; omega
  · have h1 := ((h.kids k hkk).in).kept hk (fun b _ hb e => hb.1.2.2.1 e)
    have h2 := h1.kept K2 (fun b _ hb e => hb.1.2.1 e)
    refine h2.dom (fun b hb => ⟨hb.1.1, hb.1.2.1, fun e => ?_, hb.1.2.2.2⟩)
    rcases hn b e with e3 | e3
    · exact hb.1.2.2.1 e3
    · have := hb.2; omega
  · exact (h.below.trans (hk.below h.below.size (fun j hj e => by have := h.n1 j e; omega))).trans (K2.below (Nat.le_trans h.below.size hk.size) (fun j hj e => by have := h.n0; omega))
/-- another row of children, among those that are known -/
theorem ONx.newK {w2 : World} {kk2 : Option Nat} {vk2 : Value} {ks2 : List BT} (h : ONx D w0 w g kp kk vp vk ps ks xs) (ho : Own w2 85 1 kk2 vk2 ks2.length (pnts (ks2.map BT.g))) (hn : ∀ j, kk2 = some j → kk = some j ∨ w.heap.size ≤ j) (hk : Kept (fun j => kk = some j) w w2) (hm : ∀ k ∈ ks2, k ∈ ks ++ xs) (hx : ∀ k ∈ xs, k ∈ ks ++ xs) : ONx D w0 (w2.setCell ⟨g, 1, none⟩ vk2) g kp kk2 vp vk2 ps ks2 xs := by
  have hg : w2.heap[g]? = some (.cells #[vp, vk] 94 (0, 0)) := hk.heap h.blk h.d2
  have hgl : g < w.heap.size := h.lt
  have hgk : kk2 ≠ some g := fun e => by
    rcases hn g e with e2 | e2
    · exact h.d2 e2
    · omega
  have K2 : Kept (fun j => j = g) w2 (w2.setCell ⟨g, 1, none⟩ vk2) := (Kept.refl (fun j => j = g) w2).setCell (p := ⟨g, 1, none⟩) (fun _ => rfl) _
  have d3' : ∀ j, kp = some j → kk2 ≠ some j := fun j e2 e => by
    rcases hn j e with e3 | e3
    · exact h.d3 j e2 e3
    · have := h.hp.lt j e2; omega
  refine ⟨?_, (h.hp.kept hk (fun j e e2 => h.d3 j e e2)).kept K2 (fun j e e2 => h.d1 (e2 ▸ e)), ho.kept K2 (fun j e e2 => hgk (e2 ▸ e)), h.d1, hgk, d3', h.n0, h.n1, fun j e => ?_, fun k hkk => ?_, ?_⟩
  · rw [heap_setCell_same w2 g 1 _ _ _ hg]; rfl
  · rcases hn j e with e3 | e3
    · exact h.n2 j e3
    · have := h.below.size; omega
  · have hkk : k ∈ ks ++ xs := by
      rcases List.mem_append.1 hkk with h1 | h1
      · exact hm k h1
      · exact hx k h1
    have h1 := ((h.kids k hkk).in).kept hk (fun b _ hb e => hb.1.2.2.2 e)
    have h2 := h1.kept K2 (fun b _ hb e => hb.1.2.1 e)
    refine h2.dom (fun b hb => ⟨hb.1.1, hb.1.2.1, hb.1.2.2.1, fun e => ?_⟩)
    rcases hn b e with e3 | e3
    · exact hb.1.2.2.2 e3
    · have := hb.2; omega
  · exact (h.below.trans (hk.below h.below.size (fun j hj e => by have := h.n2 j e; omega))).trans (K2.below (Nat.le_trans h.below.size hk.size) (fun j hj e => by have := h.n0; omega))
end
theorem Kept.setCells {S : Nat → Prop} {g : Nat} : ∀ (vs : List Value) (off : Nat) {a w : World}, Kept S a w → (g < a.heap.size → S g) → Kept S a (w.setCells g off vs)
  | [], _, _, _, h, _ => h
  | v :: r, off, a, w, h, hp => Kept.setCells r (off + 1) (h.setCell (p := ⟨g, off, none⟩) hp v) hp
theorem heap_setCells_own {t : TypeId} {g : Nat} : ∀ (vs : List Value) (off : Nat) (w : World) (cur : Array Value), w.heap[g]? = some (.cells cur t (0, 0)) → off + vs.length ≤ cur.size →
    ∃ cur', (w.setCells g off vs).heap[g]? = some (.cells cur' t (0, 0)) ∧ cur'.size = cur.size ∧ cur'.toList = cur.toList.take off ++ vs ++ cur.toList.drop (off + vs.length)
  | [], off, w, cur, hg, h => ⟨cur, hg, rfl, by simp⟩
  | v :: r, off, w, cur, hg, h => by
    simp only [List.length_cons] at h
    have h1 := heap_setCell_same w g off cur t v hg
    obtain ⟨cur', h2, h3, h4⟩ := heap_setCells_own r (off + 1) _ _ h1 (by simp; omega)
    refine ⟨cur', h2, by simpa using h3, ?_⟩
    rw [h4]
    simp only [Array.toList_setIfInBounds, List.length_cons]
    rw [List.drop_set_of_lt (by omega), show off + 1 + r.length = off + (r.length + 1) by omega]
    congr 1
    rw [List.take_set, List.set_eq_take_append_cons_drop]
    simp only [List.length_take, Array.length_toList]
    rw [if_pos (by omega), List.take_take, List.drop_take]
    simp [show min off (off + 1) = off by omega]
/-- cells of a row of one's own are set -/
theorem Own.set {w : World} {e : TypeId} {size : Nat} {k : Nat} {v : Value} {n : Nat} {xs ys vs : List Value} (h : Own w e size (some k) v n xs) (off : Nat) (hf : off + vs.length ≤ n * size) (hy : ys = xs.take off ++ vs ++ xs.drop (off + vs.length)) : Own (w.setCells k off vs) e size (some k) v n ys := by
  rcases h.2 with ⟨e0, -⟩ | ⟨g, cap, cur, e0, rfl, hg, hn, hm, hs, ht⟩
  · cases e0
  · cases e0
    have hc : n * size ≤ cur.size := by rw [hs]; exact Nat.mul_le_mul_right _ hn
    obtain ⟨cur', c1, c2, c3⟩ := heap_setCells_own vs off w cur hg (by omega)
    have hl := h.1
    refine ⟨?_, .inr ⟨k, cap, cur', rfl, rfl, c1, hn, hm, by rw [c2, hs], ?_⟩⟩
    · rw [hy]
      simp only [List.length_append, List.length_take, List.length_drop]
      omega
    · rw [c3, hy, ← ht]
      have e1 : (List.take off cur.toList).length = off := by rw [List.length_take, Array.length_toList]; omega
      rw [List.append_assoc, List.append_assoc, List.take_append, List.take_append, e1, List.take_take, List.take_take, List.drop_take, List.take_of_length_le (l := vs) (by omega)]
      congr 1
      · congr 1; omega
      · congr 1
        congr 1
        omega
/-- a pair is put in its place -/
theorem ONx.setP {D : Nat → Prop} {w0 w : World} {g kp : Nat} {kk : Option Nat} {vp vk : Value} {ps : List KV} {ks xs : List BT} (h : ONx D w0 w g (some kp) kk vp vk ps ks xs) (i : Nat) (hi : i < ps.length) (p : KV) : ONx D w0 (w.setCells kp (i * 2) p.cells) g (some kp) kk vp vk (ps.set i p) ks xs := by
  have K : Kept (fun j => j = kp) w (w.setCells kp (i * 2) p.cells) := Kept.setCells _ _ (Kept.refl _ w) (fun _ => rfl)
  have hne : g ≠ kp := fun e => h.d1 (by rw [e])
  refine ⟨K.heap h.blk hne, ?_, h.hk.kept K (fun j e e2 => h.d3 kp rfl (e2 ▸ e)), h.d1, h.d2, h.d3, h.n0, h.n1, h.n2, fun k hk => ?_, h.below.trans (K.below h.below.size (fun j hj e => by have := h.n1 kp rfl; omega))⟩
  · rw [List.length_set]
    refine h.hp.set (i * 2) (by show _ + 2 ≤ _; omega) ?_
    rw [set_at ps i hi]
    conv => rhs; rw [at_split ps i hi]
    have e : ∀ a b : List KV, pcells (a ++ b) = pcells a ++ pcells b := fun a b => by unfold pcells; rw [List.flatMap_append]
    have e2 : ∀ q (b : List KV), pcells (q :: b) = q.cells ++ pcells b := fun q b => by unfold pcells; rw [List.flatMap_cons]
    have l1 : (pcells (ps.take i)).length = i * 2 := by rw [pcells_len, List.length_take]; omega
    have l2 : p.cells.length = 2 := rfl
    have l3 : (ps[i]).cells.length = 2 := rfl
    rw [e, e, e2, e2]
    generalize pcells (ps.take i) = A at l1 ⊢
    generalize pcells (ps.drop (i + 1)) = C
    generalize ps[i].cells = q at l3 ⊢
    rw [← l1, List.take_left, ← List.append_assoc A q C, show A.length + p.cells.length = (A ++ q).length by rw [List.length_append, l2, l3], List.drop_left, List.append_assoc]
  · exact (h.kids k hk).kept K (fun b _ hb e => hb.2.2.1 (by rw [e]))
/-- a child is put in its place -/
theorem ONx.setK {D : Nat → Prop} {w0 w : World} {g kk : Nat} {kp : Option Nat} {vp vk : Value} {ps : List KV} {ks xs : List BT} (h : ONx D w0 w g kp (some kk) vp vk ps ks xs) (i : Nat) (hi : i < ks.length) (y : BT) (hy : y ∈ ks ++ xs) : ONx D w0 (w.setCell ⟨kk, i, none⟩ (.pointer (some ⟨y.g, 0, none⟩))) g kp (some kk) vp vk ps (ks.set i y) xs := by
  have K : Kept (fun j => j = kk) w (w.setCell ⟨kk, i, none⟩ (.pointer (some ⟨y.g, 0, none⟩))) := (Kept.refl (fun j => j = kk) w).setCell (p := ⟨kk, i, none⟩) (fun _ => rfl) _
  have hne : g ≠ kk := fun e => h.d2 (by rw [e])
  refine ⟨K.heap h.blk hne, h.hp.kept K (fun j e e2 => h.d3 j e (by rw [e2])), ?_, h.d1, h.d2, h.d3, h.n0, h.n1, h.n2, fun k hk => ?_, h.below.trans (K.below h.below.size (fun j hj e => by have := h.n2 kk rfl; omega))⟩
  · rw [List.length_set]
    refine h.hk.set (vs := [.pointer (some ⟨y.g, 0, none⟩)]) i (by simp; omega) ?_
    unfold pnts
    rw [List.map_set, List.map_set, List.set_eq_take_append_cons_drop, if_pos (by simpa using hi)]
    simp
  · have hk : k ∈ ks ++ xs := by
      rcases List.mem_append.1 hk with h1 | h1
      · rcases List.mem_or_eq_of_mem_set h1 with h2 | h2
        · exact List.mem_append.2 (.inl h2)
        · rw [h2]; exact hy
      · exact List.mem_append.2 (.inr h1)
    exact (h.kids k hk).kept K (fun b _ hb e => hb.2.2.2 (by rw [e]))
end Go.Proofs.Ytfgmhidgkemfoaa
namespace Go.Proofs.Ytfgmhidgkemfoaa
open Go.RowKit
set_option linter.unusedSimpArgs false
set_option linter.unusedVariables false
/-- a part of a slice of pairs -/
theorem Ps.part {D : Nat → Prop} {w : World} {a : Option Addr} {n c : Nat} {ps : List KV} (h : Ps D w a n c ps) (f u : Nat) (hf : f ≤ u) (hu : u ≤ n) : ∃ a', (a' = a.map fun x => ⟨x.block, x.off + f * 2, x.spot⟩) ∧ Ps D w a' (u - f) (c - f) ((ps.take u).drop f) := by
  obtain ⟨h1, h2, h3, h4, h5, h6⟩ := h
  refine ⟨_, rfl, by rw [List.length_drop, List.length_take]; omega, by rw [pcells_len, List.length_drop, List.length_take]; omega, by omega, by omega, fun e => ?_, fun hp => ?_⟩
  · have : a = none := by cases a with | none => rfl | some x => cases e
    have := h5 this
    omega
  · obtain ⟨b, off, hD, rfl, hr⟩ := h6 (by omega)
    refine ⟨b, off + f * 2, hD, rfl, fun j v hv => ?_⟩
    have hjl : j < (u - f) * 2 := by
      have := (List.getElem?_eq_some_iff.1 hv).1
      rw [pcells_len, List.length_drop, List.length_take] at this
      omega
    rw [Nat.add_assoc]
    refine hr (f * 2 + j) v ?_
    have e1 : j = j / 2 * 2 + j % 2 := by omega
    rw [e1, pcells_get _ (j / 2) (j % 2) (by rw [List.length_drop, List.length_take]; omega) (by omega)] at hv
    rw [show f * 2 + j = (f + j / 2) * 2 + j % 2 by omega, pcells_get _ (f + j / 2) (j % 2) (by omega) (by omega)]
    simp only [List.getElem_drop, List.getElem_take] at hv
    exact hv
theorem Ks.part {D : Nat → Prop} {w : World} {a : Option Addr} {n c : Nat} {gs : List Nat} (h : Ks D w a n c gs) (f u : Nat) (hf : f ≤ u) (hu : u ≤ n) : ∃ a', (a' = a.map fun x => ⟨x.block, x.off + f, x.spot⟩) ∧ Ks D w a' (u - f) (c - f) ((gs.take u).drop f) := by
  obtain ⟨h1, h2, h3, h4, h5, h6⟩ := h
  refine ⟨_, rfl, by rw [List.length_drop, List.length_take]; omega, by rw [pnts_len, List.length_drop, List.length_take]; omega, by omega, by omega, fun e => ?_, fun hp => ?_⟩
  · have : a = none := by cases a with | none => rfl | some x => cases e
    have := h5 this
    omega
  · obtain ⟨b, off, hD, rfl, hr⟩ := h6 (by omega)
    refine ⟨b, off + f, hD, rfl, fun j v hv => ?_⟩
    rw [Nat.add_assoc]
    refine hr (f + j) v ?_
    have hjl := (List.getElem?_eq_some_iff.1 hv).1
    rw [pnts_len, List.length_drop, List.length_take] at hjl
    unfold pnts at *
    rw [List.map_drop, List.map_take, List.getElem?_drop, List.getElem?_take, if_pos (by omega)] at hv
    exact hv
theorem NdD.off {E : Nat → Prop} {w w' : World} {t : BT} (h : NdD E w t) (hb : Below w.heap.size w w') {g : Nat} {kp kk : Option Nat} (hg : w.heap.size ≤ g) (h1 : ∀ j, kp = some j → w.heap.size ≤ j) (h2 : ∀ j, kk = some j → w.heap.size ≤ j) : NdD (Off E w.heap.size g kp kk) w' t :=
  (h.in.under hb).dom (fun b hb => ⟨.inl hb.1, by have := hb.2; omega, fun e => by have := h1 b e; have := hb.2; omega, fun e => by have := h2 b e; have := hb.2; omega⟩)
theorem run_buildN (a : Option Addr) (n c : Nat) (W : World) : (Instr.build 94 #[(0, .slice a n c)]).run Try.prog W = .ok (.agg #[.slice a n c, .slice none 0 0]) W := by kernel_rfl
set_option maxRecDepth 100000 in
set_option maxHeartbeats 1000000 in
/-- a part of a node, which is a node of one's own -/
theorem part_any {E : Nat → Prop} {w : World} {t : BT} (h : NdD E w t) (hkl : t.ks = [] ∨ t.ks.length = t.ps.length + 1) (f u : Nat) (hf : f < u) (hu : u ≤ t.ps.length) (hn : t.ps.length ≤ 1000) :
    Calls Try.prog 70 #[.pointer (some ⟨t.g, 0, none⟩), .int .i64 (f : Int), .int .i64 (u : Int)] w fun e w' => ∃ c, e = .returned (.pointer (some ⟨c, 0, none⟩)) ∧ ON E w w' c ((t.ps.take u).drop f) ((t.ks.take (u + 1)).drop f) (t :: t.ks) := by
  obtain ⟨a, n, c, b, m, e, hE, hgb, c0, c1, hps, hks, hkd⟩ := h.facts
  have hgl : t.g < w.heap.size := (Array.getElem?_eq_some_iff.1 hgb).1
  have hl := hps.1
  have hnc : n ≤ c := hps.2.2.1
  have hcm : c ≤ 9223372036854775807 := hps.2.2.2.1
  have hml := hks.1
  rw [List.length_map] at hml
  have hme : m ≤ e := hks.2.2.1
  have hem : e ≤ 9223372036854775807 := hks.2.2.2.1
  have hgnd := h.nd
  have HL := fun (v : World) (hb : Below w.heap.size w v) => leaf_any (hgnd.under hb)
  have HALL : Hid (∀ k, k ∈ t :: t.ks → NdD E w k) := Lib.hid (fun k hk => by
    rcases List.mem_cons.1 hk with rfl | hk
    · exact h
    · exact hkd k hk)
  obtain ⟨bb, off, -, hbb, rfl, -⟩ := hps.at (by omega)
  obtain ⟨a', rfl, hpp⟩ := hps.part f u (by omega) (by omega)
  have hpp : Ps E w (some ⟨bb, off + f * 2, none⟩) (u - f) (c - f) ((t.ps.take u).drop f) := hpp
  have HC := Lib.hid (clonePs_any _ _ _ _ _ w hpp (by omega))
  obtain ⟨qs, hqs⟩ : ∃ qs, qs = (t.ps.take u).drop f := ⟨_, rfl⟩
  rw [← hqs] at HC ⊢
  have hfu : (f : Int) ≤ (u : Int) := by omega
  have huc : (u : Int) ≤ (c : Int) := by omega
  have hcf : ¬ c = f := by omega
  have hbn := run_buildN
  rcases hkl with hk0 | hk1
  · have HL : Hid (∀ v, Below w.heap.size w v → Calls Try.prog 69 #[.pointer (some ⟨t.g, 0, none⟩)] v fun e w' => e = .returned (.bool true) ∧ v = w') := Lib.hid (fun v hb => by have := HL v hb; rw [hk0] at this; exact this)
    have hkr : (t.ks.take (u + 1)).drop f = [] := by rw [hk0]; simp
    rw [hkr]
    obtain ⟨tg, htg⟩ : ∃ tg, tg = t.g := ⟨_, rfl⟩
    obtain ⟨tk, htk⟩ : ∃ tk, tk = t :: t.ks := ⟨_, rfl⟩
    rw [← htk] at HALL ⊢
    rw [← htg] at c0 c1 HL ⊢
    clear hpp hps hqs h hl hkd hks hml hkr hk0 hgb hgl hgnd htg htk hE hn
    go_enter Try.func70, Try.ntmps70
    go_upto_region 2 with (first
      | (go_at_call 81; refine HC.out.mono ?_; rintro e w2 ⟨v, rfl, k, ho, hk, hb⟩; obtain ⟨av, cv, rfl, -⟩ := id ho.sl; have HO := Lib.hid ho; have HK := Lib.hid hk; have HB := Lib.hid hb; clear ho hk hb))
    obtain ⟨w3, hw3⟩ : ∃ w3, w3 = w2.alloc (.cells #[.slice av qs.length cv, .slice none 0 0] 94) := ⟨_, rfl⟩
    obtain ⟨gc, hgc⟩ : ∃ gc, gc = w2.heap.size := ⟨_, rfl⟩
    have hb3 : Below w.heap.size w w3 := by rw [hw3]; exact HB.out.alloc HB.out.size _
    have hon : ON E w w3 gc qs [] tk := by
      refine ⟨k, none, _, _, by rw [hw3, hgc]; exact heap_new rfl, ?_, Own.nil _ _ _, ?_, (by simp), (fun _ _ => by simp), by rw [hgc]; exact HB.out.size, HK.out, (fun _ h => by cases h), fun q hq => (HALL.out q (by simpa using hq)).off hb3 (by rw [hgc]; exact HB.out.size) HK.out (fun _ h => by cases h), hb3⟩
      · rw [hw3]; exact HO.out.kept ((Kept.refl (fun _ => False) w2).alloc _) (fun _ _ h => h)
      · intro e
        have := HO.out.lt gc e
        omega
    have HON := Lib.hid hon
    have HB3 := Lib.hid hb3
    rw [← hw3, ← hgc]
    clear hw3 hgc hb3 hon HO HK HALL
    go_wp2_with (go_at_call 69; refine (HL.out _ HB3.out).mono ?_; rintro e w4 ⟨rfl, rfl⟩)
    go_ret
    exact ⟨gc, rfl, HON.out⟩
  · have HL : Hid (∀ v, Below w.heap.size w v → Calls Try.prog 69 #[.pointer (some ⟨t.g, 0, none⟩)] v fun e w' => e = .returned (.bool false) ∧ v = w') := Lib.hid (fun v hb => by have := HL v hb; rw [decide_eq_false (by omega)] at this; exact this)
    obtain ⟨bk, ok, -, hbk, rfl, -⟩ := hks.cells (by omega)
    obtain ⟨a'', rfl, hkk⟩ := hks.part f (u + 1) (by omega) (by omega)
    have hkk : Ks E w (some ⟨bk, ok + f, none⟩) (u + 1 - f) (e - f) (((t.ks.map BT.g).take (u + 1)).drop f) := hkk
    have HCK : Hid (∀ v, Below w.heap.size w v → Calls Try.prog 82 #[.slice (some ⟨bk, ok + f, none⟩) (u + 1 - f) (e - f)] v fun e w' => ∃ x, e = .returned x ∧ MadeN v x (((t.ks.map BT.g).take (u + 1)).drop f) w') := Lib.hid (fun v hb => cloneNs_any _ _ _ _ _ v (hkk.below hb) (by omega))
    obtain ⟨ks2, hks2⟩ : ∃ ks2, ks2 = (t.ks.take (u + 1)).drop f := ⟨_, rfl⟩
    have e2 : ((t.ks.map BT.g).take (u + 1)).drop f = ks2.map BT.g := by rw [hks2, List.map_drop, List.map_take]
    rw [e2] at HCK
    rw [← hks2]
    have HKS : Hid (∀ k, k ∈ ks2 → k ∈ t.ks) := Lib.hid (fun k hk => by rw [hks2] at hk; exact List.mem_of_mem_take (List.mem_of_mem_drop hk))
    obtain ⟨tg, htg⟩ : ∃ tg, tg = t.g := ⟨_, rfl⟩
    rw [← htg] at c0 c1 HL hgl ⊢
    obtain ⟨tk, htk⟩ : ∃ tk, tk = t :: t.ks := ⟨_, rfl⟩
    have HKS : Hid (∀ k, k ∈ ks2 → k ∈ tk) := Lib.hid (fun k hk => by rw [htk]; exact List.mem_cons_of_mem _ (HKS.out k hk))
    rw [← htk] at HALL ⊢
    have hu1 : IntKind.i64.wrap ((u : Int) + 1) = (u : Int) + 1 := i64_id _ (by omega) (by omega)
    have hue : (u : Int) + 1 ≤ (e : Int) := by omega
    have hfu1 : (f : Int) ≤ (u : Int) + 1 := by omega
    have hut : ((u : Int) + 1).toNat = u + 1 := by omega
    have hef : ¬ e = f := by omega
    clear hpp hps hqs h hl hkd hks hml hgb hgnd htg htk hE hn hkk hks2 e2 hk1
    have CB : Hid (∀ v, Below w.heap.size w v → v.cell? ⟨tg, 1, none⟩ = some (.slice (some ⟨bk, ok, none⟩) m e)) := Lib.hid (fun v hb => (hb.cell (p := ⟨tg, 1, none⟩) hgl).trans c1)
    go_enter Try.func70, Try.ntmps70
    go_upto_region 2 with (first
      | (go_at_call 81; refine HC.out.mono ?_; rintro e w2 ⟨v, rfl, k, ho, hk, hb⟩; obtain ⟨av, cv, rfl, -⟩ := id ho.sl; have HO := Lib.hid ho; have HK := Lib.hid hk; have HB := Lib.hid hb; clear ho hk hb))
    obtain ⟨w3, hw3⟩ : ∃ w3, w3 = w2.alloc (.cells #[.slice av qs.length cv, .slice none 0 0] 94) := ⟨_, rfl⟩
    obtain ⟨gc, hgc⟩ : ∃ gc, gc = w2.heap.size := ⟨_, rfl⟩
    have hb3 : Below w.heap.size w w3 := by rw [hw3]; exact HB.out.alloc HB.out.size _
    have hon : ONx E w w3 gc k none (.slice av qs.length cv) (.slice none 0 0) qs [] tk := by
      refine ⟨by rw [hw3, hgc]; exact heap_new rfl, ?_, Own.nil _ _ _, ?_, (by simp), (fun _ _ => by simp), by rw [hgc]; exact HB.out.size, HK.out, (fun _ h => by cases h), fun q hq => (HALL.out q (by simpa using hq)).off hb3 (by rw [hgc]; exact HB.out.size) HK.out (fun _ h => by cases h), hb3⟩
      · rw [hw3]; exact HO.out.kept ((Kept.refl (fun _ => False) w2).alloc _) (fun _ _ h => h)
      · intro e
        have := HO.out.lt gc e
        omega
    have HON := Lib.hid hon
    have HB3 := Lib.hid hb3
    have c13 := CB.out _ hb3
    rw [← hw3, ← hgc]
    clear hw3 hgc hb3 hon HO HK HALL c0 c1
    go_wp2_with (first
      | (go_at_call 69; refine (HL.out _ HB3.out).mono ?_; rintro e w4 ⟨rfl, rfl⟩)
      | (go_at_call 82; refine (HCK.out _ HB3.out).mono ?_; rintro e w4 ⟨v4, rfl, k4, ho4, hk4, hb4⟩; rw [List.length_map] at ho4; obtain ⟨av4, cv4, rfl, -⟩ := id ho4.sl; have hbl4 := (hb4.block gc HON.out.lt).trans HON.out.blk; have cc4 := cell_of_row _ gc 1 _ _ _ hbl4; have fz4 := frozen_of_row _ gc 1 _ _ hbl4; have HO4 := Lib.hid ho4; have HK4 := Lib.hid hk4; have HB4 := Lib.hid hb4; clear ho4 hk4 hb4))
    go_ret
    exact ⟨gc, rfl, k, k4, _, _, HON.out.newK HO4.out (fun j e => .inr (HK4.out j e)) (Kept.of_below _ HB4.out) (fun q hq => by simpa using HKS.out q hq) (fun q hq => by simpa using hq)⟩
end Go.Proofs.Ytfgmhidgkemfoaa
namespace Go.Proofs.Ytfgmhidgkemfoaa
open Go.RowKit
set_option linter.unusedSimpArgs false
set_option linter.unusedVariables false
theorem run_copy_rowK {P : Program} (w : World) (dT sT ty elem : TypeId) (size g o dLen dCap : Nat) (a : Addr) (sLen sCap m : Nat) (cur : Array Value) (t : TypeId) (cs : List Value)
    (hu : P.underlying dT = some (.slice elem)) (hs : (P.info? elem).map (·.size) = some size)
    (hg : w.heap[g]? = some (.cells cur t (0, 0))) (hm : m = Nat.min sLen dLen) (hn : cs.length = m * size)
    (hsrc : ∀ j v, cs[j]? = some v → w.cell? (a.add j) = some v) (hfit : o + cs.length ≤ cur.size) (h1 : ∀ v ∈ cs, v.oneCell' = true) :
    (Builtin.copy_ #[dT, sT] ty #[.slice (some ⟨g, o, none⟩) dLen dCap, .slice (some a) sLen sCap]).run P w =
      .ok (goInt m) (w.setRow g (cur.toList.take o ++ cs ++ cur.toList.drop (o + cs.length)).toArray) := by
  have hl := run_loadCells_list (P := P) w a cs hsrc
  have hst := run_storeCells_at P g o t cs 0 cur w hg (by simpa using hfit) h1
  cases hq : P.info? elem with
  | none => simp [hq] at hs
  | some i =>
    have hi : i.size = size := by simpa [hq] using hs
    simp [Builtin.copy_, run_underlying hu, Builtin.lenOf, Builtin.firstCells, sizeOf, typeInfo, hq, hi, ← hn, ← hm, hl, hst]
/-- a row as it lies -/
theorem Own.row {w : World} {e : TypeId} {size : Nat} {g : Nat} {v : Value} {n : Nat} {xs : List Value} (h : Own w e size (some g) v n xs) : ∃ cap cur, v = .slice (some ⟨g, 0, none⟩) n cap ∧ w.heap[g]? = some (.cells cur e (0, 0)) ∧ n ≤ cap ∧ cap ≤ maxLen ∧ cur.size = cap * size ∧ cur.toList.take (n * size) = xs := by
  rcases h.2 with ⟨e0, -⟩ | ⟨g', cap, cur, e0, rest⟩
  · cases e0
  · cases e0; exact ⟨cap, cur, rest⟩
theorem Own.of {w : World} {e : TypeId} {size g cap n : Nat} {cur : Array Value} {xs : List Value} (hg : w.heap[g]? = some (.cells cur e (0, 0))) (hn : n ≤ cap) (hm : cap ≤ maxLen) (hs : cur.size = cap * size) (ht : cur.toList.take (n * size) = xs) : Own w e size (some g) (.slice (some ⟨g, 0, none⟩) n cap) n xs :=
  ⟨by rw [← ht, List.length_take, Array.length_toList, hs]; exact Nat.min_eq_left (Nat.mul_le_mul_right _ hn), .inr ⟨g, cap, cur, rfl, rfl, hg, hn, hm, hs, ht⟩⟩
/-- a row has been changed in its block, or lies in a new one -/
def RowTo (w w' : World) (k k' : Option Nat) : Prop := (∀ j, k' = some j → k = some j ∨ w.heap.size ≤ j) ∧ Kept (fun j => k = some j) w w'
def insC (xs pv : List Value) (a : Nat) : List Value := xs.take a ++ (pv ++ xs.drop a)
theorem shift_cells {α : Type} (cur xs pv : List α) (a s N : Nat) (hs : pv.length = s) (ha : a ≤ N) (hN : N + s ≤ cur.length) (hx : cur.take N = xs) :
    (((cur.take (a + s) ++ xs.drop a ++ cur.drop (a + s + (xs.drop a).length)).take a ++ pv ++ (cur.take (a + s) ++ xs.drop a ++ cur.drop (a + s + (xs.drop a).length)).drop (a + pv.length))).take (N + s) = xs.take a ++ (pv ++ xs.drop a) := by
  rw [← List.append_assoc (xs.take a)]
  have hl : xs.length = N := by rw [← hx, List.length_take]; omega
  have e1 : (cur.take (a + s) ++ xs.drop a ++ cur.drop (a + s + (xs.drop a).length)).take a = xs.take a := by
    rw [List.append_assoc, List.take_append_of_le_length (by rw [List.length_take]; omega), List.take_take, ← hx, List.take_take, show min a (a + s) = a by omega, show min a N = a by omega]
  have e2 : (cur.take (a + s) ++ xs.drop a ++ cur.drop (a + s + (xs.drop a).length)).drop (a + pv.length) = xs.drop a ++ cur.drop (a + s + (xs.drop a).length) := by
    rw [List.append_assoc]
    have h0 : (cur.take (a + s)).length = a + pv.length := by rw [List.length_take]; omega
    rw [← h0, List.drop_left]
  rw [e1, e2, ← List.append_assoc, List.take_append_of_le_length (by simp only [List.length_append, List.length_take, List.length_drop]; omega), List.take_of_length_le (by simp only [List.length_append, List.length_take, List.length_drop]; omega)]
theorem grow_cells {α : Type} (r xs pv : List α) (a s N : Nat) (hs : pv.length = s) (hl : xs.length = N) (ha : a ≤ N) (hN : N + s ≤ r.length) (hx : r.take a = xs.take a) :
    (((r.take a ++ pv ++ r.drop (a + pv.length)).take (a + s) ++ xs.drop a ++ (r.take a ++ pv ++ r.drop (a + pv.length)).drop (a + s + (xs.drop a).length))).take (N + s) = xs.take a ++ (pv ++ xs.drop a) := by
  rw [← List.append_assoc (xs.take a)]
  have e1 : (r.take a ++ pv ++ r.drop (a + pv.length)).take (a + s) = xs.take a ++ pv := by
    have h0 : (r.take a ++ pv).length = a + s := by simp only [List.length_append, List.length_take]; omega
    rw [← h0, List.take_left, hx]
  rw [e1, List.take_append_of_le_length (by simp only [List.length_append, List.length_take, List.length_drop]; omega), List.take_of_length_le (by simp only [List.length_append, List.length_take, List.length_drop]; omega)]
end Go.Proofs.Ytfgmhidgkemfoaa
namespace Go.Proofs.Ytfgmhidgkemfoaa
open Go.RowKit
set_option linter.unusedSimpArgs false
set_option linter.unusedVariables false
set_option maxRecDepth 100000 in
set_option maxHeartbeats 2000000 in
theorem insertP_any (w : World) (k : Option Nat) (v : Value) (n : Nat) (xs pv : List Value) (i S : Nat) (tS : TypeId) (hown : Own w 65 2 k v n xs) (hpl : pv.length = 2) (h1x : ∀ u ∈ xs, u.oneCell' = true) (h1p : ∀ u ∈ pv, u.oneCell' = true) (hi : i ≤ n) (hn : n ≤ 1000) (hS : w.heap[S]? = some (.cells pv.toArray tS (0, 0))) (hSk : k ≠ some S) :
    Calls Try.prog 71 #[v, .int .i64 (i : Int), .slice (some ⟨S, 0, none⟩) 1 1] w fun e w' => ∃ k' v', e = .returned v' ∧ Own w' 65 2 k' v' (n + 1) (insC xs pv (i * 2)) ∧ RowTo w w' k k' := by
  obtain ⟨i0, hi0, hz0, hz1, hz2⟩ := info_parts infoP
  have mixed : Try.prog.follows .mixedOrders = true := by kernel_rfl
  have hsz : (Try.prog.info? 65).map (·.size) = some 2 := by rw [hi0]; simp [hz1]
  have hSl : S < w.heap.size := (Array.getElem?_eq_some_iff.1 hS).1
  have hsp : ∀ (W : World), W.heap[S]? = some (.cells pv.toArray tS (0, 0)) → ∀ j u, pv[j]? = some u → W.cell? ⟨S, 0 + j, none⟩ = some u := fun W hW j u hj => by
    rw [Nat.zero_add, cell_of_row W S j _ _ _ hW]
    simpa using hj
  have hsrc : Src Try.prog 2 26 (.slice (some ⟨S, 0, none⟩) 1 1) 1 pv w := Src.ofSlice w Try.underlying26 ⟨S, 0, none⟩ 1 1 pv (by omega) (fun j u hj => by rw [Addr.add_lit]; exact hsp w hS j u hj) h1p
  have hxl := hown.1
  by_cases hin : i = n
  · subst hin
    have HR : ∀ k' v' w', Own w' 65 2 k' v' (i + 1) (xs ++ pv) → (∀ j, k' = some j → k = some j ∨ w.heap.size ≤ j) → Kept (fun j => k = some j) w w' → Own w' 65 2 k' v' (i + 1) (insC xs pv (i * 2)) ∧ RowTo w w' k k' := fun k' v' w' h1 h2 h3 => ⟨by unfold insC; rw [List.take_of_length_le (by omega), List.drop_eq_nil_of_le (by omega), List.append_nil]; exact h1, h2, h3⟩
    have HR := Lib.hid HR
    have HOWN := Lib.hid hown
    rcases hown.2 with ⟨rfl, rfl, rfl⟩ | ⟨g, cap, cur, rfl, rfl, hg, hnc, hcm, hcs, htk⟩
    · clear hown hS hxl hsp
      go_enter Try.func71, Try.ntmps71
      go_wp2_with (at_builtin; refine wpList_append_any _ rfl (.tmp 23) (.tmp 24) 26 26 rfl 65 i0 (.agg #[.string ⟨#[]⟩, .string ⟨#[]⟩]) 2 32 Try.underlying26 hi0 hz0 hz1 hz2 rfl none _ 0 xs rfl HOWN.out 1 pv hsrc (by unfold maxLen; omega) (by omega) ?_; intro k' v' w' h1 h2 h3 h4; have H1 := Lib.hid (HR.out _ _ _ h1 h2 h3); clear h1 h2 h3 h4)
      all_goals (go_ret; exact ⟨k', v', rfl, H1.out⟩)
    · have hcm2 : cap ≤ 9223372036854775807 := hcm
      clear hown hS hxl hsp hg hcs htk hcm
      go_enter Try.func71, Try.ntmps71
      go_wp2_with (at_builtin; refine wpList_append_any _ rfl (.tmp 23) (.tmp 24) 26 26 rfl 65 i0 (.agg #[.string ⟨#[]⟩, .string ⟨#[]⟩]) 2 32 Try.underlying26 hi0 hz0 hz1 hz2 rfl (some g) _ i xs rfl HOWN.out 1 pv hsrc (by unfold maxLen; omega) (by omega) ?_; intro k' v' w' h1 h2 h3 h4; have H1 := Lib.hid (HR.out _ _ _ h1 h2 h3); clear h1 h2 h3 h4)
      all_goals (go_ret; exact ⟨k', v', rfl, H1.out⟩)
  · have hlt : i < n := by omega
    obtain ⟨g, rfl⟩ : ∃ g, k = some g := by
      rcases hown.2 with ⟨-, -, e⟩ | ⟨g, _, _, e, -⟩
      · omega
      · exact ⟨g, e⟩
    obtain ⟨cap, cur, rfl, hg, hnc, hcm, hcs, htk⟩ := hown.row
    have hcm2 : cap ≤ 9223372036854775807 := hcm
    have hgl : g < w.heap.size := (Array.getElem?_eq_some_iff.1 hg).1
    have hne : S ≠ g := fun e => hSk (by rw [e])
    have hz2' : ¬ ((i : Int) = (n : Int)) := by omega
    have hu : Try.prog.underlying 26 = some (.slice 65) := Try.underlying26
    have hw1 : IntKind.i64.wrap ((i : Int) + 1) = (i : Int) + 1 := i64_id _ (by omega) (by omega)
    have hwn : IntKind.i64.wrap ((n : Int) + 1) = (n : Int) + 1 := i64_id _ (by omega) (by omega)
    have htn : ((i : Int) + 1).toNat = i + 1 := by omega
    have htn2 : ((n : Int) + 1).toNat = n + 1 := by omega
    have hin1 : (i : Int) ≤ (n : Int) := by omega
    have hin2 : (0 : Int) ≤ (i : Int) + 1 := by omega
    have hin3 : (i : Int) + 1 ≤ (n : Int) + 1 := by omega
    have hin4 : (i : Int) ≤ (n : Int) + 1 := by omega
    have hdl : (xs.drop (i * 2)).length = (n - i) * 2 := by rw [List.length_drop, hxl]; omega
    have hcc : ∀ (W : World), W.heap[g]? = some (.cells cur 65 (0, 0)) → ∀ j u, (xs.drop (i * 2))[j]? = some u → W.cell? ((⟨g, (i * 2), none⟩ : Addr).add j) = some u := fun W hW j u hj => by
      rw [Addr.add_lit, cell_of_row W g _ _ _ _ hW]
      rw [List.getElem?_drop, ← htk, List.getElem?_take] at hj
      split at hj
      · simpa using hj
      · cases hj
    have h1d : ∀ u ∈ xs.drop (i * 2), u.oneCell' = true := fun u hu => h1x u (List.mem_of_mem_drop hu)
    by_cases hroom : n + 1 ≤ cap
    · have hr1 : (n : Int) + 1 ≤ (cap : Int) := by omega
      have hci : ¬ cap = i := by omega
      have hci1 : ¬ cap = i + 1 := by omega
      have hov : ∀ lb cb, (callFunc 83 #[.slice (some ⟨S, 0, none⟩) 1 1, .slice (some ⟨g, ((i + 1) * 2), none⟩) lb cb]).run Try.prog w = .ok (.value (.bool false)) w := fun lb cb => by
        rw [run_callFunc_extern Try.func83 (by kernel_rfl) (by kernel_rfl) (by kernel_rfl) (e := Extern.SlicesOverlaps.overlaps #[26, 26] #[4]) (by kernel_rfl),
          Lib.run_overlaps_apart w 26 4 65 hu 2 Try.sizeOf65 ⟨S, 0, none⟩ ⟨g, ((i + 1) * 2), none⟩ 1 1 lb cb hne tS 65 pv.length (cap * 2) (by simp [World.shape?, hS]) (by simp [World.shape?, hg, hcs]) (by omega) (frozen_of_row w S 0 _ _ hS) (frozen_of_row w S _ _ _ hS)]
        rfl
      obtain ⟨r1, hr1d⟩ : ∃ r1 : List Value, r1 = cur.toList.take ((i * 2) + 2) ++ xs.drop (i * 2) ++ cur.toList.drop ((i * 2) + 2 + (xs.drop (i * 2)).length) := ⟨_, rfl⟩
      have hr1l : r1.length = cap * 2 := by rw [hr1d]; simp only [List.length_append, List.length_take, List.length_drop, Array.length_toList]; omega
      have hcp1 : ∀ ty dc sc, (Builtin.copy_ #[26, 26] ty #[.slice (some ⟨g, ((i + 1) * 2), none⟩) (n - i) dc, .slice (some ⟨g, (i * 2), none⟩) (n + 1 - i) sc]).run Try.prog w.drew = .ok (goInt (n - i : Nat)) (w.drew.setRow g r1.toArray) := fun ty dc sc => by
        have := run_copy_rowK (P := Try.prog) w.drew 26 26 ty 65 2 g ((i + 1) * 2) (n - i) dc ⟨g, (i * 2), none⟩ (n + 1 - i) sc (n - i) cur 65 (xs.drop (i * 2)) hu hsz hg (by simp only [Nat.min_def]; split <;> omega) hdl (hcc w.drew hg) (by rw [hdl, hcs]; omega) h1d
        rw [this, hr1d]
        first | done | simp only [show ((i + 1) * 2) = (i * 2) + 2 by omega]
      obtain ⟨W1, hW1⟩ : ∃ W1, W1 = w.drew.setRow g r1.toArray := ⟨_, rfl⟩
      rw [← hW1] at hcp1
      have hW1g : W1.heap[g]? = some (.cells r1.toArray 65 (0, 0)) := by rw [hW1]; exact setRow_heap _ _ _ _ _ _ hg
      have hW1S : W1.heap[S]? = some (.cells pv.toArray tS (0, 0)) := by rw [hW1]; exact (setRow_other _ _ _ _ hne).trans hS
      obtain ⟨r2, hr2d⟩ : ∃ r2 : List Value, r2 = r1.take (i * 2) ++ pv ++ r1.drop ((i * 2) + pv.length) := ⟨_, rfl⟩
      have hcp2 : ∀ ty dc, (Builtin.copy_ #[26, 26] ty #[.slice (some ⟨g, (i * 2), none⟩) (n + 1 - i) dc, .slice (some ⟨S, 0, none⟩) 1 1]).run Try.prog W1 = .ok (goInt (1 : Nat)) (W1.setRow g r2.toArray) := fun ty dc => by
        have := run_copy_rowK (P := Try.prog) W1 26 26 ty 65 2 g (i * 2) (n + 1 - i) dc ⟨S, 0, none⟩ 1 1 1 r1.toArray 65 pv hu hsz hW1g (by simp only [Nat.min_def]; split <;> omega) (by omega) (fun j u hj => by rw [Addr.add_lit]; exact hsp W1 hW1S j u hj) (by rw [List.size_toArray, hr1l, hpl]; omega) h1p
        rw [this, hr2d]
      have HF : Hid (Own (W1.setRow g r2.toArray) 65 2 (some g) (.slice (some ⟨g, 0, none⟩) (n + 1) cap) (n + 1) (insC xs pv (i * 2)) ∧ RowTo w (W1.setRow g r2.toArray) (some g) (some g)) := Lib.hid ⟨Own.of (setRow_heap _ _ _ _ _ _ hW1g) hroom hcm (by rw [hr2d]; simp only [List.size_toArray, List.length_append, List.length_take, List.length_drop]; omega) (by
          unfold insC
          rw [hr2d, hr1d, show (n + 1) * 2 = n * 2 + 2 by omega]
          exact shift_cells cur.toList xs pv (i * 2) 2 (n * 2) hpl (by omega) (by rw [Array.length_toList]; omega) htk), fun j h => .inl h, by
          rw [hW1]
          exact (((Kept.refl (fun j => some g = some j) w).drew).setRow (fun _ => rfl) _).setRow (fun _ => rfl) _⟩
      have HCP1 := Lib.hid hcp1
      have HCP2 := Lib.hid hcp2
      have HOV := Lib.hid hov
      clear hcp1 hcp2 hov hW1 hW1g hW1S hr1d hr2d hr1l hown hsrc hsp hcc hg hS htk hxl hdl h1d h1x h1p hpl hcs
      go_enter Try.func71, Try.ntmps71
      go_upto_region 15 with (simp only [HOV.out])
      go_region_law_o (refine step_copy_runI rfl (.tmp 73) (.tmp 76) 26 26 rfl (.slice (some ⟨g, ((i + 1) * 2), none⟩) (n - i) (cap - (i + 1))) (.slice (some ⟨g, (i * 2), none⟩) (n + 1 - i) (cap - i)) (by simp [Act.eval, Act.put]) (by simp [Act.eval, Act.put]) (HCP1.out _ _ _) ?_)
      go_upto_region 16 with fail
      go_wp2_with (refine wpList_copy_runI _ rfl (.tmp 80) (.tmp 81) 26 26 rfl (.slice (some ⟨g, (i * 2), none⟩) (n + 1 - i) (cap - i)) (.slice (some ⟨S, 0, none⟩) 1 1) rfl rfl (HCP2.out _ _) ?_)
      go_ret
      exact ⟨some g, _, rfl, HF.out⟩
    · obtain rfl : cap = n := by omega
      have hr1 : ¬ ((cap : Int) + 1 ≤ (cap : Int)) := by omega
      have hr2 : (cap : Int) < (cap : Int) + 1 := by omega
      have hci : ¬ cap = i := by omega
      obtain ⟨G, hG⟩ : ∃ G, G = grownCap w (cap + 1) cap 65 := ⟨_, rfl⟩
      have hGn : cap + 1 ≤ G := by rw [hG]; exact grownCap_ge w _ _ _
      have hGm : G ≤ maxLen := by rw [hG]; exact grownCap_le_maxLen w (cap + 1) cap 65 (by unfold maxLen; omega)
      have hG63 : G ≤ 9223372036854775807 := hGm
      have hGi : ¬ G = i := by omega
      have hGi1 : ¬ G = i + 1 := by omega
      have hin0 : i + (cap + 1 - i) = cap + 1 := by omega
      have hkk : (cap : Int) + 1 - (i : Int) = ((cap + 1 - i : Nat) : Int) := by omega
      have hwk : IntKind.i64.wrap ((cap : Int) + 1 - (i : Int)) = (cap : Int) + 1 - (i : Int) := i64_id _ (by omega) (by omega)
      have hold : (Builtin.firstCells i0.size i (.slice (some ⟨g, 0, none⟩) i cap)).run Try.prog w.drew = .ok (xs.take (i * 2)).toArray w.drew := by
        rw [hz1]
        refine run_firstCells_some w.drew 2 i ⟨g, 0, none⟩ i cap (xs.take (i * 2)) (by rw [List.length_take]; omega) (fun j u hj => ?_)
        rw [Addr.add_lit, Nat.zero_add, cell_of_row w.drew g _ _ _ _ hg]
        rw [← htk, List.getElem?_take, List.getElem?_take] at hj
        split at hj
        · split at hj
          · simpa using hj
          · cases hj
        · cases hj
      obtain ⟨ROW, hROW⟩ : ∃ ROW : Array Value, ROW = (xs.take (i * 2)).toArray ++ Builtin.zeroCells ((.agg #[.string ⟨#[]⟩, .string ⟨#[]⟩]) : Value).cells (cap + 1 - i) ++ Builtin.zeroCells ((.agg #[.string ⟨#[]⟩, .string ⟨#[]⟩]) : Value).cells (G - (cap + 1)) := ⟨_, rfl⟩
      have hRl : ROW.size = G * 2 := by rw [hROW]; simp [Builtin.zeroCells, Value.cells]; omega
      have hRt : ROW.toList.take (i * 2) = xs.take (i * 2) := by
        rw [hROW]
        simp only [Array.toList_append, List.append_assoc]
        rw [List.take_append_of_le_length (by rw [List.length_take]; omega), List.take_of_length_le (by simp only [List.length_take]; omega)]
      have hrz : ∀ ty, (Builtin.append_ #[26, 3] ty #[.slice (some ⟨g, 0, none⟩) i cap, .int .i64 ((cap : Int) + 1 - (i : Int))]).run Try.prog w = .ok (.slice (some ⟨w.heap.size, 0, none⟩) (cap + 1) G) (w.drew.alloc (.cells ROW 65)) := fun ty => by
        have h := Lib.run_append_grow_zeros (P := Try.prog) w 26 3 ty 65 i0 (.agg #[.string ⟨#[]⟩, .string ⟨#[]⟩]) .i64 .i64 hu Try.underlying3 hi0 hz0 (some ⟨g, 0, none⟩) i cap (xs.take (i * 2)) hold (cap + 1 - i) (by omega) (by omega) (by omega) (by omega) (by rw [hz2]; omega) (by rw [hz2, hin0]; exact growslice_fits (by omega) (by omega))
        rw [hin0] at h
        rw [hkk, hROW, hG]
        exact h
      obtain ⟨W1, hW1⟩ : ∃ W1, W1 = w.drew.alloc (.cells ROW 65) := ⟨_, rfl⟩
      obtain ⟨N, hN⟩ : ∃ N, N = w.heap.size := ⟨_, rfl⟩
      have hW1N : W1.heap[N]? = some (.cells ROW 65 (0, 0)) := by rw [hW1, hN]; exact heap_new rfl
      have hW1S : W1.heap[S]? = some (.cells pv.toArray tS (0, 0)) := by rw [hW1]; exact heap_old hS
      have hW1g : W1.heap[g]? = some (.cells cur 65 (0, 0)) := by rw [hW1]; exact heap_old hg
      have hgN : g ≠ N := by omega
      have hSN : S ≠ N := by omega
      obtain ⟨r1, hr1d⟩ : ∃ r1 : List Value, r1 = ROW.toList.take (i * 2) ++ pv ++ ROW.toList.drop ((i * 2) + pv.length) := ⟨_, rfl⟩
      have hr1l : r1.length = G * 2 := by rw [hr1d]; simp only [List.length_append, List.length_take, List.length_drop, Array.length_toList]; omega
      have hcp1 : ∀ W, W.heap = W1.heap → ∀ ty dc, (Builtin.copy_ #[26, 26] ty #[.slice (some ⟨N, (i * 2), none⟩) (cap + 1 - i) dc, .slice (some ⟨S, 0, none⟩) 1 1]).run Try.prog W = .ok (goInt (1 : Nat)) (W.setRow N r1.toArray) := fun W hW ty dc => by
        have := run_copy_rowK (P := Try.prog) W 26 26 ty 65 2 N (i * 2) (cap + 1 - i) dc ⟨S, 0, none⟩ 1 1 1 ROW 65 pv hu hsz (by rw [hW]; exact hW1N) (by simp only [Nat.min_def]; split <;> omega) (by omega) (fun j u hj => by rw [Addr.add_lit]; exact hsp W (by rw [hW]; exact hW1S) j u hj) (by rw [hpl, hRl]; omega) h1p
        rw [this, hr1d]
      have hW2N : (W1.setRow N r1.toArray).heap[N]? = some (.cells r1.toArray 65 (0, 0)) := setRow_heap _ _ _ _ _ _ hW1N
      have hW2g : (W1.setRow N r1.toArray).heap[g]? = some (.cells cur 65 (0, 0)) := (setRow_other _ _ _ _ hgN).trans hW1g
      obtain ⟨r2, hr2d⟩ : ∃ r2 : List Value, r2 = r1.take ((i * 2) + 2) ++ xs.drop (i * 2) ++ r1.drop ((i * 2) + 2 + (xs.drop (i * 2)).length) := ⟨_, rfl⟩
      have hcp2 : ∀ W, W.heap = (W1.setRow N r1.toArray).heap → ∀ ty dc sc, (Builtin.copy_ #[26, 26] ty #[.slice (some ⟨N, ((i + 1) * 2), none⟩) (cap - i) dc, .slice (some ⟨g, (i * 2), none⟩) (cap - i) sc]).run Try.prog W = .ok (goInt (cap - i : Nat)) (W.setRow N r2.toArray) := fun W hW ty dc sc => by
        have := run_copy_rowK (P := Try.prog) W 26 26 ty 65 2 N ((i + 1) * 2) (cap - i) dc ⟨g, (i * 2), none⟩ (cap - i) sc (cap - i) r1.toArray 65 (xs.drop (i * 2)) hu hsz (by rw [hW]; exact hW2N) (by simp only [Nat.min_def]; split <;> omega) hdl (hcc W (by rw [hW]; exact hW2g)) (by rw [hdl, List.size_toArray, hr1l]; omega) h1d
        rw [this, hr2d]
        first | done | simp only [show ((i + 1) * 2) = (i * 2) + 2 by omega]
      have HF : Hid (∀ W, Kept (fun j => some g = some j) w W → W.heap[N]? = some (.cells r2.toArray 65 (0, 0)) → Own W 65 2 (some N) (.slice (some ⟨N, 0, none⟩) (cap + 1) G) (cap + 1) (insC xs pv (i * 2)) ∧ RowTo w W (some g) (some N)) := Lib.hid (fun W hK hW => ⟨Own.of hW hGn hGm (by rw [hr2d]; simp only [List.size_toArray, List.length_append, List.length_take, List.length_drop]; omega) (by
          unfold insC
          rw [hr2d, hr1d, show (cap + 1) * 2 = cap * 2 + 2 by omega]
          exact grow_cells ROW.toList xs pv (i * 2) 2 (cap * 2) hpl hxl (by omega) (by rw [Array.length_toList]; omega) hRt), fun j h => by cases h; exact .inr (by omega), hK⟩)
      have HW1N := Lib.hid hW1N
      rw [← hN] at hrz
      have HRZ := Lib.hid hrz
      have HCP1 := Lib.hid hcp1
      have HCP2 := Lib.hid hcp2
      clear hcp1 hcp2 hrz hW1N hW1S hW1g hW2N hW2g hr1d hr2d hr1l hown hsrc hsp hcc hS htk hxl hdl h1d h1x h1p hpl hcs hROW hRl hRt hG hold hgN hSN hne hSk hkk hin0
      go_enter Try.func71, Try.ntmps71
      subst hN
      subst hW1
      go_upto_region 10 with (at_builtin; refine Lib.wpList_append_run _ rfl (.tmp 34) (.tmp 39) 26 3 rfl (.slice (some ⟨g, 0, none⟩) i cap) (.int .i64 ((cap : Int) + 1 - (i : Int))) rfl rfl _ _ (HRZ.out _) ?_)
      go_upto_region 11 with (refine wpList_copy_runI _ rfl (.tmp 43) (.tmp 44) 26 26 rfl (.slice (some ⟨w.heap.size, (i * 2), none⟩) (cap + 1 - i) (G - i)) (.slice (some ⟨S, 0, none⟩) 1 1) rfl rfl (HCP1.out _ (by rfl) _ _) ?_)
      go_region_law_o (refine step_copy_runI rfl (.tmp 50) (.tmp 53) 26 26 rfl (.slice (some ⟨w.heap.size, ((i + 1) * 2), none⟩) (cap - i) (G - (i + 1))) (.slice (some ⟨g, (i * 2), none⟩) (cap - i) (cap - i)) (by simp [Act.eval, Act.put]) (by simp [Act.eval, Act.put]) (HCP2.out _ (by rfl) _ _ _) ?_)
      go_wp2_with fail
      go_ret
      refine ⟨some w.heap.size, _, rfl, HF.out _ ?_ ?_⟩
      · exact (((((Kept.refl (fun j => some g = some j) w).alloc _).drew.setRow (fun h => absurd h (Nat.lt_irrefl _)) _).drew).setRow (fun h => absurd h (Nat.lt_irrefl _)) _)
      · exact setRow_heap (World.drew _) _ r1.toArray _ _ _ (setRow_heap (w.alloc (.cells ROW 65)).drew _ ROW r1.toArray _ _ (show (w.alloc (.cells ROW 65)).heap[_]? = _ from heap_new rfl))
end Go.Proofs.Ytfgmhidgkemfoaa
namespace Go.Proofs.Ytfgmhidgkemfoaa
open Go.RowKit
set_option linter.unusedSimpArgs false
set_option linter.unusedVariables false
set_option maxRecDepth 100000 in
set_option maxHeartbeats 2000000 in
theorem insertN_any (w : World) (k : Option Nat) (v : Value) (n : Nat) (xs pv : List Value) (i S : Nat) (tS : TypeId) (hown : Own w 85 1 k v n xs) (hpl : pv.length = 1) (h1x : ∀ u ∈ xs, u.oneCell' = true) (h1p : ∀ u ∈ pv, u.oneCell' = true) (hi : i ≤ n) (hn : n ≤ 1000) (hS : w.heap[S]? = some (.cells pv.toArray tS (0, 0))) (hSk : k ≠ some S) :
    Calls Try.prog 73 #[v, .int .i64 (i : Int), .slice (some ⟨S, 0, none⟩) 1 1] w fun e w' => ∃ k' v', e = .returned v' ∧ Own w' 85 1 k' v' (n + 1) (insC xs pv i) ∧ RowTo w w' k k' := by
  obtain ⟨i0, hi0, hz0, hz1, hz2⟩ := info_parts infoN
  have mixed : Try.prog.follows .mixedOrders = true := by kernel_rfl
  have hsz : (Try.prog.info? 85).map (·.size) = some 1 := by rw [hi0]; simp [hz1]
  have hSl : S < w.heap.size := (Array.getElem?_eq_some_iff.1 hS).1
  have hsp : ∀ (W : World), W.heap[S]? = some (.cells pv.toArray tS (0, 0)) → ∀ j u, pv[j]? = some u → W.cell? ⟨S, 0 + j, none⟩ = some u := fun W hW j u hj => by
    rw [Nat.zero_add, cell_of_row W S j _ _ _ hW]
    simpa using hj
  have hsrc : Src Try.prog 1 92 (.slice (some ⟨S, 0, none⟩) 1 1) 1 pv w := Src.ofSlice w Try.underlying92 ⟨S, 0, none⟩ 1 1 pv (by omega) (fun j u hj => by rw [Addr.add_lit]; exact hsp w hS j u hj) h1p
  have hxl := hown.1
  by_cases hin : i = n
  · subst hin
    have HR : ∀ k' v' w', Own w' 85 1 k' v' (i + 1) (xs ++ pv) → (∀ j, k' = some j → k = some j ∨ w.heap.size ≤ j) → Kept (fun j => k = some j) w w' → Own w' 85 1 k' v' (i + 1) (insC xs pv i) ∧ RowTo w w' k k' := fun k' v' w' h1 h2 h3 => ⟨by unfold insC; rw [List.take_of_length_le (by omega), List.drop_eq_nil_of_le (by omega), List.append_nil]; exact h1, h2, h3⟩
    have HR := Lib.hid HR
    have HOWN := Lib.hid hown
    rcases hown.2 with ⟨rfl, rfl, rfl⟩ | ⟨g, cap, cur, rfl, rfl, hg, hnc, hcm, hcs, htk⟩
    · clear hown hS hxl hsp
      go_enter Try.func73, Try.ntmps73
      go_wp2_with (at_builtin; refine wpList_append_any _ rfl (.tmp 23) (.tmp 24) 92 92 rfl 85 i0 (.pointer none) 1 8 Try.underlying92 hi0 hz0 hz1 hz2 rfl none _ 0 xs rfl HOWN.out 1 pv hsrc (by unfold maxLen; omega) (by omega) ?_; intro k' v' w' h1 h2 h3 h4; have H1 := Lib.hid (HR.out _ _ _ h1 h2 h3); clear h1 h2 h3 h4)
      all_goals (go_ret; exact ⟨k', v', rfl, H1.out⟩)
    · have hcm2 : cap ≤ 9223372036854775807 := hcm
      clear hown hS hxl hsp hg hcs htk hcm
      go_enter Try.func73, Try.ntmps73
      go_wp2_with (at_builtin; refine wpList_append_any _ rfl (.tmp 23) (.tmp 24) 92 92 rfl 85 i0 (.pointer none) 1 8 Try.underlying92 hi0 hz0 hz1 hz2 rfl (some g) _ i xs rfl HOWN.out 1 pv hsrc (by unfold maxLen; omega) (by omega) ?_; intro k' v' w' h1 h2 h3 h4; have H1 := Lib.hid (HR.out _ _ _ h1 h2 h3); clear h1 h2 h3 h4)
      all_goals (go_ret; exact ⟨k', v', rfl, H1.out⟩)
  · have hlt : i < n := by omega
    obtain ⟨g, rfl⟩ : ∃ g, k = some g := by
      rcases hown.2 with ⟨-, -, e⟩ | ⟨g, _, _, e, -⟩
      · omega
      · exact ⟨g, e⟩
    obtain ⟨cap, cur, rfl, hg, hnc, hcm, hcs, htk⟩ := hown.row
    have hcm2 : cap ≤ 9223372036854775807 := hcm
    have hgl : g < w.heap.size := (Array.getElem?_eq_some_iff.1 hg).1
    have hne : S ≠ g := fun e => hSk (by rw [e])
    have hz2' : ¬ ((i : Int) = (n : Int)) := by omega
    have hu : Try.prog.underlying 92 = some (.slice 85) := Try.underlying92
    have hw1 : IntKind.i64.wrap ((i : Int) + 1) = (i : Int) + 1 := i64_id _ (by omega) (by omega)
    have hwn : IntKind.i64.wrap ((n : Int) + 1) = (n : Int) + 1 := i64_id _ (by omega) (by omega)
    have htn : ((i : Int) + 1).toNat = i + 1 := by omega
    have htn2 : ((n : Int) + 1).toNat = n + 1 := by omega
    have hin1 : (i : Int) ≤ (n : Int) := by omega
    have hin2 : (0 : Int) ≤ (i : Int) + 1 := by omega
    have hin3 : (i : Int) + 1 ≤ (n : Int) + 1 := by omega
    have hin4 : (i : Int) ≤ (n : Int) + 1 := by omega
    have hdl : (xs.drop i).length = (n - i) * 1 := by rw [List.length_drop, hxl]; omega
    have hcc : ∀ (W : World), W.heap[g]? = some (.cells cur 85 (0, 0)) → ∀ j u, (xs.drop i)[j]? = some u → W.cell? ((⟨g, i, none⟩ : Addr).add j) = some u := fun W hW j u hj => by
      rw [Addr.add_lit, cell_of_row W g _ _ _ _ hW]
      rw [List.getElem?_drop, ← htk, List.getElem?_take] at hj
      split at hj
      · simpa using hj
      · cases hj
    have h1d : ∀ u ∈ xs.drop i, u.oneCell' = true := fun u hu => h1x u (List.mem_of_mem_drop hu)
    by_cases hroom : n + 1 ≤ cap
    · have hr1 : (n : Int) + 1 ≤ (cap : Int) := by omega
      have hci : ¬ cap = i := by omega
      have hci1 : ¬ cap = i + 1 := by omega
      have hov : ∀ lb cb, (callFunc 86 #[.slice (some ⟨S, 0, none⟩) 1 1, .slice (some ⟨g, (i + 1), none⟩) lb cb]).run Try.prog w = .ok (.value (.bool false)) w := fun lb cb => by
        rw [run_callFunc_extern Try.func86 (by kernel_rfl) (by kernel_rfl) (by kernel_rfl) (e := Extern.SlicesOverlaps.overlaps #[92, 92] #[4]) (by kernel_rfl),
          Lib.run_overlaps_apart w 92 4 85 hu 1 Try.sizeOf85 ⟨S, 0, none⟩ ⟨g, (i + 1), none⟩ 1 1 lb cb hne tS 85 pv.length (cap * 1) (by simp [World.shape?, hS]) (by simp [World.shape?, hg, hcs]) (by omega) (frozen_of_row w S 0 _ _ hS) (frozen_of_row w S _ _ _ hS)]
        rfl
      obtain ⟨r1, hr1d⟩ : ∃ r1 : List Value, r1 = cur.toList.take (i + 1) ++ xs.drop i ++ cur.toList.drop (i + 1 + (xs.drop i).length) := ⟨_, rfl⟩
      have hr1l : r1.length = cap * 1 := by rw [hr1d]; simp only [List.length_append, List.length_take, List.length_drop, Array.length_toList]; omega
      have hcp1 : ∀ ty dc sc, (Builtin.copy_ #[92, 92] ty #[.slice (some ⟨g, (i + 1), none⟩) (n - i) dc, .slice (some ⟨g, i, none⟩) (n + 1 - i) sc]).run Try.prog w.drew = .ok (goInt (n - i : Nat)) (w.drew.setRow g r1.toArray) := fun ty dc sc => by
        have := run_copy_rowK (P := Try.prog) w.drew 92 92 ty 85 1 g (i + 1) (n - i) dc ⟨g, i, none⟩ (n + 1 - i) sc (n - i) cur 85 (xs.drop i) hu hsz hg (by simp only [Nat.min_def]; split <;> omega) hdl (hcc w.drew hg) (by rw [hdl, hcs]; omega) h1d
        rw [this, hr1d]
        first | done | simp only [show (i + 1) = i + 1 by omega]
      obtain ⟨W1, hW1⟩ : ∃ W1, W1 = w.drew.setRow g r1.toArray := ⟨_, rfl⟩
      rw [← hW1] at hcp1
      have hW1g : W1.heap[g]? = some (.cells r1.toArray 85 (0, 0)) := by rw [hW1]; exact setRow_heap _ _ _ _ _ _ hg
      have hW1S : W1.heap[S]? = some (.cells pv.toArray tS (0, 0)) := by rw [hW1]; exact (setRow_other _ _ _ _ hne).trans hS
      obtain ⟨r2, hr2d⟩ : ∃ r2 : List Value, r2 = r1.take i ++ pv ++ r1.drop (i + pv.length) := ⟨_, rfl⟩
      have hcp2 : ∀ ty dc, (Builtin.copy_ #[92, 92] ty #[.slice (some ⟨g, i, none⟩) (n + 1 - i) dc, .slice (some ⟨S, 0, none⟩) 1 1]).run Try.prog W1 = .ok (goInt (1 : Nat)) (W1.setRow g r2.toArray) := fun ty dc => by
        have := run_copy_rowK (P := Try.prog) W1 92 92 ty 85 1 g i (n + 1 - i) dc ⟨S, 0, none⟩ 1 1 1 r1.toArray 85 pv hu hsz hW1g (by simp only [Nat.min_def]; split <;> omega) (by omega) (fun j u hj => by rw [Addr.add_lit]; exact hsp W1 hW1S j u hj) (by rw [List.size_toArray, hr1l, hpl]; omega) h1p
        rw [this, hr2d]
      have HF : Hid (Own (W1.setRow g r2.toArray) 85 1 (some g) (.slice (some ⟨g, 0, none⟩) (n + 1) cap) (n + 1) (insC xs pv i) ∧ RowTo w (W1.setRow g r2.toArray) (some g) (some g)) := Lib.hid ⟨Own.of (setRow_heap _ _ _ _ _ _ hW1g) hroom hcm (by rw [hr2d]; simp only [List.size_toArray, List.length_append, List.length_take, List.length_drop]; omega) (by
          unfold insC
          rw [hr2d, hr1d, show (n + 1) * 1 = n * 1 + 1 by omega]
          exact shift_cells cur.toList xs pv i 1 (n * 1) hpl (by omega) (by rw [Array.length_toList]; omega) htk), fun j h => .inl h, by
          rw [hW1]
          exact (((Kept.refl (fun j => some g = some j) w).drew).setRow (fun _ => rfl) _).setRow (fun _ => rfl) _⟩
      have HCP1 := Lib.hid hcp1
      have HCP2 := Lib.hid hcp2
      have HOV := Lib.hid hov
      clear hcp1 hcp2 hov hW1 hW1g hW1S hr1d hr2d hr1l hown hsrc hsp hcc hg hS htk hxl hdl h1d h1x h1p hpl hcs
      go_enter Try.func73, Try.ntmps73
      go_upto_region 15 with (simp only [HOV.out])
      go_region_law_o (refine step_copy_runI rfl (.tmp 73) (.tmp 76) 92 92 rfl (.slice (some ⟨g, (i + 1), none⟩) (n - i) (cap - (i + 1))) (.slice (some ⟨g, i, none⟩) (n + 1 - i) (cap - i)) (by simp [Act.eval, Act.put]) (by simp [Act.eval, Act.put]) (HCP1.out _ _ _) ?_)
      go_upto_region 16 with fail
      go_wp2_with (refine wpList_copy_runI _ rfl (.tmp 80) (.tmp 81) 92 92 rfl (.slice (some ⟨g, i, none⟩) (n + 1 - i) (cap - i)) (.slice (some ⟨S, 0, none⟩) 1 1) rfl rfl (HCP2.out _ _) ?_)
      go_ret
      exact ⟨some g, _, rfl, HF.out⟩
    · obtain rfl : cap = n := by omega
      have hr1 : ¬ ((cap : Int) + 1 ≤ (cap : Int)) := by omega
      have hr2 : (cap : Int) < (cap : Int) + 1 := by omega
      have hci : ¬ cap = i := by omega
      obtain ⟨G, hG⟩ : ∃ G, G = grownCap w (cap + 1) cap 85 := ⟨_, rfl⟩
      have hGn : cap + 1 ≤ G := by rw [hG]; exact grownCap_ge w _ _ _
      have hGm : G ≤ maxLen := by rw [hG]; exact grownCap_le_maxLen w (cap + 1) cap 85 (by unfold maxLen; omega)
      have hG63 : G ≤ 9223372036854775807 := hGm
      have hGi : ¬ G = i := by omega
      have hGi1 : ¬ G = i + 1 := by omega
      have hin0 : i + (cap + 1 - i) = cap + 1 := by omega
      have hkk : (cap : Int) + 1 - (i : Int) = ((cap + 1 - i : Nat) : Int) := by omega
      have hwk : IntKind.i64.wrap ((cap : Int) + 1 - (i : Int)) = (cap : Int) + 1 - (i : Int) := i64_id _ (by omega) (by omega)
      have hold : (Builtin.firstCells i0.size i (.slice (some ⟨g, 0, none⟩) i cap)).run Try.prog w.drew = .ok (xs.take i).toArray w.drew := by
        rw [hz1]
        refine run_firstCells_some w.drew 1 i ⟨g, 0, none⟩ i cap (xs.take i) (by rw [List.length_take]; omega) (fun j u hj => ?_)
        rw [Addr.add_lit, Nat.zero_add, cell_of_row w.drew g _ _ _ _ hg]
        rw [← htk, List.getElem?_take, List.getElem?_take] at hj
        split at hj
        · split at hj
          · simpa using hj
          · cases hj
        · cases hj
      obtain ⟨ROW, hROW⟩ : ∃ ROW : Array Value, ROW = (xs.take i).toArray ++ Builtin.zeroCells ((.pointer none) : Value).cells (cap + 1 - i) ++ Builtin.zeroCells ((.pointer none) : Value).cells (G - (cap + 1)) := ⟨_, rfl⟩
      have hRl : ROW.size = G * 1 := by rw [hROW]; simp [Builtin.zeroCells, Value.cells]; omega
      have hRt : ROW.toList.take i = xs.take i := by
        rw [hROW]
        simp only [Array.toList_append, List.append_assoc]
        rw [List.take_append_of_le_length (by rw [List.length_take]; omega), List.take_of_length_le (by simp only [List.length_take]; omega)]
      have hrz : ∀ ty, (Builtin.append_ #[92, 3] ty #[.slice (some ⟨g, 0, none⟩) i cap, .int .i64 ((cap : Int) + 1 - (i : Int))]).run Try.prog w = .ok (.slice (some ⟨w.heap.size, 0, none⟩) (cap + 1) G) (w.drew.alloc (.cells ROW 85)) := fun ty => by
        have h := Lib.run_append_grow_zeros (P := Try.prog) w 92 3 ty 85 i0 (.pointer none) .i64 .i64 hu Try.underlying3 hi0 hz0 (some ⟨g, 0, none⟩) i cap (xs.take i) hold (cap + 1 - i) (by omega) (by omega) (by omega) (by omega) (by rw [hz2]; omega) (by rw [hz2, hin0]; exact growslice_fits (by omega) (by omega))
        rw [hin0] at h
        rw [hkk, hROW, hG]
        exact h
      obtain ⟨W1, hW1⟩ : ∃ W1, W1 = w.drew.alloc (.cells ROW 85) := ⟨_, rfl⟩
      obtain ⟨N, hN⟩ : ∃ N, N = w.heap.size := ⟨_, rfl⟩
      have hW1N : W1.heap[N]? = some (.cells ROW 85 (0, 0)) := by rw [hW1, hN]; exact heap_new rfl
      have hW1S : W1.heap[S]? = some (.cells pv.toArray tS (0, 0)) := by rw [hW1]; exact heap_old hS
      have hW1g : W1.heap[g]? = some (.cells cur 85 (0, 0)) := by rw [hW1]; exact heap_old hg
      have hgN : g ≠ N := by omega
      have hSN : S ≠ N := by omega
      obtain ⟨r1, hr1d⟩ : ∃ r1 : List Value, r1 = ROW.toList.take i ++ pv ++ ROW.toList.drop (i + pv.length) := ⟨_, rfl⟩
      have hr1l : r1.length = G * 1 := by rw [hr1d]; simp only [List.length_append, List.length_take, List.length_drop, Array.length_toList]; omega
      have hcp1 : ∀ W, W.heap = W1.heap → ∀ ty dc, (Builtin.copy_ #[92, 92] ty #[.slice (some ⟨N, i, none⟩) (cap + 1 - i) dc, .slice (some ⟨S, 0, none⟩) 1 1]).run Try.prog W = .ok (goInt (1 : Nat)) (W.setRow N r1.toArray) := fun W hW ty dc => by
        have := run_copy_rowK (P := Try.prog) W 92 92 ty 85 1 N i (cap + 1 - i) dc ⟨S, 0, none⟩ 1 1 1 ROW 85 pv hu hsz (by rw [hW]; exact hW1N) (by simp only [Nat.min_def]; split <;> omega) (by omega) (fun j u hj => by rw [Addr.add_lit]; exact hsp W (by rw [hW]; exact hW1S) j u hj) (by rw [hpl, hRl]; omega) h1p
        rw [this, hr1d]
      have hW2N : (W1.setRow N r1.toArray).heap[N]? = some (.cells r1.toArray 85 (0, 0)) := setRow_heap _ _ _ _ _ _ hW1N
      have hW2g : (W1.setRow N r1.toArray).heap[g]? = some (.cells cur 85 (0, 0)) := (setRow_other _ _ _ _ hgN).trans hW1g
      obtain ⟨r2, hr2d⟩ : ∃ r2 : List Value, r2 = r1.take (i + 1) ++ xs.drop i ++ r1.drop (i + 1 + (xs.drop i).length) := ⟨_, rfl⟩
      have hcp2 : ∀ W, W.heap = (W1.setRow N r1.toArray).heap → ∀ ty dc sc, (Builtin.copy_ #[92, 92] ty #[.slice (some ⟨N, (i + 1), none⟩) (cap - i) dc, .slice (some ⟨g, i, none⟩) (cap - i) sc]).run Try.prog W = .ok (goInt (cap - i : Nat)) (W.setRow N r2.toArray) := fun W hW ty dc sc => by
        have := run_copy_rowK (P := Try.prog) W 92 92 ty 85 1 N (i + 1) (cap - i) dc ⟨g, i, none⟩ (cap - i) sc (cap - i) r1.toArray 85 (xs.drop i) hu hsz (by rw [hW]; exact hW2N) (by simp only [Nat.min_def]; split <;> omega) hdl (hcc W (by rw [hW]; exact hW2g)) (by rw [hdl, List.size_toArray, hr1l]; omega) h1d
        rw [this, hr2d]
        first | done | simp only [show (i + 1) = i + 1 by omega]
      have HF : Hid (∀ W, Kept (fun j => some g = some j) w W → W.heap[N]? = some (.cells r2.toArray 85 (0, 0)) → Own W 85 1 (some N) (.slice (some ⟨N, 0, none⟩) (cap + 1) G) (cap + 1) (insC xs pv i) ∧ RowTo w W (some g) (some N)) := Lib.hid (fun W hK hW => ⟨Own.of hW hGn hGm (by rw [hr2d]; simp only [List.size_toArray, List.length_append, List.length_take, List.length_drop]; omega) (by
          unfold insC
          rw [hr2d, hr1d, show (cap + 1) * 1 = cap * 1 + 1 by omega]
          exact grow_cells ROW.toList xs pv i 1 (cap * 1) hpl hxl (by omega) (by rw [Array.length_toList]; omega) hRt), fun j h => by cases h; exact .inr (by omega), hK⟩)
      have HW1N := Lib.hid hW1N
      rw [← hN] at hrz
      have HRZ := Lib.hid hrz
      have HCP1 := Lib.hid hcp1
      have HCP2 := Lib.hid hcp2
      clear hcp1 hcp2 hrz hW1N hW1S hW1g hW2N hW2g hr1d hr2d hr1l hown hsrc hsp hcc hS htk hxl hdl h1d h1x h1p hpl hcs hROW hRl hRt hG hold hgN hSN hne hSk hkk hin0
      go_enter Try.func73, Try.ntmps73
      subst hN
      subst hW1
      go_upto_region 10 with (at_builtin; refine Lib.wpList_append_run _ rfl (.tmp 34) (.tmp 39) 92 3 rfl (.slice (some ⟨g, 0, none⟩) i cap) (.int .i64 ((cap : Int) + 1 - (i : Int))) rfl rfl _ _ (HRZ.out _) ?_)
      go_upto_region 11 with (refine wpList_copy_runI _ rfl (.tmp 43) (.tmp 44) 92 92 rfl (.slice (some ⟨w.heap.size, i, none⟩) (cap + 1 - i) (G - i)) (.slice (some ⟨S, 0, none⟩) 1 1) rfl rfl (HCP1.out _ (by rfl) _ _) ?_)
      go_region_law_o (refine step_copy_runI rfl (.tmp 50) (.tmp 53) 92 92 rfl (.slice (some ⟨w.heap.size, (i + 1), none⟩) (cap - i) (G - (i + 1))) (.slice (some ⟨g, i, none⟩) (cap - i) (cap - i)) (by simp [Act.eval, Act.put]) (by simp [Act.eval, Act.put]) (HCP2.out _ (by rfl) _ _ _) ?_)
      go_wp2_with fail
      go_ret
      refine ⟨some w.heap.size, _, rfl, HF.out _ ?_ ?_⟩
      · exact (((((Kept.refl (fun j => some g = some j) w).alloc _).drew.setRow (fun h => absurd h (Nat.lt_irrefl _)) _).drew).setRow (fun h => absurd h (Nat.lt_irrefl _)) _)
      · exact setRow_heap (World.drew _) _ r1.toArray _ _ _ (setRow_heap (w.alloc (.cells ROW 85)).drew _ ROW r1.toArray _ _ (show (w.alloc (.cells ROW 85)).heap[_]? = _ from heap_new rfl))
end Go.Proofs.Ytfgmhidgkemfoaa
namespace Go.Proofs.Ytfgmhidgkemfoaa
open Go.RowKit
set_option linter.unusedSimpArgs false
set_option linter.unusedVariables false
theorem step_append_run {P : Program} {ops : Array Oper} {o : Oper} {a : Act} {w : World} {K : Act → World → Prop} {Q : Exit → Act → World → Prop} {E : Prop}
    (hg : o.guard = none) (d x : Operand) (dT sT : TypeId) (hop : o.op = Op.call { callee := Callee.builtin Builtin.append, args := #[d, x], argTypes := #[dT, sT] })
    (v u : Value) (hd : a.eval d = v) (hx : a.eval x = u) {v' : Value} {w' : World} (hr : (Builtin.append_ #[dT, sT] o.type #[v, u]).run P w = .ok v' w') (hK : K (a.put o.dst v') w') :
    if Region.wanted o (yielded ops a.tmps) = true then Oper.wp P o a w K Q else E := by
  have hw : Region.wanted o (yielded ops a.tmps) = true := by simp [Region.wanted, hg]
  rw [if_pos hw]
  unfold Oper.wp
  simp [execOp, hop, resolve, invoke, builtin, hd, hx, hr, Result.andThen]
  exact hK
theorem run_clear_rowK {P : Program} (w : World) (t ty elem : TypeId) (size g o n c : Nat) (cur : Array Value) (tc : TypeId) (z : Value) (i : TypeInfo) (hu : P.underlying t = some (.slice elem)) (hi : P.info? elem = some i) (hz : i.zero = some z) (hzs : z.cells.size = size) (h1 : ∀ u ∈ (Builtin.zeroCells z.cells n).toList, u.oneCell' = true)
    (hg : w.heap[g]? = some (.cells cur tc (0, 0))) (hn : 0 < n) (hfit : o + n * size ≤ cur.size) :
    ∃ zs : List Value, zs.length = n * size ∧ (Builtin.clear_ #[t] ty #[.slice (some ⟨g, o, none⟩) n c]).run P w = .ok (.tuple #[]) (w.setRow g (cur.toList.take o ++ zs ++ cur.toList.drop (o + zs.length)).toArray) := by
  refine ⟨(Builtin.zeroCells z.cells n).toList, by simp [size_zeroCells, hzs], ?_⟩
  have hl : (Builtin.zeroCells z.cells n).toList.length = n * size := by simp [size_zeroCells, hzs]
  have hst := run_storeCells_at P g o tc (Builtin.zeroCells z.cells n).toList 0 cur w hg (by rw [hl]; simpa using hfit) h1
  cases n with
  | zero => omega
  | succ n => simp [Builtin.clear_, run_underlying hu, zeroValue, typeInfo, hi, hz, hst]
def delC (xs : List Value) (a s : Nat) : List Value := xs.take a ++ xs.drop (a + s)
theorem del_cells {α : Type} (cur xs zs : List α) (a s N : Nat) (ha : a + s ≤ N) (hN : N ≤ cur.length) (hx : cur.take N = xs) (hz : zs.length = s) (Y : List α) (hY : Y = cur.take a ++ xs.drop (a + s) ++ cur.drop (a + (xs.drop (a + s)).length)) :
    (Y.take (N - s) ++ zs ++ Y.drop (N - s + zs.length)).take (N - s) = xs.take a ++ xs.drop (a + s) := by
  have hl : xs.length = N := by rw [← hx, List.length_take]; omega
  have e0 : cur.take a = xs.take a := by rw [← hx, List.take_take, show min a N = a by omega]
  rw [List.append_assoc, List.take_append_of_le_length (by rw [hY]; simp only [List.length_append, List.length_take, List.length_drop]; omega), List.take_take, Nat.min_self, hY, e0]
  have h0 : (xs.take a ++ xs.drop (a + s)).length = N - s := by simp only [List.length_append, List.length_take, List.length_drop]; omega
  rw [← h0, List.take_left]
end Go.Proofs.Ytfgmhidgkemfoaa
namespace Go.Proofs.Ytfgmhidgkemfoaa
open Go.RowKit
set_option linter.unusedSimpArgs false
set_option linter.unusedVariables false
set_option maxRecDepth 100000 in
set_option maxHeartbeats 2000000 in
theorem deleteP_any (w : World) (g : Nat) (v : Value) (m : Nat) (xs : List Value) (i : Nat) (x y : Int) (hx : x = (i : Int)) (hy : y = (i : Int) + 1) (hown : Own w 65 2 (some g) v (m + 1) xs) (h1x : ∀ u ∈ xs, u.oneCell' = true) (hi : i ≤ m) (hn : m ≤ 1000) :
    Calls Try.prog 74 #[v, .int .i64 x, .int .i64 y] w fun e w' => ∃ v', e = .returned v' ∧ Own w' 65 2 (some g) v' m (delC xs (i * 2) 2) ∧ RowTo w w' (some g) (some g) := by
  subst hx
  subst hy
  obtain ⟨i0, hi0, hz0, hz1, hz2⟩ := info_parts infoP
  have mixed : Try.prog.follows .mixedOrders = true := by kernel_rfl
  have hsz : (Try.prog.info? 65).map (·.size) = some 2 := by rw [hi0]; simp [hz1]
  have hu : Try.prog.underlying 26 = some (.slice 65) := Try.underlying26
  have hxl := hown.1
  obtain ⟨cap, cur, rfl, hg, hnc, hcm, hcs, htk⟩ := hown.row
  have hcm2 : cap ≤ 9223372036854775807 := hcm
  obtain ⟨A, hA, hsrc⟩ : ∃ A : Addr, (if cap = i + 1 then (some ⟨g, 0, none⟩ : Option Addr) else some ⟨g, ((i + 1) * 2), none⟩) = some A ∧ Src Try.prog 2 26 (.slice (some A) (m - i) (cap - (i + 1))) (m - i) (xs.drop ((i + 1) * 2)) w.drew := by
    have key : ∀ A : Addr, (∀ j u, (xs.drop ((i + 1) * 2))[j]? = some u → w.drew.cell? (A.add j) = some u) → Src Try.prog 2 26 (.slice (some A) (m - i) (cap - (i + 1))) (m - i) (xs.drop ((i + 1) * 2)) w.drew := fun A h => Src.ofSlice w.drew hu _ (m - i) (cap - (i + 1)) (xs.drop ((i + 1) * 2)) (by rw [List.length_drop, hxl]; omega) h (fun u hu => h1x u (List.mem_of_mem_drop hu))
    by_cases hc : cap = i + 1
    · refine ⟨⟨g, 0, none⟩, by rw [if_pos hc], key _ (fun j u hj => ?_)⟩
      have hlt := (List.getElem?_eq_some_iff.1 hj).1
      rw [List.length_drop] at hlt
      omega
    · refine ⟨⟨g, ((i + 1) * 2), none⟩, by rw [if_neg hc], key _ (fun j u hj => ?_)⟩
      rw [Addr.add_lit, cell_of_row w.drew g _ _ _ _ hg]
      rw [List.getElem?_drop, ← htk, List.getElem?_take] at hj
      split at hj
      · simpa using hj
      · cases hj
  obtain ⟨r1, hr1d⟩ : ∃ r1 : List Value, r1 = cur.toList.take (i * 2) ++ xs.drop ((i * 2) + 2) ++ cur.toList.drop ((i * 2) + (xs.drop ((i * 2) + 2)).length) := ⟨_, rfl⟩
  have hib : ((i + 1) * 2) = (i * 2) + 2 := by omega
  have hap : (Builtin.append_ #[26, 26] 26 #[.slice (some ⟨g, 0, none⟩) i cap, .slice (some A) (m - i) (cap - (i + 1))]).run Try.prog w.drew = .ok (.slice (some ⟨g, 0, none⟩) m cap) (w.drew.setRow g r1.toArray) := by
    have h := run_append_room2 (P := Try.prog) w.drew 26 26 26 65 i0 hu hi0 g i cap cur hg (.slice (some A) (m - i) (cap - (i + 1))) (m - i) (xs.drop ((i + 1) * 2)) (by rw [hz1]; exact hsrc) (by omega) (by rw [hz1, List.length_drop]; omega)
    rw [hz1, show i + (m - i) = m by omega] at h
    rw [h, hr1d, hib]
    try rw [Nat.mul_one]
  have hr1l : r1.length = cap * 2 := by rw [hr1d]; simp only [List.length_append, List.length_take, List.length_drop, Array.length_toList]; omega
  obtain ⟨W1, hW1⟩ : ∃ W1, W1 = w.drew.setRow g r1.toArray := ⟨_, rfl⟩
  have hW1g : W1.heap[g]? = some (.cells r1.toArray 65 (0, 0)) := by rw [hW1]; exact setRow_heap _ _ _ _ _ _ hg
  obtain ⟨zs, hzl, hcl⟩ := run_clear_rowK (P := Try.prog) W1 26 0 65 2 g (m * 2) 1 (cap - m) r1.toArray 65 (.agg #[.string ⟨#[]⟩, .string ⟨#[]⟩]) i0 hu hi0 hz0 rfl (by simp [Builtin.zeroCells, Value.cells, Value.oneCell']; try (intro a ha; rcases (by omega : a = 0 ∨ a = 1) with rfl | rfl <;> rfl)) hW1g (by omega) (by rw [List.size_toArray, hr1l]; omega)
  rw [← hW1] at hap
  obtain ⟨r2, hr2d⟩ : ∃ r2 : List Value, r2 = r1.take (m * 2) ++ zs ++ r1.drop ((m * 2) + zs.length) := ⟨_, rfl⟩
  rw [List.toList_toArray, ← hr2d] at hcl
  have HF : Hid (Own (W1.setRow g r2.toArray) 65 2 (some g) (.slice (some ⟨g, 0, none⟩) m cap) m (delC xs (i * 2) 2) ∧ RowTo w (W1.setRow g r2.toArray) (some g) (some g)) := Lib.hid ⟨Own.of (setRow_heap _ _ _ _ _ _ hW1g) (by omega) hcm (by rw [hr2d]; simp only [List.size_toArray, List.length_append, List.length_take, List.length_drop]; omega) (by
      unfold delC
      have h := del_cells cur.toList xs zs (i * 2) 2 ((m + 1) * 2) (by omega) (by rw [Array.length_toList]; omega) htk (by omega) r1 hr1d
      rw [show (m + 1) * 2 - 2 = (m * 2) by omega] at h
      rw [hr2d, show m * 2 = (m * 2) by omega]
      exact h), fun j h => .inl h, by
    rw [hW1]
    exact (((Kept.refl (fun j => some g = some j) w).drew).setRow (fun _ => rfl) _).setRow (fun _ => rfl) _⟩
  have hii : ¬ ((i : Int) = (i : Int) + 1) := by omega
  have hi1 : (i : Int) ≤ (i : Int) + 1 := by omega
  have hi2 : (0 : Int) ≤ (i : Int) + 1 := by omega
  have hi3 : (i : Int) + 1 ≤ (m : Int) + 1 := by omega
  have hi4 : (i : Int) + 1 ≤ (cap : Int) := by omega
  have hi5 : (i : Int) ≤ (cap : Int) := by omega
  have hi6 : (m : Int) + 1 ≤ (cap : Int) := by omega
  have hit : ((i : Int) + 1).toNat = i + 1 := by omega
  have hmt : ((m : Int) + 1).toNat = m + 1 := by omega
  have hcm3 : ¬ cap = m := by omega
  have hci : ¬ cap = i := by omega
  clear hW1 hW1g hr1d hr2d hr1l hown hsrc htk hxl h1x hcs hg hzl hib hcm hsz
  by_cases hcc : cap = i + 1
  · subst hcc
    obtain rfl : i = m := by omega
    rw [if_pos rfl] at hA
    cases hA
    rw [Nat.sub_self, Nat.sub_self] at hap
    rw [Nat.add_sub_cancel_left] at hcl
    have HAP := Lib.hid hap
    clear hap
    go_enter Try.func74, Try.ntmps74
    go_upto_region 5 with fail
    go_region_law_o (refine step_append_run rfl (.tmp 22) (.tmp 25) 26 26 rfl (.slice (some ⟨g, 0, none⟩) i (i + 1)) (.slice (some ⟨g, 0, none⟩) 0 0) (by simp [Act.eval, Act.put]) (by simp [Act.eval, Act.put]) HAP.out ?_)
    clear HAP
    go_wp2_with fail
    go_ret
    exact ⟨_, rfl, HF.out⟩
  · rw [if_neg hcc] at hA
    cases hA
    have HAP := Lib.hid hap
    clear hap
    go_enter Try.func74, Try.ntmps74
    go_upto_region 5 with fail
    go_region_law_o (refine step_append_run rfl (.tmp 22) (.tmp 25) 26 26 rfl (.slice (some ⟨g, 0, none⟩) i cap) (.slice (some ⟨g, ((i + 1) * 2), none⟩) (m - i) (cap - (i + 1))) (by simp [Act.eval, Act.put]) (by simp [Act.eval, Act.put]) HAP.out ?_)
    clear HAP
    go_wp2_with fail
    go_ret
    exact ⟨_, rfl, HF.out⟩
end Go.Proofs.Ytfgmhidgkemfoaa
namespace Go.Proofs.Ytfgmhidgkemfoaa
open Go.RowKit
set_option linter.unusedSimpArgs false
set_option linter.unusedVariables false
set_option maxRecDepth 100000 in
set_option maxHeartbeats 2000000 in
theorem deleteN_any (w : World) (g : Nat) (v : Value) (m : Nat) (xs : List Value) (i : Nat) (x y : Int) (hx : x = (i : Int)) (hy : y = (i : Int) + 1) (hown : Own w 85 1 (some g) v (m + 1) xs) (h1x : ∀ u ∈ xs, u.oneCell' = true) (hi : i ≤ m) (hn : m ≤ 1000) :
    Calls Try.prog 92 #[v, .int .i64 x, .int .i64 y] w fun e w' => ∃ v', e = .returned v' ∧ Own w' 85 1 (some g) v' m (delC xs i 1) ∧ RowTo w w' (some g) (some g) := by
  subst hx
  subst hy
  obtain ⟨i0, hi0, hz0, hz1, hz2⟩ := info_parts infoN
  have mixed : Try.prog.follows .mixedOrders = true := by kernel_rfl
  have hsz : (Try.prog.info? 85).map (·.size) = some 1 := by rw [hi0]; simp [hz1]
  have hu : Try.prog.underlying 92 = some (.slice 85) := Try.underlying92
  have hxl := hown.1
  obtain ⟨cap, cur, rfl, hg, hnc, hcm, hcs, htk⟩ := hown.row
  have hcm2 : cap ≤ 9223372036854775807 := hcm
  obtain ⟨A, hA, hsrc⟩ : ∃ A : Addr, (if cap = i + 1 then (some ⟨g, 0, none⟩ : Option Addr) else some ⟨g, (i + 1), none⟩) = some A ∧ Src Try.prog 1 92 (.slice (some A) (m - i) (cap - (i + 1))) (m - i) (xs.drop (i + 1)) w.drew := by
    have key : ∀ A : Addr, (∀ j u, (xs.drop (i + 1))[j]? = some u → w.drew.cell? (A.add j) = some u) → Src Try.prog 1 92 (.slice (some A) (m - i) (cap - (i + 1))) (m - i) (xs.drop (i + 1)) w.drew := fun A h => Src.ofSlice w.drew hu _ (m - i) (cap - (i + 1)) (xs.drop (i + 1)) (by rw [List.length_drop, hxl]; omega) h (fun u hu => h1x u (List.mem_of_mem_drop hu))
    by_cases hc : cap = i + 1
    · refine ⟨⟨g, 0, none⟩, by rw [if_pos hc], key _ (fun j u hj => ?_)⟩
      have hlt := (List.getElem?_eq_some_iff.1 hj).1
      rw [List.length_drop] at hlt
      omega
    · refine ⟨⟨g, (i + 1), none⟩, by rw [if_neg hc], key _ (fun j u hj => ?_)⟩
      rw [Addr.add_lit, cell_of_row w.drew g _ _ _ _ hg]
      rw [List.getElem?_drop, ← htk, List.getElem?_take] at hj
      split at hj
      · simpa using hj
      · cases hj
  obtain ⟨r1, hr1d⟩ : ∃ r1 : List Value, r1 = cur.toList.take i ++ xs.drop (i + 1) ++ cur.toList.drop (i + (xs.drop (i + 1)).length) := ⟨_, rfl⟩
  have hib : (i + 1) = i + 1 := by omega
  have hap : (Builtin.append_ #[92, 92] 92 #[.slice (some ⟨g, 0, none⟩) i cap, .slice (some A) (m - i) (cap - (i + 1))]).run Try.prog w.drew = .ok (.slice (some ⟨g, 0, none⟩) m cap) (w.drew.setRow g r1.toArray) := by
    have h := run_append_room2 (P := Try.prog) w.drew 92 92 92 85 i0 hu hi0 g i cap cur hg (.slice (some A) (m - i) (cap - (i + 1))) (m - i) (xs.drop (i + 1)) (by rw [hz1]; exact hsrc) (by omega) (by rw [hz1, List.length_drop]; omega)
    rw [hz1, show i + (m - i) = m by omega] at h
    rw [h, hr1d, hib]
    try rw [Nat.mul_one]
  have hr1l : r1.length = cap * 1 := by rw [hr1d]; simp only [List.length_append, List.length_take, List.length_drop, Array.length_toList]; omega
  obtain ⟨W1, hW1⟩ : ∃ W1, W1 = w.drew.setRow g r1.toArray := ⟨_, rfl⟩
  have hW1g : W1.heap[g]? = some (.cells r1.toArray 85 (0, 0)) := by rw [hW1]; exact setRow_heap _ _ _ _ _ _ hg
  obtain ⟨zs, hzl, hcl⟩ := run_clear_rowK (P := Try.prog) W1 92 0 85 1 g m 1 (cap - m) r1.toArray 85 (.pointer none) i0 hu hi0 hz0 rfl (by simp [Builtin.zeroCells, Value.cells, Value.oneCell']; try (intro a ha; rcases (by omega : a = 0 ∨ a = 1) with rfl | rfl <;> rfl)) hW1g (by omega) (by rw [List.size_toArray, hr1l]; omega)
  rw [← hW1] at hap
  obtain ⟨r2, hr2d⟩ : ∃ r2 : List Value, r2 = r1.take m ++ zs ++ r1.drop (m + zs.length) := ⟨_, rfl⟩
  rw [List.toList_toArray, ← hr2d] at hcl
  have HF : Hid (Own (W1.setRow g r2.toArray) 85 1 (some g) (.slice (some ⟨g, 0, none⟩) m cap) m (delC xs i 1) ∧ RowTo w (W1.setRow g r2.toArray) (some g) (some g)) := Lib.hid ⟨Own.of (setRow_heap _ _ _ _ _ _ hW1g) (by omega) hcm (by rw [hr2d]; simp only [List.size_toArray, List.length_append, List.length_take, List.length_drop]; omega) (by
      unfold delC
      have h := del_cells cur.toList xs zs i 1 ((m + 1) * 1) (by omega) (by rw [Array.length_toList]; omega) htk (by omega) r1 hr1d
      rw [show (m + 1) * 1 - 1 = m by omega] at h
      rw [hr2d, show m * 1 = m by omega]
      exact h), fun j h => .inl h, by
    rw [hW1]
    exact (((Kept.refl (fun j => some g = some j) w).drew).setRow (fun _ => rfl) _).setRow (fun _ => rfl) _⟩
  have hii : ¬ ((i : Int) = (i : Int) + 1) := by omega
  have hi1 : (i : Int) ≤ (i : Int) + 1 := by omega
  have hi2 : (0 : Int) ≤ (i : Int) + 1 := by omega
  have hi3 : (i : Int) + 1 ≤ (m : Int) + 1 := by omega
  have hi4 : (i : Int) + 1 ≤ (cap : Int) := by omega
  have hi5 : (i : Int) ≤ (cap : Int) := by omega
  have hi6 : (m : Int) + 1 ≤ (cap : Int) := by omega
  have hit : ((i : Int) + 1).toNat = i + 1 := by omega
  have hmt : ((m : Int) + 1).toNat = m + 1 := by omega
  have hcm3 : ¬ cap = m := by omega
  have hci : ¬ cap = i := by omega
  clear hW1 hW1g hr1d hr2d hr1l hown hsrc htk hxl h1x hcs hg hzl hib hcm hsz
  by_cases hcc : cap = i + 1
  · subst hcc
    obtain rfl : i = m := by omega
    rw [if_pos rfl] at hA
    cases hA
    rw [Nat.sub_self, Nat.sub_self] at hap
    rw [Nat.add_sub_cancel_left] at hcl
    have HAP := Lib.hid hap
    clear hap
    go_enter Try.func92, Try.ntmps92
    go_upto_region 5 with fail
    go_region_law_o (refine step_append_run rfl (.tmp 22) (.tmp 25) 92 92 rfl (.slice (some ⟨g, 0, none⟩) i (i + 1)) (.slice (some ⟨g, 0, none⟩) 0 0) (by simp [Act.eval, Act.put]) (by simp [Act.eval, Act.put]) HAP.out ?_)
    clear HAP
    go_wp2_with fail
    go_ret
    exact ⟨_, rfl, HF.out⟩
  · rw [if_neg hcc] at hA
    cases hA
    have HAP := Lib.hid hap
    clear hap
    go_enter Try.func92, Try.ntmps92
    go_upto_region 5 with fail
    go_region_law_o (refine step_append_run rfl (.tmp 22) (.tmp 25) 92 92 rfl (.slice (some ⟨g, 0, none⟩) i cap) (.slice (some ⟨g, (i + 1), none⟩) (m - i) (cap - (i + 1))) (by simp [Act.eval, Act.put]) (by simp [Act.eval, Act.put]) HAP.out ?_)
    clear HAP
    go_wp2_with fail
    go_ret
    exact ⟨_, rfl, HF.out⟩
end Go.Proofs.Ytfgmhidgkemfoaa
namespace Go.Proofs.Ytfgmhidgkemfoaa
open Go.RowKit
set_option linter.unusedSimpArgs false
set_option linter.unusedVariables false
/-- a piece: a slice value and the cells that it reads as -/
structure Pce where
  a : Option Addr
  n : Nat
  c : Nat
  l : List Value
def Pce.val (p : Pce) : Value := .slice p.a p.n p.c
def pceL (ps : List Pce) : List Value := ps.flatMap Pce.l
def pceN (ps : List Pce) : Nat := (ps.map Pce.n).sum
def Pces (w : World) (S : Nat) (ps : List Pce) (size : Nat) : Prop := (∀ i (h : i < ps.length), w.cell? ⟨S, i, none⟩ = some ps[i].val) ∧ ∀ p ∈ ps, Sl (fun _ => True) w p.a p.n p.c p.l size ∧ ∀ u ∈ p.l, u.oneCell' = true
theorem pceL_take (ps : List Pce) (k : Nat) (h : k < ps.length) : pceL (ps.take (k + 1)) = pceL (ps.take k) ++ ps[k].l := by
  unfold pceL
  rw [List.take_succ_eq_append_getElem h, List.flatMap_append]
  simp
theorem pceN_take (ps : List Pce) (k : Nat) (h : k < ps.length) : pceN (ps.take (k + 1)) = pceN (ps.take k) + ps[k].n := by
  unfold pceN
  rw [List.take_succ_eq_append_getElem h, List.map_append, List.sum_append]
  simp
theorem pceN_le (ps : List Pce) (k : Nat) : pceN (ps.take k) ≤ pceN ps := by
  unfold pceN
  conv => rhs; rw [← List.take_append_drop k ps, List.map_append, List.sum_append]
  omega
end Go.Proofs.Ytfgmhidgkemfoaa
namespace Go.Proofs.Ytfgmhidgkemfoaa
open Go.RowKit
set_option linter.unusedSimpArgs false
set_option linter.unusedVariables false
def NewP (w : World) (v : Value) (n : Nat) (xs : List Value) (w' : World) : Prop := ∃ k, Own w' 65 2 k v n xs ∧ (∀ j, k = some j → w.heap.size ≤ j) ∧ Below w.heap.size w w'
set_option maxRecDepth 100000 in
theorem growP_any (n : Nat) (w : World) (hn : n ≤ 100000) :
    Calls Try.prog 96 #[.slice none 0 0, .int .i64 (n : Int)] w fun e w' => ∃ v, e = .returned v ∧ NewP w v 0 [] w' := by
  obtain ⟨i0, hi0, hz0, hz1, hz2⟩ := info_parts infoP
  by_cases h0 : n = 0
  · subst h0
    go_enter Try.func96, Try.ntmps96
    go_wp2
    go_ret
    exact ⟨_, rfl, none, Own.nil _ _ _, (fun _ h => by cases h), Below.refl _ _⟩
  · have n1 : ¬ ((n : Int) < 0) := by omega
    have n2 : (0 : Int) < (n : Int) := by omega
    have h := Lib.run_append_nil_zeros (P := Try.prog) w 26 3 26 65 i0 (.agg #[.string ⟨#[]⟩, .string ⟨#[]⟩]) .i64 .i64 Try.underlying26 Try.underlying3 hi0 hz0 n (by omega) (by omega) (by omega) (by rw [hz2]; omega)
    obtain ⟨G, hG⟩ : ∃ G, G = grownCap w n 0 65 := ⟨_, rfl⟩
    have hGm : G ≤ maxLen := by rw [hG]; exact grownCap_le_maxLen w n 0 65 (by unfold maxLen; omega)
    have hGn : n ≤ G := by rw [hG]; exact grownCap_ge w _ _ _
    rw [← hG] at h
    obtain ⟨ROW, hROW⟩ : ∃ ROW : Array Value, ROW = Builtin.zeroCells ((.agg #[.string ⟨#[]⟩, .string ⟨#[]⟩]) : Value).cells n ++ Builtin.zeroCells ((.agg #[.string ⟨#[]⟩, .string ⟨#[]⟩]) : Value).cells (G - n) := ⟨_, rfl⟩
    have hRl : ROW.size = G * 2 := by rw [hROW]; simp [Builtin.zeroCells, Value.cells]; omega
    rw [← hROW] at h
    have HAP := Lib.hid h
    have HF : Hid (NewP w (.slice (some ⟨w.heap.size, 0, none⟩) 0 G) 0 [] (w.drew.alloc (.cells ROW 65))) := Lib.hid ⟨some w.heap.size, Own.of (heap_new rfl) (Nat.zero_le _) hGm hRl (by simp), (fun j h => by cases h; exact Nat.le_refl _), ((Below.refl _ w).drew).alloc (Nat.le_refl _) _⟩
    clear h hG hROW hRl
    go_enter Try.func96, Try.ntmps96
    go_wp2_with (at_builtin; refine Lib.wpList_append_run _ rfl (.tmp 20) (.tmp 21) 26 3 rfl (.slice none 0 0) (.int .i64 (n : Int)) rfl rfl _ _ HAP.out ?_)
    go_ret
    exact ⟨_, rfl, HF.out⟩
set_option maxRecDepth 100000 in
set_option maxHeartbeats 1000000 in
theorem concatP_any (ps : List Pce) (S : Nat) (w : World) (hP : Pces w S ps 2) (hS : S < w.heap.size) (hk : ps.length ≤ 1000) (hn : pceN ps ≤ 100000) :
    Calls Try.prog 90 #[.slice (some ⟨S, 0, none⟩) ps.length ps.length] w fun e w' => ∃ v, e = .returned v ∧ NewP w v (pceN ps) (pceL ps) w' := by
  obtain ⟨i0, hi0, hz0, hz1, hz2⟩ := info_parts infoP
  obtain ⟨K, hK⟩ : ∃ K, K = ps.length := ⟨_, rfl⟩
  rw [← hK] at hk ⊢
  have HK := Lib.hid hK
  have HP := Lib.hid hP
  clear hK
  go_enter Try.func90, Try.ntmps90
  go_wp2
  go_loop [3, 5, 11] (fun s _ i => ∃ k : Nat, k ≤ K ∧ i = .int .i64 k ∧ s = .int .i64 ((pceN (ps.take k) : Nat) : Int)) (fun _ _ i => K - (intOf i).toNat)
  case atStart => exact ⟨0, Nat.zero_le _, rfl, rfl⟩
  case round =>
    obtain ⟨k, hk2, rfl, rfl⟩ := hrel
    by_cases hlt : k < K
    · have hkl : k < ps.length := by have := HK.out; omega
      have hc : w.cell? ⟨S, k, none⟩ = some (.slice ps[k].a ps[k].n ps[k].c) := hP.1 k hkl
      have hlen := pceN_take ps k hkl
      have hb := pceN_le ps (k + 1)
      generalize ps[k] = p at *
      obtain ⟨B, hB⟩ : ∃ B, B = pceN (ps.take k) := ⟨_, rfl⟩
      rw [← hB] at hlen ⊢
      have hA3 : B + p.n ≤ 100000 := by omega
      have HL := Lib.hid hlen
      clear hlen hb hP hn hB
      go_wp2
      go_round
      case rel => exact ⟨k + 1, by omega, by go_num, by rw [HL.out]; go_num⟩
      case measure => simp [intOf]; omega
    · obtain rfl : k = K := by omega
      have e1 : ps.take k = ps := by rw [HK.out, List.take_length]
      rw [e1]
      obtain ⟨N, hN⟩ : ∃ N, N = pceN ps := ⟨_, rfl⟩
      rw [← hN] at hn ⊢
      have HN := Lib.hid hN
      have HG := Lib.hid (fun u => growP_any N u hn)
      clear e1 hP hN
      go_wp2_with (go_at_call 96; refine (HG.out _).mono ?_; rintro e w1 ⟨v, rfl, kk, hown, hnew, hb1⟩; have Hown := Lib.hid hown; have HNW := Lib.hid hnew; have HB := Lib.hid hb1; clear hown hb1 hnew)
      go_loopw [6, 8, 27] (fun v _ i wr => ∃ j : Nat, j ≤ k ∧ i = .int .i64 j ∧ ∃ kk, Own wr 65 2 kk v (pceN (ps.take j)) (pceL (ps.take j)) ∧ (∀ q, kk = some q → w.heap.size ≤ q) ∧ Below w.heap.size w wr) (fun _ _ i _ => k - (intOf i).toNat)
      case atStart => exact ⟨0, Nat.zero_le _, rfl, kk, Hown.out, HNW.out, HB.out⟩
      case round =>
        clear Hown HB HNW
        obtain ⟨j, hj, rfl, kk2, hown, hnew, hb⟩ := hrel
        have Hown := Lib.hid hown
        have HNW := Lib.hid hnew
        have HB := Lib.hid hb
        clear hown hb hnew
        by_cases hlj : j < k
        · have hkl : j < ps.length := by have := HK.out; omega
          have hc : wr.cell? ⟨S, j, none⟩ = some (.slice ps[j].a ps[j].n ps[j].c) := (HB.out.cell (p := ⟨S, j, none⟩) hS).trans (HP.out.1 j hkl)
          have hBs : Src Try.prog 2 26 (.slice ps[j].a ps[j].n ps[j].c) ps[j].n ps[j].l wr := by
            obtain ⟨h1, h2⟩ := HP.out.2 _ (List.getElem_mem hkl)
            exact (h1.kept (by decide) (Kept.of_below (fun _ => False) (HB.out.mono (Nat.le_refl _))) (fun _ _ _ h => h)).src Try.underlying26 h2
          have hjj := pceL_take ps j hkl
          have hlen := pceN_take ps j hkl
          have hbd := pceN_le ps (j + 1)
          have hlow : pceN (ps.take j) + ps[j].n ≤ 100000 := by have := HN.out; omega
          generalize ps[j] = p at *
          have HBs := Lib.hid hBs
          have Hjj := Lib.hid hjj
          have Hlen := Lib.hid hlen
          have Hlow := Lib.hid hlow
          clear hBs hjj hlen hbd hlow
          obtain ⟨M, hM⟩ : ∃ M, M = pceN (ps.take j) := ⟨_, rfl⟩
          obtain ⟨XL, hXL⟩ : ∃ XL, XL = pceL (ps.take j) := ⟨_, rfl⟩
          rw [← hM] at Hown Hlen Hlow
          rw [← hXL] at Hown Hjj
          clear hM hXL
          go_wp2_with (at_builtin; refine wpList_append_any _ rfl (.tmp 31) (.tmp 32) 26 26 rfl 65 i0 (.agg #[.string ⟨#[]⟩, .string ⟨#[]⟩]) 2 32 Try.underlying26 hi0 hz0 hz1 hz2 rfl kk2 _ M XL rfl Hown.out p.n p.l HBs.out (by have := Hlow.out; unfold maxLen; omega) (by have := Hlow.out; omega) ?_; intro k3 v3 w5 hown5 hnew5 hK5 _; have R5 : Hid (Own w5 65 2 k3 v3 (pceN (ps.take (j + 1))) (pceL (ps.take (j + 1)))) := Lib.hid (by rw [Hjj.out, Hlen.out]; exact hown5); have N5 : Hid (∀ q, k3 = some q → w.heap.size ≤ q) := Lib.hid (fun q hq => by
              rcases hnew5 q hq with h | h
              · exact HNW.out q h
              · exact Nat.le_trans HB.out.size h); have B5 : Hid (Below w.heap.size w w5) := Lib.hid (HB.out.trans (hK5.below HB.out.size (fun b hb e => by have := HNW.out b e; omega))); clear hown5 hnew5 hK5)
          go_roundw
          case rel => exact ⟨j + 1, by omega, by go_num, k3, R5.out, N5.out, B5.out⟩
          case measure => simp [intOf]; omega
        · obtain rfl : j = k := by omega
          have e1 : ps.take j = ps := by rw [HK.out, List.take_length]
          rw [e1] at Hown
          have HF : Hid (Own wr 65 2 kk2 u6 (pceN ps) (pceL ps)) := Lib.hid Hown.out
          clear e1 Hown
          go_wp2
          go_ret
          exact ⟨u6, rfl, kk2, HF.out, HNW.out, HB.out⟩
end Go.Proofs.Ytfgmhidgkemfoaa
namespace Go.Proofs.Ytfgmhidgkemfoaa
open Go.RowKit
set_option linter.unusedSimpArgs false
set_option linter.unusedVariables false
def NewN (w : World) (v : Value) (n : Nat) (xs : List Value) (w' : World) : Prop := ∃ k, Own w' 85 1 k v n xs ∧ (∀ j, k = some j → w.heap.size ≤ j) ∧ Below w.heap.size w w'
set_option maxRecDepth 100000 in
theorem growN_any (n : Nat) (w : World) (hn : n ≤ 100000) :
    Calls Try.prog 97 #[.slice none 0 0, .int .i64 (n : Int)] w fun e w' => ∃ v, e = .returned v ∧ NewN w v 0 [] w' := by
  obtain ⟨i0, hi0, hz0, hz1, hz2⟩ := info_parts infoN
  by_cases h0 : n = 0
  · subst h0
    go_enter Try.func97, Try.ntmps97
    go_wp2
    go_ret
    exact ⟨_, rfl, none, Own.nil _ _ _, (fun _ h => by cases h), Below.refl _ _⟩
  · have n1 : ¬ ((n : Int) < 0) := by omega
    have n2 : (0 : Int) < (n : Int) := by omega
    have h := Lib.run_append_nil_zeros (P := Try.prog) w 92 3 92 85 i0 (.pointer none) .i64 .i64 Try.underlying92 Try.underlying3 hi0 hz0 n (by omega) (by omega) (by omega) (by rw [hz2]; omega)
    obtain ⟨G, hG⟩ : ∃ G, G = grownCap w n 0 85 := ⟨_, rfl⟩
    have hGm : G ≤ maxLen := by rw [hG]; exact grownCap_le_maxLen w n 0 85 (by unfold maxLen; omega)
    have hGn : n ≤ G := by rw [hG]; exact grownCap_ge w _ _ _
    rw [← hG] at h
    obtain ⟨ROW, hROW⟩ : ∃ ROW : Array Value, ROW = Builtin.zeroCells ((.pointer none) : Value).cells n ++ Builtin.zeroCells ((.pointer none) : Value).cells (G - n) := ⟨_, rfl⟩
    have hRl : ROW.size = G * 1 := by rw [hROW]; simp [Builtin.zeroCells, Value.cells]; omega
    rw [← hROW] at h
    have HAP := Lib.hid h
    have HF : Hid (NewN w (.slice (some ⟨w.heap.size, 0, none⟩) 0 G) 0 [] (w.drew.alloc (.cells ROW 85))) := Lib.hid ⟨some w.heap.size, Own.of (heap_new rfl) (Nat.zero_le _) hGm hRl (by simp), (fun j h => by cases h; exact Nat.le_refl _), ((Below.refl _ w).drew).alloc (Nat.le_refl _) _⟩
    clear h hG hROW hRl
    go_enter Try.func97, Try.ntmps97
    go_wp2_with (at_builtin; refine Lib.wpList_append_run _ rfl (.tmp 20) (.tmp 21) 92 3 rfl (.slice none 0 0) (.int .i64 (n : Int)) rfl rfl _ _ HAP.out ?_)
    go_ret
    exact ⟨_, rfl, HF.out⟩
set_option maxRecDepth 100000 in
set_option maxHeartbeats 1000000 in
theorem concatN_any (ps : List Pce) (S : Nat) (w : World) (hP : Pces w S ps 1) (hS : S < w.heap.size) (hk : ps.length ≤ 1000) (hn : pceN ps ≤ 100000) :
    Calls Try.prog 91 #[.slice (some ⟨S, 0, none⟩) ps.length ps.length] w fun e w' => ∃ v, e = .returned v ∧ NewN w v (pceN ps) (pceL ps) w' := by
  obtain ⟨i0, hi0, hz0, hz1, hz2⟩ := info_parts infoN
  obtain ⟨K, hK⟩ : ∃ K, K = ps.length := ⟨_, rfl⟩
  rw [← hK] at hk ⊢
  have HK := Lib.hid hK
  have HP := Lib.hid hP
  clear hK
  go_enter Try.func91, Try.ntmps91
  go_wp2
  go_loop [3, 5, 11] (fun s _ i => ∃ k : Nat, k ≤ K ∧ i = .int .i64 k ∧ s = .int .i64 ((pceN (ps.take k) : Nat) : Int)) (fun _ _ i => K - (intOf i).toNat)
  case atStart => exact ⟨0, Nat.zero_le _, rfl, rfl⟩
  case round =>
    obtain ⟨k, hk2, rfl, rfl⟩ := hrel
    by_cases hlt : k < K
    · have hkl : k < ps.length := by have := HK.out; omega
      have hc : w.cell? ⟨S, k, none⟩ = some (.slice ps[k].a ps[k].n ps[k].c) := hP.1 k hkl
      have hlen := pceN_take ps k hkl
      have hb := pceN_le ps (k + 1)
      generalize ps[k] = p at *
      obtain ⟨B, hB⟩ : ∃ B, B = pceN (ps.take k) := ⟨_, rfl⟩
      rw [← hB] at hlen ⊢
      have hA3 : B + p.n ≤ 100000 := by omega
      have HL := Lib.hid hlen
      clear hlen hb hP hn hB
      go_wp2
      go_round
      case rel => exact ⟨k + 1, by omega, by go_num, by rw [HL.out]; go_num⟩
      case measure => simp [intOf]; omega
    · obtain rfl : k = K := by omega
      have e1 : ps.take k = ps := by rw [HK.out, List.take_length]
      rw [e1]
      obtain ⟨N, hN⟩ : ∃ N, N = pceN ps := ⟨_, rfl⟩
      rw [← hN] at hn ⊢
      have HN := Lib.hid hN
      have HG := Lib.hid (fun u => growN_any N u hn)
      clear e1 hP hN
      go_wp2_with (go_at_call 97; refine (HG.out _).mono ?_; rintro e w1 ⟨v, rfl, kk, hown, hnew, hb1⟩; have Hown := Lib.hid hown; have HNW := Lib.hid hnew; have HB := Lib.hid hb1; clear hown hb1 hnew)
      go_loopw [6, 8, 27] (fun v _ i wr => ∃ j : Nat, j ≤ k ∧ i = .int .i64 j ∧ ∃ kk, Own wr 85 1 kk v (pceN (ps.take j)) (pceL (ps.take j)) ∧ (∀ q, kk = some q → w.heap.size ≤ q) ∧ Below w.heap.size w wr) (fun _ _ i _ => k - (intOf i).toNat)
      case atStart => exact ⟨0, Nat.zero_le _, rfl, kk, Hown.out, HNW.out, HB.out⟩
      case round =>
        clear Hown HB HNW
        obtain ⟨j, hj, rfl, kk2, hown, hnew, hb⟩ := hrel
        have Hown := Lib.hid hown
        have HNW := Lib.hid hnew
        have HB := Lib.hid hb
        clear hown hb hnew
        by_cases hlj : j < k
        · have hkl : j < ps.length := by have := HK.out; omega
          have hc : wr.cell? ⟨S, j, none⟩ = some (.slice ps[j].a ps[j].n ps[j].c) := (HB.out.cell (p := ⟨S, j, none⟩) hS).trans (HP.out.1 j hkl)
          have hBs : Src Try.prog 1 92 (.slice ps[j].a ps[j].n ps[j].c) ps[j].n ps[j].l wr := by
            obtain ⟨h1, h2⟩ := HP.out.2 _ (List.getElem_mem hkl)
            exact (h1.kept (by decide) (Kept.of_below (fun _ => False) (HB.out.mono (Nat.le_refl _))) (fun _ _ _ h => h)).src Try.underlying92 h2
          have hjj := pceL_take ps j hkl
          have hlen := pceN_take ps j hkl
          have hbd := pceN_le ps (j + 1)
          have hlow : pceN (ps.take j) + ps[j].n ≤ 100000 := by have := HN.out; omega
          generalize ps[j] = p at *
          have HBs := Lib.hid hBs
          have Hjj := Lib.hid hjj
          have Hlen := Lib.hid hlen
          have Hlow := Lib.hid hlow
          clear hBs hjj hlen hbd hlow
          obtain ⟨M, hM⟩ : ∃ M, M = pceN (ps.take j) := ⟨_, rfl⟩
          obtain ⟨XL, hXL⟩ : ∃ XL, XL = pceL (ps.take j) := ⟨_, rfl⟩
          rw [← hM] at Hown Hlen Hlow
          rw [← hXL] at Hown Hjj
          clear hM hXL
          go_wp2_with (at_builtin; refine wpList_append_any _ rfl (.tmp 31) (.tmp 32) 92 92 rfl 85 i0 (.pointer none) 1 8 Try.underlying92 hi0 hz0 hz1 hz2 rfl kk2 _ M XL rfl Hown.out p.n p.l HBs.out (by have := Hlow.out; unfold maxLen; omega) (by have := Hlow.out; omega) ?_; intro k3 v3 w5 hown5 hnew5 hK5 _; have R5 : Hid (Own w5 85 1 k3 v3 (pceN (ps.take (j + 1))) (pceL (ps.take (j + 1)))) := Lib.hid (by rw [Hjj.out, Hlen.out]; exact hown5); have N5 : Hid (∀ q, k3 = some q → w.heap.size ≤ q) := Lib.hid (fun q hq => by
              rcases hnew5 q hq with h | h
              · exact HNW.out q h
              · exact Nat.le_trans HB.out.size h); have B5 : Hid (Below w.heap.size w w5) := Lib.hid (HB.out.trans (hK5.below HB.out.size (fun b hb e => by have := HNW.out b e; omega))); clear hown5 hnew5 hK5)
          go_roundw
          case rel => exact ⟨j + 1, by omega, by go_num, k3, R5.out, N5.out, B5.out⟩
          case measure => simp [intOf]; omega
        · obtain rfl : j = k := by omega
          have e1 : ps.take j = ps := by rw [HK.out, List.take_length]
          rw [e1] at Hown
          have HF : Hid (Own wr 85 1 kk2 u6 (pceN ps) (pceL ps)) := Lib.hid Hown.out
          clear e1 Hown
          go_wp2
          go_ret
          exact ⟨u6, rfl, kk2, HF.out, HNW.out, HB.out⟩
end Go.Proofs.Ytfgmhidgkemfoaa
namespace Go.Proofs.Ytfgmhidgkemfoaa.Roll
open Go
set_option linter.unusedSimpArgs false
set_option linter.unusedVariables false
/-- the slot that an operation writes -/
def slot (ops : Array Oper) (j : Nat) : Option Tmp := (ops[j]?).bind (·.dst)
/-- a frame in which some operations have written -/
def putOf (ops : Array Oper) (vals : Nat → Value) : List Nat → Act → Act
  | [], a => a
  | j :: r, a => putOf ops vals r (a.put (slot ops j) (vals j))
theorem putOf_size (ops : Array Oper) (vals : Nat → Value) (l : List Nat) (a : Act) : (putOf ops vals l a).tmps.size = a.tmps.size := by
  induction l generalizing a with
  | nil => rfl
  | cons j r ih => rw [putOf, ih]; cases slot ops j <;> simp [Act.put]
theorem putOf_defers (ops : Array Oper) (vals : Nat → Value) (l : List Nat) (a : Act) : (putOf ops vals l a).defers = a.defers := by
  induction l generalizing a with
  | nil => rfl
  | cons j r ih => rw [putOf, ih]; cases slot ops j <;> simp [Act.put]
theorem put_get_ne {a : Act} {d : Option Tmp} {v : Value} {t : Nat} (h : d ≠ some t) : (a.put d v).tmps[t]? = a.tmps[t]? := by
  cases d with
  | none => rfl
  | some d => simp only [Act.put]; rw [Array.getElem?_setIfInBounds_ne (by intro e; exact h (by rw [e]))]
theorem put_get_eq {a : Act} {v : Value} {t : Nat} (h : t < a.tmps.size) : (a.put (some t) v).tmps[t]? = some v := by
  simp [Act.put, h]
theorem putOf_other (ops : Array Oper) (vals : Nat → Value) (l : List Nat) (a : Act) (t : Nat) (h : ∀ j ∈ l, slot ops j ≠ some t) : (putOf ops vals l a).tmps[t]? = a.tmps[t]? := by
  induction l generalizing a with
  | nil => rfl
  | cons j r ih => rw [putOf, ih _ (fun k hk => h k (List.mem_cons_of_mem _ hk)), put_get_ne (h j List.mem_cons_self)]
/-- no two operations write one slot -/
def apartB (ops : Array Oper) : Bool := ((List.range ops.size).filterMap (slot ops)).Nodup
theorem filterMap_inj {f : Nat → Option Nat} : ∀ {l : List Nat}, (l.filterMap f).Nodup → ∀ {i j : Nat} {t : Nat}, i ∈ l → j ∈ l → f i = some t → f j = some t → l.Nodup → i = j := by
  intro l
  induction l with
  | nil => intro _ i j t hi; cases hi
  | cons x r ih =>
    intro h i j t hi hj ei ej hn
    rw [List.nodup_cons] at hn
    have tail : (r.filterMap f).Nodup := by
      cases hx : f x with
      | none => rwa [List.filterMap_cons_none hx] at h
      | some y => rw [List.filterMap_cons_some hx] at h; exact (List.nodup_cons.1 h).2
    have clash : ∀ {k : Nat}, k ∈ r → f k = some t → f x = some t → False := by
      intro k hk ek ex
      rw [List.filterMap_cons_some ex] at h
      exact (List.nodup_cons.1 h).1 (List.mem_filterMap.2 ⟨k, hk, ek⟩)
    rcases List.mem_cons.1 hi with hi' | hi' <;> rcases List.mem_cons.1 hj with hj' | hj'
    · rw [hi', hj']
    · exact (clash hj' ej (hi' ▸ ei)).elim
    · exact (clash hi' ei (hj' ▸ ej)).elim
    · exact ih tail hi' hj' ei ej hn.2
theorem apart_inj {ops : Array Oper} (h : apartB ops = true) {i j : Nat} {t : Nat} (ei : slot ops i = some t) (ej : slot ops j = some t) : i = j := by
  have lt : ∀ {k : Nat}, slot ops k = some t → k ∈ List.range ops.size := by
    intro k e
    rw [List.mem_range]
    unfold slot at e
    cases hk : ops[k]? with
    | none => rw [hk] at e; cases e
    | some o => exact (Array.getElem?_eq_some_iff.1 hk).1
  exact filterMap_inj (of_decide_eq_true h) (lt ei) (lt ej) ei ej List.nodup_range
theorem putOf_mem {ops : Array Oper} (hap : apartB ops = true) (vals : Nat → Value) (l : List Nat) (a : Act) (j t : Nat) (hj : j ∈ l) (ht : slot ops j = some t) (hs : t < a.tmps.size) :
    (putOf ops vals l a).tmps[t]? = some (vals j) := by
  induction l generalizing a with
  | nil => cases hj
  | cons k r ih =>
    rw [putOf]
    by_cases hr : j ∈ r
    · exact ih _ hr (by cases slot ops k <;> simp [Act.put, hs])
    · obtain rfl : j = k := (List.mem_cons.1 hj).resolve_right hr
      rw [putOf_other ops vals r _ t (fun i hi e => hr (apart_inj hap e ht ▸ hi)), ht, put_get_eq hs]
/-- the operations that must stand ahead of one, as its edges name them -/
def ahead (o : Oper) : List Nat := (o.after.toList.filter fun e => Region.binds .any e).map (·.on)
/-- the slots that an operation looks at and that others write are written by operations ahead of it, or by such as stand behind it -/
def looksOk (ops : Array Oper) (L : List (List Nat)) : Bool :=
  (List.range ops.size).all fun k => match ops[k]? with
    | none => true
    | some o => (match o.op with | .select .. => false | .defer .. => false | _ => true) && ((L.getD k []).all fun i => (ahead o).contains i) &&
      (o.looksAt ops).all fun t => (List.range ops.size).all fun j => slot ops j != some t || (L.getD k []).contains j ||
        (match ops[j]? with | some oj => (ahead oj).contains k | none => true)
/-- what one operation does, from the frame that it sees -/
def Post (a1 : Act) (d : Option Tmp) (T : Value → World → Prop) : Exit → Act → World → Prop
  | .normal, a', w' => ∃ v, a' = a1.put d v ∧ T v w'
  | _, _, _ => False
variable {P : Program} {ops : Array Oper} {Q : Exit → Act → World → Prop}
theorem not_lets {a1 : Act} {d : Option Tmp} {T : Value → World → Prop} : ¬ LetsOut (Post a1 d T) := fun ⟨_, _, h⟩ => h
theorem put_inj {a : Act} {d : Option Tmp} {v u : Value} : (h : ∀ t, d = some t → t < a.tmps.size) → a.put d v = a.put d u → d = none ∨ v = u := by
  intro h e
  cases d with
  | none => exact .inl rfl
  | some t =>
    have := congrArg (fun x : Act => x.tmps[t]?) e
    simp only [put_get_eq (h t rfl)] at this
    exact .inr (Option.some.inj this)
/-- from the frame that an operation sees to the frame as it is -/
theorem wpOp_of_list {o : Oper} {k : Nat} {a a1 : Act} {w : World} {T : Value → World → Prop} (ho : ops[k]? = some o)
    (hn : o.dst = none → ∀ v u w', T v w' → T u w') (hsz : ∀ t, o.dst = some t → t < a1.tmps.size)
    (he : execOp a.eval o = execOp a1.eval o) (hw : Region.wanted o (yielded ops a.tmps) = Region.wanted o (yielded ops a1.tmps))
    (h : wpList P ops (Post a1 o.dst T) [o] a1 w) : wpOp P ops Q k (fun a' w' => ∃ v, a' = a.put o.dst v ∧ T v w') a w := by
  have fin : ∀ v w', (∃ u, a1.put o.dst v = a1.put o.dst u ∧ T u w') → ∃ u, a.put o.dst v = a.put o.dst u ∧ T u w' := by
    rintro v w' ⟨u, e, t⟩
    rcases put_inj hsz e with hnone | rfl
    · exact ⟨v, rfl, hn hnone _ _ _ t⟩
    · exact ⟨v, rfl, t⟩
  unfold wpList at h
  unfold wpOp
  simp only [ho, hw]
  split
  · rename_i hwt
    rw [if_pos hwt] at h
    rcases h with h | ⟨_, h⟩
    case inr => exact (not_lets h).elim
    refine .inl ?_
    unfold Oper.wp at *
    rw [he]
    generalize (execOp a1.eval o).run P w = r at *
    cases r with
    | ok n w' =>
      cases n <;> simp only [Oper.upon] at h ⊢
      case value u => exact fin u w' h
      case skip => exact fin undef w' h
      case defer d =>
        simp only [wpList, Post] at h
        obtain ⟨v, e, _⟩ := h
        have := congrArg Act.defers e
        cases hds : o.dst <;> simp [Act.put, hds] at this
      case enter f args =>
        refine Calls.mono h fun e w'' hh => ?_
        cases e with
        | returned u => exact fin u w'' hh
        | panicked c => exact (hh : False).elim
        | outgrown => exact (not_lets hh).elim
      case row row args => exact Rows.mono h fun u w'' hh => fin u w'' hh
    | halt x w' =>
      cases x <;> simp only [Oper.upon] at h ⊢
      case panic u => exact (h : False).elim
  · rename_i hwt
    rw [if_neg hwt] at h
    exact fin undef w h

/-- the result of an operation that writes no slot does not matter -/
def res (o : Oper) (R : Value → World → Prop) (v : Value) (w : World) : Prop := match o.dst with | some _ => R v w | none => R undef w
/-- what is owed for one operation -/
def Does (P : Program) (ops : Array Oper) (L : List (List Nat)) (I : World → Prop) (S : World → World → Prop) (R : Nat → Value → World → Prop) (a0 : Act) (k : Nat) (o : Oper) : Prop :=
  ∀ (vals : Nat → Value) (w : World), I w → (∀ j ∈ L.getD k [], R j (vals j) w) →
    wpList P ops (Post (putOf ops vals (L.getD k []) a0) o.dst fun v w' => I w' ∧ S w w' ∧ res o (R k) v w') [o] (putOf ops vals (L.getD k []) a0) w
/-- what holds when some operations have been performed -/
structure Held (ops : Array Oper) (I : World → Prop) (R : Nat → Value → World → Prop) (a0 : Act) (vals : Nat → Value) (listed : Array Bool) (a : Act) (w : World) : Prop where
  inv : I w
  len : listed.size = ops.size
  defers : a.defers = a0.defers
  size : a.tmps.size = a0.tmps.size
  closed : ∀ (j : Nat) (o : Oper), ops[j]? = some o → listed[j]? = some true → ∀ i ∈ ahead o, listed[i]? = some true
  old : ∀ t : Nat, (∀ j : Nat, listed[j]? = some true → slot ops j ≠ some t) → a.tmps[t]? = a0.tmps[t]?
  new : ∀ (j t : Nat), listed[j]? = some true → slot ops j = some t → a.tmps[t]? = some (vals j)
  got : ∀ j : Nat, listed[j]? = some true → R j (vals j) w
theorem tmp_congr {a b : Act} {t : Nat} (h : a.tmps[t]? = b.tmps[t]?) : a.eval (.tmp t) = b.eval (.tmp t) := by
  simp only [Act.eval, Array.getD_eq_getD_getElem?, h]
theorem exec_congr {o : Oper} {a b : Act} (hs : ∀ cs c, o.op ≠ .select cs c) (h : ∀ t ∈ o.looksAt ops, a.tmps[t]? = b.tmps[t]?) : execOp a.eval o = execOp b.eval o := by
  refine execOp_congr o hs fun x hx => ?_
  cases x with
  | tmp t => exact tmp_congr (h t (List.mem_append_left _ (List.mem_filterMap.2 ⟨.tmp t, by simpa using hx, rfl⟩)))
  | const v => rfl
  | global g => rfl
  | func f => rfl
theorem wanted_congr {o : Oper} {a b : Act} (h : ∀ t ∈ o.looksAt ops, a.tmps[t]? = b.tmps[t]?) : Region.wanted o (yielded ops a.tmps) = Region.wanted o (yielded ops b.tmps) := by
  unfold Region.wanted
  cases hg : o.guard with
  | none => rfl
  | some gw =>
    obtain ⟨g, want⟩ := gw
    have hy : yielded ops a.tmps g = yielded ops b.tmps g := by
      unfold yielded
      cases ht : (ops[g]?).bind (·.dst) with
      | none => rfl
      | some t =>
        have := h t (by simp [Oper.looksAt, hg, ht])
        simp only [Option.bind_some, this]
    simp only [hy]
theorem listed_of_getD {listed : Array Bool} {j : Nat} (h : listed.getD j false = true) : listed[j]? = some true := by
  rw [Array.getD_eq_getD_getElem?] at h
  cases hj : listed[j]? with
  | none => rw [hj] at h; cases h
  | some b => rw [hj] at h; exact congrArg some h
theorem unlisted_of_getD {listed : Array Bool} {j : Nat} (h : listed.getD j true = false) : listed[j]? = some false := by
  rw [Array.getD_eq_getD_getElem?] at h
  cases hj : listed[j]? with
  | none => rw [hj] at h; cases h
  | some b => rw [hj] at h; exact congrArg some h
/-- the edges lead backwards -/
def backOk (ops : Array Oper) : Bool := (List.range ops.size).all fun k => match ops[k]? with | none => true | some o => (ahead o).all fun i => decide (i < k)
theorem ready_least {md : Region.Mode} (hmd : md = .any) {ops : Array Oper} (hb : backOk ops = true) {listed : Array Bool} (hl : listed.size = ops.size) (hr : Region.ready md ops listed = []) : ∀ j : Nat, j < ops.size → listed[j]? = some true := by
  intro j
  induction j using Nat.strongRecOn with
  | _ j ih =>
    intro hj
    have ho : ops[j]? = some ops[j] := Array.getElem?_eq_getElem hj
    cases hv : listed[j]'(by omega) with
    | true => rw [Array.getElem?_eq_getElem (by omega), hv]
    | false =>
      exfalso
      have hm : j ∈ Region.ready md ops listed := by
        rw [mem_ready]
        refine ⟨by rw [Array.getD_eq_getD_getElem?, Array.getElem?_eq_getElem (by omega), hv]; rfl, ops[j], ho, fun e he hbd => ?_⟩
        have hin : e.on ∈ ahead ops[j] := List.mem_map.2 ⟨e, List.mem_filter.2 ⟨by simpa using he, by rw [← hmd]; exact hbd⟩, rfl⟩
        have hlt : e.on < j := by
          have h1 := List.all_eq_true.1 hb j (List.mem_range.2 hj)
          simp only [ho] at h1
          exact of_decide_eq_true (List.all_eq_true.1 h1 _ hin)
        have := ih e.on hlt (by omega)
        rw [Array.getD_eq_getD_getElem?, this]; rfl
      rw [hr] at hm; cases hm
theorem count_set {listed : Array Bool} {i : Nat} (h : listed[i]? = some false) : (listed.setIfInBounds i true).toList.count false + 1 = listed.toList.count false := by
  obtain ⟨l⟩ := listed
  simp only [List.getElem?_toArray] at h
  simp only [List.setIfInBounds_toArray]
  induction l generalizing i with
  | nil => simp at h
  | cons b r ih =>
    cases i with
    | zero =>
      simp only [List.getElem?_cons_zero, Option.some.injEq] at h
      subst h
      simp
    | succ i =>
      simp only [List.getElem?_cons_succ] at h
      have := ih h
      simp only [List.set_cons_succ, List.count_cons]
      omega
theorem set_get {listed : Array Bool} {i : Nat} (hi : listed[i]? = some false) (j : Nat) : (listed.setIfInBounds i true)[j]? = if j = i then some true else listed[j]? := by
  have hlt : i < listed.size := (Array.getElem?_eq_some_iff.1 hi).1
  by_cases e : j = i
  · subst e; rw [if_pos rfl]; simp [hlt]
  · rw [if_neg e, Array.getElem?_setIfInBounds_ne (fun h => e h.symm)]
/-- the operations from n on come last, one after the other -/
def tailOk (ops : Array Oper) (n : Nat) : Bool := (List.range ops.size).all fun k => decide (k < n) || match ops[k]? with | none => true | some o => (List.range k).all fun i => (ahead o).contains i
theorem tail_ahead {n k i : Nat} {o : Oper} (h : tailOk ops n = true) (ho : ops[k]? = some o) (hk : n ≤ k) (hi : i < k) : i ∈ ahead o := by
  have hlt : k < ops.size := (Array.getElem?_eq_some_iff.1 ho).1
  have h1 := List.all_eq_true.1 h k (List.mem_range.2 hlt)
  simp only [ho, Bool.or_eq_true, decide_eq_true_eq] at h1
  have h2 := h1.resolve_left (by omega)
  have h3 := List.all_eq_true.1 h2 i (List.mem_range.2 hi)
  simpa using h3
theorem ahead_of_edge {o : Oper} {i : Nat} (h : i ∈ ahead o) : ∃ e ∈ o.after, Region.binds .any e = true ∧ e.on = i := by
  obtain ⟨e, he, rfl⟩ := List.mem_map.1 h
  obtain ⟨h1, h2⟩ := List.mem_filter.1 he
  exact ⟨e, by simpa using h1, h2, rfl⟩
theorem wpAny_tail (hb : backOk ops = true) {n : Nat} (ht : tailOk ops n = true) : ∀ (fuel m : Nat) (listed : Array Bool) (a : Act) (w : World), n ≤ m → m ≤ ops.size → ops.size - m ≤ fuel → listed.size = ops.size →
    (∀ j : Nat, j < m → listed[j]? = some true) → (∀ j : Nat, m ≤ j → j < ops.size → listed[j]? = some false) → wpList P ops Q (ops.toList.drop m) a w → wpAny P .any ops Q fuel listed a w := by
  intro fuel
  induction fuel with
  | zero =>
    intro m listed a w hn hm hf hl h1 h2 h
    have : m = ops.size := by omega
    subst this
    rw [List.drop_of_length_le (by simp)] at h
    refine ⟨?_, h⟩
    cases hr : Region.ready .any ops listed with
    | nil => rfl
    | cons x r =>
      have hx : x ∈ Region.ready .any ops listed := by rw [hr]; exact List.mem_cons_self
      obtain ⟨hu, o, ho, _⟩ := mem_ready.1 hx
      have := h1 x (Array.getElem?_eq_some_iff.1 ho).1
      rw [unlisted_of_getD hu] at this
      cases this
  | succ fuel ih =>
    intro m listed a w hn hm hf hl h1 h2 h
    by_cases hms : m = ops.size
    · subst hms
      rw [List.drop_of_length_le (by simp)] at h
      refine ⟨fun _ => h, fun x hx => ?_⟩
      obtain ⟨hu, o, ho, _⟩ := mem_ready.1 hx
      have := h1 x (Array.getElem?_eq_some_iff.1 ho).1
      rw [unlisted_of_getD hu] at this
      cases this
    · have hlt : m < ops.size := by omega
      have hom : ops[m]? = some ops[m] := Array.getElem?_eq_getElem hlt
      refine ⟨fun hr => ?_, fun k hk => ?_⟩
      · have := ready_least rfl hb hl hr m hlt
        rw [h2 m (Nat.le_refl _) hlt] at this
        cases this
      · obtain ⟨hu, o, ho, hedge⟩ := mem_ready.1 hk
        have hku := unlisted_of_getD hu
        have hklt : k < ops.size := (Array.getElem?_eq_some_iff.1 ho).1
        have hkm : m ≤ k := by
          rcases Nat.lt_or_ge k m with hx | hx
          · rw [h1 k hx] at hku; cases hku
          · exact hx
        have hk : k = m := by
          rcases Nat.lt_or_ge m k with hx | hx
          · obtain ⟨e, he, hbd, hon⟩ := ahead_of_edge (tail_ahead ht ho (by omega) hx)
            have := listed_of_getD (hedge e he hbd)
            rw [hon, h2 m (Nat.le_refl _) hlt] at this
            cases this
          · omega
        subst hk
        rw [List.drop_eq_getElem_cons (by simpa using hlt)] at h
        unfold wpList at h
        unfold wpOp
        simp only [hom]
        simp only [Array.getElem_toList] at h
        have next : ∀ a' w', wpList P ops Q (ops.toList.drop (k + 1)) a' w' → wpAny P .any ops Q fuel (listed.setIfInBounds k true) a' w' := by
          intro a' w' h'
          refine ih (k + 1) _ a' w' (by omega) hlt (by omega) (by rw [Array.size_setIfInBounds]; exact hl) ?_ ?_ h'
          · intro j hj
            rw [set_get hku]
            split
            · rfl
            · exact h1 j (by omega)
          · intro j hj hjs
            rw [set_get hku, if_neg (by omega)]
            exact h2 j (by omega) hjs
        split
        · rename_i hw
          rw [if_pos hw] at h
          exact h.imp (Oper.wp_mono next) id
        · rename_i hw
          rw [if_neg hw] at h
          exact next _ _ h
theorem wpAny_held (hb : backOk ops = true) (hap : apartB ops = true) {L : List (List Nat)} (hlo : looksOk ops L = true) {n : Nat} (hnle : n ≤ ops.size) (htl : tailOk ops n = true) {I : World → Prop} {S : World → World → Prop} {R : Nat → Value → World → Prop} {a0 : Act}
    (hsz : ∀ j t, slot ops j = some t → t < a0.tmps.size)
    (hS : ∀ j v w w', S w w' → R j v w → R j v w') (hop : ∀ (k : Nat) (o : Oper), k < n → ops[k]? = some o → Does P ops L I S R a0 k o)
    (hend : ∀ (vals : Nat → Value) (w : World), I w → (∀ j : Nat, j < n → R j (vals j) w) → wpList P ops Q (ops.toList.drop n) (putOf ops vals (List.range n) a0) w) :
    ∀ (fuel : Nat) (listed : Array Bool) (vals : Nat → Value) (a : Act) (w : World), listed.toList.count false ≤ fuel → (∀ j : Nat, n ≤ j → j < ops.size → listed[j]? = some false) → Held ops I R a0 vals listed a w → wpAny P .any ops Q fuel listed a w := by
  have slot_lt : ∀ {j t : Nat}, slot ops j = some t → j < ops.size := by
    intro j t hj
    unfold slot at hj
    cases hk : ops[j]? with
    | none => rw [hk] at hj; cases hj
    | some o => exact (Array.getElem?_eq_some_iff.1 hk).1
  have fin : ∀ (fuel : Nat) (listed : Array Bool) (vals : Nat → Value) (a : Act) (w : World), listed.toList.count false ≤ fuel → (∀ j : Nat, n ≤ j → j < ops.size → listed[j]? = some false) → Held ops I R a0 vals listed a w → (∀ j : Nat, j < n → listed[j]? = some true) → wpAny P .any ops Q fuel listed a w := by
    intro fuel listed vals a w hc hun h hall
    have e : a = putOf ops vals (List.range n) a0 := by
      have et : a.tmps = (putOf ops vals (List.range n) a0).tmps := by
        refine Array.ext_getElem? fun t => ?_
        by_cases hx : ∃ j : Nat, j < n ∧ slot ops j = some t
        · obtain ⟨j, hjn, hj⟩ := hx
          rw [h.new j t (hall j hjn) hj, putOf_mem hap vals _ _ j t (List.mem_range.2 hjn) hj (hsz j t hj)]
        · rw [h.old t (fun j hj e => ?_), putOf_other ops vals _ _ t (fun j hj e => hx ⟨j, List.mem_range.1 hj, e⟩)]
          rcases Nat.lt_or_ge j n with hjn | hjn
          · exact hx ⟨j, hjn, e⟩
          · rw [hun j hjn (slot_lt e)] at hj; cases hj
      have ed : a.defers = (putOf ops vals (List.range n) a0).defers := by rw [putOf_defers]; exact h.defers
      cases a
      generalize putOf ops vals (List.range n) a0 = b at *
      cases b
      simp_all
    have hcnt : ops.size - n ≤ fuel := by
      refine Nat.le_trans ?_ hc
      have h1 : (listed.toList.drop n).count false = ops.size - n := by
        rw [List.count_eq_length.2]
        · simp [h.len]
        · intro b hb'
          obtain ⟨i, hi, rfl⟩ := List.mem_iff_getElem.1 hb'
          simp only [List.length_drop, Array.length_toList] at hi
          have := hun (n + i) (by omega) (by rw [← h.len]; omega)
          rw [Array.getElem?_eq_getElem (by omega)] at this
          simpa using (Option.some.inj this).symm
      rw [← h1]
      exact (List.drop_sublist n _).count_le false
    exact wpAny_tail hb htl fuel n listed a w (Nat.le_refl _) hnle hcnt h.len hall hun (e ▸ hend vals w h.inv (fun j hj => h.got j (hall j hj)))
  intro fuel
  induction fuel with
  | zero =>
    intro listed vals a w hc hun h
    refine fin 0 listed vals a w hc hun h fun j hj => ?_
    have hjl : j < listed.size := by rw [h.len]; omega
    rw [Array.getElem?_eq_getElem hjl]
    have h0 : listed.toList.count false = 0 := by omega
    have := List.count_eq_zero.1 h0
    cases hv : listed[j] with
    | true => rfl
    | false => exact (this (hv ▸ (by simp))).elim
  | succ fuel ih =>
    intro listed vals a w hc hun h
    by_cases hall : ∀ j : Nat, j < n → listed[j]? = some true
    · exact fin _ listed vals a w hc hun h hall
    refine ⟨fun hr => (hall fun j hj => ready_least rfl hb h.len hr j (by omega)).elim, fun k hk => ?_⟩
    obtain ⟨hu, o, ho, hedge⟩ := mem_ready.1 hk
    have hku := unlisted_of_getD hu
    have hklt : k < ops.size := (Array.getElem?_eq_some_iff.1 ho).1
    have hkn : k < n := by
      rcases Nat.lt_or_ge k n with hx | hx
      · exact hx
      · exact (hall fun j hj => by
          obtain ⟨e, he, hbd, hon⟩ := ahead_of_edge (tail_ahead htl ho hx (show j < k by omega))
          exact hon ▸ listed_of_getD (hedge e he hbd)).elim
    have hah : ∀ i ∈ ahead o, listed[i]? = some true := by
      intro i hi
      obtain ⟨e, he, rfl⟩ := List.mem_map.1 hi
      obtain ⟨h1, h2⟩ := List.mem_filter.1 he
      exact listed_of_getD (hedge e (by simpa using h1) h2)
    have hlk := List.all_eq_true.1 hlo k (List.mem_range.2 hklt)
    simp only [ho, Bool.and_eq_true] at hlk
    obtain ⟨⟨hsel, hpre⟩, hlk⟩ := hlk
    have hpre' : ∀ i ∈ L.getD k [], i ∈ ahead o := fun i hi => by simpa using List.all_eq_true.1 hpre i hi
    have hsame : ∀ t ∈ o.looksAt ops, a.tmps[t]? = (putOf ops vals (L.getD k []) a0).tmps[t]? := by
      intro t ht
      have h1 := List.all_eq_true.1 hlk t ht
      by_cases hx : ∃ j : Nat, listed[j]? = some true ∧ slot ops j = some t
      · obtain ⟨j, hj, hjt⟩ := hx
        have hjlt : j < ops.size := by rw [← h.len]; exact (Array.getElem?_eq_some_iff.1 hj).1
        have h2 := List.all_eq_true.1 h1 j (List.mem_range.2 hjlt)
        have hoj : ops[j]? = some ops[j] := Array.getElem?_eq_getElem hjlt
        simp only [hoj, Bool.or_eq_true, bne_iff_ne, ne_eq, List.contains_eq_mem, decide_eq_true_eq] at h2
        have hjin : j ∈ L.getD k [] := by
          rcases h2 with (h2 | h2) | h2
          · exact (h2 hjt).elim
          · exact h2
          · have := h.closed j _ hoj hj k h2
            rw [hku] at this; cases this
        rw [h.new j t hj hjt, putOf_mem hap vals _ _ j t hjin hjt (hsz j t hjt)]
      · rw [h.old t (fun j hj e => hx ⟨j, hj, e⟩), putOf_other ops vals _ _ t (fun j hj e => hx ⟨j, hah j (hpre' j hj), e⟩)]
    have hd := hop k o hkn ho vals w h.inv (fun j hj => h.got j (hah j (hpre' j hj)))
    have hdst : slot ops k = o.dst := by unfold slot; rw [ho]; rfl
    refine wpOp_mono ?_ (wpOp_of_list (Q := Q) (a := a) ho ?_ ?_ (exec_congr (fun cs c e => ?_) hsame) (wanted_congr hsame) hd)
    · rintro a' w' ⟨v, rfl, hI, hSw, hR⟩
      refine ih (listed.setIfInBounds k true) (fun j => if j = k then (if o.dst.isSome then v else undef) else vals j) _ w' (by have := count_set hku; omega) (fun j hj hjs => by rw [set_get hku, if_neg (by omega)]; exact hun j hj hjs) ?_
      refine ⟨hI, ?_, ?_, ?_, ?_, ?_, ?_, ?_⟩
      · rw [Array.size_setIfInBounds]; exact h.len
      · rw [← h.defers]; cases o.dst <;> rfl
      · rw [← h.size]; cases o.dst <;> simp [Act.put]
      · intro j oj hoj hj i hi
        rw [set_get hku] at hj ⊢
        by_cases ei : i = k
        · rw [if_pos ei]
        · rw [if_neg ei]
          by_cases ej : j = k
          · subst ej
            rw [ho] at hoj; cases hoj
            exact hah i hi
          · rw [if_neg ej] at hj
            exact h.closed j oj hoj hj i hi
      · intro t ht
        have hne : o.dst ≠ some t := by rw [← hdst]; exact ht k (by rw [set_get hku, if_pos rfl])
        rw [put_get_ne hne]
        refine h.old t fun j hj => ht j ?_
        rw [set_get hku]; split <;> first | rfl | exact hj
      · intro j t hj hjt
        rw [set_get hku] at hj
        by_cases ej : j = k
        · subst ej
          rw [hdst] at hjt
          rw [hjt, put_get_eq (by rw [h.size]; exact hsz j t (by rw [hdst]; exact hjt)), if_pos rfl]
          simp
        · rw [if_neg ej] at hj ⊢
          have hne : o.dst ≠ some t := by
            intro e
            exact ej (apart_inj hap hjt (by rw [hdst]; exact e))
          rw [put_get_ne hne]
          exact h.new j t hj hjt
      · intro j hj
        rw [set_get hku] at hj
        by_cases ej : j = k
        · subst ej
          rw [if_pos rfl]
          unfold res at hR
          cases hod : o.dst <;> rw [hod] at hR <;> exact hR
        · rw [if_neg ej] at hj ⊢
          exact hS j _ w w' hSw (h.got j hj)
    · intro hnone v u w'
      unfold res
      rw [hnone]
      exact id
    · intro t ht
      rw [putOf_size]
      exact hsz k t (by rw [hdst]; exact ht)
    · rw [e] at hsel; cases hsel
/-- all the checks on a region's text: n operations in any order, N slots; D: the slots that are written; L: what each operation builds on -/
def regOk (ops : Array Oper) (D : List (Option Tmp)) (L : List (List Nat)) (n N : Nat) : Bool := decide (n ≤ ops.size) && tailOk ops n && backOk ops && apartB ops && looksOk ops L &&
  ((List.range ops.size).all fun j => match slot ops j with | some t => decide (t < N) | none => true) && ((List.range ops.size).all fun j => slot ops j == D.getD j none) &&
  (List.range ops.size).all fun k => match (ops[k]?).bind (·.guard) with | none => true | some (g, _) => (L.getD k []).contains g && (D.getD g none).isSome
/-- a frame in which some operations have written: the slots by a list -/
def putD (D : List (Option Tmp)) (vals : Nat → Value) : List Nat → Act → Act
  | [], a => a
  | j :: r, a => putD D vals r (a.put (D.getD j none) (vals j))
theorem putD_eq {D : List (Option Tmp)} (h : ∀ j, j < ops.size → slot ops j = D.getD j none) (vals : Nat → Value) : ∀ (l : List Nat) (a : Act), (∀ j ∈ l, j < ops.size) → putOf ops vals l a = putD D vals l a := by
  intro l
  induction l with
  | nil => intro a _; rfl
  | cons j r ih =>
    intro a hl
    rw [putOf, putD, h j (hl j List.mem_cons_self), ih _ (fun k hk => hl k (List.mem_cons_of_mem _ hk))]
/-- what is owed for one operation whose guard says yes -/
def Goes (P : Program) (D : List (Option Tmp)) (ps : List Nat) (T : World → Value → World → Prop) (a0 : Act) (o : Oper) (vals : Nat → Value) (w : World) : Prop :=
  wpList P #[] (Post (putD D vals ps a0) o.dst (T w)) [{ o with guard := none }] (putD D vals ps a0) w
/-- what is owed for one operation -/
def Owes (P : Program) (D : List (Option Tmp)) (ps : List Nat) (I : World → Prop) (S : World → World → Prop) (R : Nat → Value → World → Prop) (a0 : Act) (k : Nat) (o : Oper) : Prop :=
  ∀ (vals : Nat → Value) (w : World), I w → (∀ j ∈ ps, R j (vals j) w) → match o.guard with
    | none => Goes P D ps (fun w v w' => I w' ∧ S w w' ∧ res o (R k) v w') a0 o vals w
    | some (g, want) => (vals g = .bool want → Goes P D ps (fun w v w' => I w' ∧ S w w' ∧ res o (R k) v w') a0 o vals w) ∧ (vals g ≠ .bool want → S w w ∧ R k undef w)
/-- what is owed for the operations, one after the other -/
def OwesAll (P : Program) (D : List (Option Tmp)) (L : List (List Nat)) (I : World → Prop) (S : World → World → Prop) (R : Nat → Value → World → Prop) (a0 : Act) : Nat → Nat → List Oper → Prop
  | _, 0, _ => True
  | _, _ + 1, [] => True
  | k, n + 1, o :: r => Owes P D (L.getD k []) I S R a0 k o ∧ OwesAll P D L I S R a0 (k + 1) n r
theorem owes_of_all {D : List (Option Tmp)} {L : List (List Nat)} {I : World → Prop} {S : World → World → Prop} {R : Nat → Value → World → Prop} {a0 : Act} : ∀ (l : List Oper) (m n : Nat), OwesAll P D L I S R a0 m n l → ∀ (k : Nat) (o : Oper), k < n → l[k]? = some o → Owes P D (L.getD (m + k) []) I S R a0 (m + k) o := by
  intro l
  induction l with
  | nil => intro m n _ k o _ h; simp at h
  | cons x r ih =>
    intro m n h k o hk hx
    cases n with
    | zero => omega
    | succ n =>
      obtain ⟨h1, h2⟩ := h
      cases k with
      | zero => simp only [List.getElem?_cons_zero, Option.some.injEq] at hx; subst hx; exact h1
      | succ k =>
        simp only [List.getElem?_cons_succ] at hx
        have := ih (m + 1) n h2 k o (by omega) hx
        rwa [show m + 1 + k = m + (k + 1) by omega] at this
theorem wpList_unguarded {o : Oper} {a1 : Act} {w : World} {T : Value → World → Prop} (h : wpList P #[] (Post a1 o.dst T) [{ o with guard := none }] a1 w) : o.wp P a1 w (wpList P ops (Post a1 o.dst T) []) (Post a1 o.dst T) := by
  unfold wpList at h
  rw [if_pos (by simp [Region.wanted])] at h
  rcases h with h | ⟨_, h⟩
  · exact h
  · exact (not_lets h).elim
theorem does_of_owes {D : List (Option Tmp)} {L : List (List Nat)} {I : World → Prop} {S : World → World → Prop} {R : Nat → Value → World → Prop} {a0 : Act} {k : Nat} {o : Oper}
    (hD : ∀ j, j < ops.size → slot ops j = D.getD j none) (hL : ∀ j ∈ L.getD k [], j < ops.size) (hap : apartB ops = true) (hsz : ∀ j t, slot ops j = some t → t < a0.tmps.size)
    (hg : ∀ g want, o.guard = some (g, want) → g ∈ L.getD k [] ∧ (slot ops g).isSome = true) (h : Owes P D (L.getD k []) I S R a0 k o) : Does P ops L I S R a0 k o := by
  intro vals w hI hR
  have h := h vals w hI hR
  unfold Goes at h
  rw [← putD_eq hD vals _ _ hL] at h
  generalize he : putOf ops vals (L.getD k []) a0 = a1 at *
  unfold wpList
  cases hgd : o.guard with
  | none =>
    rw [hgd] at h
    rw [if_pos (by simp [Region.wanted, hgd])]
    exact .inl (wpList_unguarded h)
  | some gw =>
    obtain ⟨g, want⟩ := gw
    rw [hgd] at h
    obtain ⟨h1, h2⟩ := h
    obtain ⟨hgl, hgs⟩ := hg g want hgd
    obtain ⟨t, ht⟩ := Option.isSome_iff_exists.1 hgs
    have hv : a1.tmps[t]? = some (vals g) := by rw [← he]; exact putOf_mem hap vals _ _ g t hgl ht (hsz g t ht)
    have hy : yielded ops a1.tmps g = match vals g with | .bool b => some b | _ => none := by
      unfold yielded
      have : (ops[g]?).bind (·.dst) = some t := ht
      rw [this, Option.bind_some, hv]
      cases vals g <;> rfl
    by_cases hb : vals g = .bool want
    · rw [if_pos (by simp [Region.wanted, hgd, hy, hb])]
      exact .inl (wpList_unguarded (h1 hb))
    · rw [if_neg]
      · obtain ⟨hS, hR⟩ := h2 hb
        refine ⟨undef, rfl, hI, hS, ?_⟩
        unfold res
        cases o.dst <;> exact hR
      · simp only [Region.wanted, hgd, hy]
        cases hx : vals g <;> simp
        rename_i b
        rw [hx] at hb
        intro e
        exact hb (by rw [e])
/-- A REGION THAT DRAWS ITS ORDER: its first n operations come up in any order that the edges allow, the others behind them. Each operation is walked once. I: what holds throughout; S: what a step may change; R k: what the result of operation k is. -/
theorem region_any {id : Nat} {l : List Oper} {a0 : Act} {w0 : World} (n : Nat) (D : List (Option Tmp)) (L : List (List Nat)) (I : World → Prop) (S : World → World → Prop) (R : Nat → Value → World → Prop) (hm : P.follows .mixedOrders = true)
    (hok : regOk l.toArray D L n a0.tmps.size = true) (h0 : I w0.drew)
    (hS : ∀ j v w w', S w w' → R j v w → R j v w')
    (hop : OwesAll P D L I S R a0 0 n l)
    (hend : ∀ (vals : Nat → Value) (w : World), I w → (∀ j : Nat, j < n → R j (vals j) w) → wpList P l.toArray Q (l.drop n) (putD D vals (List.range n) a0) w) :
    (Code.region id l.toArray true).wp P Q a0 w0 := by
  simp only [regOk, Bool.and_eq_true] at hok
  obtain ⟨⟨⟨⟨⟨⟨⟨hnle, htl⟩, hb⟩, hap⟩, hlo⟩, hsz⟩, hD⟩, hgd⟩ := hok
  have hnle' := of_decide_eq_true hnle
  have slot_lt : ∀ {j t : Nat}, slot l.toArray j = some t → j < l.toArray.size := by
    intro j t hj
    unfold slot at hj
    cases hk : l.toArray[j]? with
    | none => rw [hk] at hj; cases hj
    | some o => exact (Array.getElem?_eq_some_iff.1 hk).1
  have hsz' : ∀ j t, slot l.toArray j = some t → t < a0.tmps.size := by
    intro j t hj
    have h1 := List.all_eq_true.1 hsz j (List.mem_range.2 (slot_lt hj))
    simp only [hj] at h1
    exact of_decide_eq_true h1
  have hD' : ∀ j, j < l.toArray.size → slot l.toArray j = D.getD j none := fun j hj => by simpa using List.all_eq_true.1 hD j (List.mem_range.2 hj)
  refine wp_region_any hm ?_
  refine wpAny_held hb hap hlo hnle' htl (I := I) (S := S) (R := R) (a0 := a0) hsz' hS (fun k o hk ho => ?_) (fun vals w hI hR => ?_) _ _ (fun _ => undef) a0 _ ?_ ?_ ?_
  · have hklt : k < l.toArray.size := (Array.getElem?_eq_some_iff.1 ho).1
    have h1 := owes_of_all l 0 n hop k o hk (by simpa using ho)
    rw [Nat.zero_add] at h1
    have hlk := List.all_eq_true.1 hlo k (List.mem_range.2 hklt)
    simp only [ho, Bool.and_eq_true] at hlk
    refine does_of_owes hD' (fun j hj => ?_) hap hsz' (fun g want hg => ?_) h1
    · have h2 : j ∈ ahead o := by simpa using List.all_eq_true.1 hlk.1.2 j hj
      have h3 := List.all_eq_true.1 hb k (List.mem_range.2 hklt)
      simp only [ho] at h3
      have := of_decide_eq_true (List.all_eq_true.1 h3 j h2)
      omega
    · have h2 := List.all_eq_true.1 hgd k (List.mem_range.2 hklt)
      simp only [ho, Option.bind_some, hg, Bool.and_eq_true] at h2
      have hgl : g ∈ L.getD k [] := by simpa using h2.1
      refine ⟨hgl, ?_⟩
      have h4 : g ∈ ahead o := by simpa using List.all_eq_true.1 hlk.1.2 g hgl
      have h3 := List.all_eq_true.1 hb k (List.mem_range.2 hklt)
      simp only [ho] at h3
      have := of_decide_eq_true (List.all_eq_true.1 h3 g h4)
      rw [hD' g (by omega)]; exact h2.2
  · rw [putD_eq hD' vals _ _ (fun j hj => by have := List.mem_range.1 hj; omega)]
    exact hend vals w hI hR
  · simp
  · intro j _ hj
    rw [Array.getElem?_replicate, if_pos hj]
  · refine ⟨h0, by simp, rfl, rfl, ?_, fun _ _ => rfl, ?_, ?_⟩
    · intro j o _ hj
      rw [Array.getElem?_replicate] at hj
      split at hj <;> simp at hj
    · intro j t hj
      rw [Array.getElem?_replicate] at hj
      split at hj <;> simp at hj
    · intro j hj
      rw [Array.getElem?_replicate] at hj
      split at hj <;> simp at hj
/-- a list of predicates, each of which outlives a step -/
def Stab (S : World → World → Prop) : List (Value → World → Prop) → Prop
  | [] => True
  | r :: t => (∀ v w w', S w w' → r v w → r v w') ∧ Stab S t
def at_ (RL : List (Value → World → Prop)) (j : Nat) (v : Value) (w : World) : Prop := RL.getD j (fun _ _ => True) v w
theorem Stab.at {S : World → World → Prop} : ∀ {RL : List (Value → World → Prop)}, Stab S RL → ∀ j v w w', S w w' → at_ RL j v w → at_ RL j v w' := by
  intro RL
  induction RL with
  | nil => intro _ j v w w' _ _; exact trivial
  | cons r t ih =>
    rintro ⟨h1, h2⟩ j v w w' hS h
    cases j with
    | zero => exact h1 v w w' hS h
    | succ j => exact ih h2 j v w w' hS h
theorem region_l {id : Nat} {l : List Oper} {a0 : Act} {w0 : World} (n : Nat) (D : List (Option Tmp)) (L : List (List Nat)) (I : World → Prop) (S : World → World → Prop) (RL : List (Value → World → Prop)) (hm : P.follows .mixedOrders = true)
    (hok : regOk l.toArray D L n a0.tmps.size = true) (h0 : I w0.drew) (hS : Stab S RL)
    (hop : OwesAll P D L I S (at_ RL) a0 0 n l)
    (hend : ∀ (vals : Nat → Value) (w : World), I w → (∀ j : Nat, j < n → at_ RL j (vals j) w) → wpList P l.toArray Q (l.drop n) (putD D vals (List.range n) a0) w) :
    (Code.region id l.toArray true).wp P Q a0 w0 := region_any n D L I S (at_ RL) hm hok h0 hS.at hop hend
/-- what the slots hold that come in -/
def Lives (a : Act) : List (Nat × Value) → Prop
  | [] => True
  | x :: r => a.eval (.tmp x.1) = x.2 ∧ Lives a r
theorem Lives.at {a : Act} : ∀ {l : List (Nat × Value)}, Lives a l → ∀ (i : Nat) (x : Nat × Value), l[i]? = some x → a.eval (.tmp x.1) = x.2 := by
  intro l
  induction l with
  | nil => intro _ i x h; simp at h
  | cons y r ih =>
    rintro ⟨h1, h2⟩ i x h
    cases i with
    | zero => simp only [List.getElem?_cons_zero, Option.some.injEq] at h; subst h; exact h1
    | succ i => simp only [List.getElem?_cons_succ] at h; exact ih h2 i x h
theorem eval_of_get {a b : Act} {t : Nat} (h : a.tmps[t]? = b.tmps[t]?) : a.eval (.tmp t) = b.eval (.tmp t) := tmp_congr h
theorem eval_old {D : List (Option Tmp)} {vals : Nat → Value} {t : Nat} : ∀ {ps : List Nat} {a0 : Act}, (ps.all fun j => D.getD j none != some t) = true → (putD D vals ps a0).eval (.tmp t) = a0.eval (.tmp t) := by
  intro ps
  induction ps with
  | nil => intro a0 _; rfl
  | cons j r ih =>
    intro a0 h
    simp only [List.all_cons, Bool.and_eq_true, bne_iff_ne, ne_eq] at h
    rw [putD, ih h.2]
    exact eval_of_get (put_get_ne h.1)
theorem putD_size (D : List (Option Tmp)) (vals : Nat → Value) (l : List Nat) (a : Act) : (putD D vals l a).tmps.size = a.tmps.size := by
  induction l generalizing a with
  | nil => rfl
  | cons j r ih => rw [putD, ih]; cases D.getD j none <;> simp [Act.put]
theorem eval_new {D : List (Option Tmp)} {vals : Nat → Value} {t : Nat} (j : Nat) (hD : D.getD j none = some t) : ∀ {ps : List Nat} {a0 : Act}, j ∈ ps → (ps.all fun i => i == j || D.getD i none != some t) = true → t < a0.tmps.size →
    (putD D vals ps a0).eval (.tmp t) = vals j := by
  intro ps
  induction ps with
  | nil => intro a0 h; cases h
  | cons i r ih =>
    intro a0 hj h hs
    simp only [List.all_cons, Bool.and_eq_true] at h
    rw [putD]
    by_cases hr : j ∈ r
    · exact ih hr h.2 (by cases D.getD i none <;> simp [Act.put, hs])
    · obtain rfl : j = i := (List.mem_cons.1 hj).resolve_right hr
      have hno : (r.all fun i => D.getD i none != some t) = true := by
        rw [List.all_eq_true] at h ⊢
        intro k hk
        have := h.2 k hk
        simp only [Bool.or_eq_true, beq_iff_eq] at this
        rcases this with e | e
        · exact (hr (e ▸ hk)).elim
        · exact e
      rw [eval_old hno, hD]
      simp only [Act.eval, Array.getD_eq_getD_getElem?, put_get_eq hs, Option.getD_some]
theorem goes_val {o : Oper} {a1 : Act} {w w' : World} {T : Value → World → Prop} (v : Value) (hg : o.guard = none) (h : (execOp a1.eval o).run P w = .ok (.value v) w') (hT : T v w') : wpList P #[] (Post a1 o.dst T) [o] a1 w := by
  unfold wpList
  rw [if_pos (by simp [Region.wanted, hg])]
  refine .inl ?_
  unfold Oper.wp
  rw [h]
  exact ⟨v, rfl, hT⟩
theorem goes_skip {o : Oper} {a1 : Act} {w w' : World} {T : Value → World → Prop} (hg : o.guard = none) (h : (execOp a1.eval o).run P w = .ok .skip w') (hT : T undef w') : wpList P #[] (Post a1 o.dst T) [o] a1 w := by
  unfold wpList
  rw [if_pos (by simp [Region.wanted, hg])]
  refine .inl ?_
  unfold Oper.wp
  rw [h]
  exact ⟨undef, rfl, hT⟩
theorem goes_call {o : Oper} {a1 : Act} {w : World} {T : Value → World → Prop} (f : FuncId) (args : Array Value) (w' : World) (hg : o.guard = none) (h : (execOp a1.eval o).run P w = .ok (.enter f args) w')
    (hT : Calls P f args w' fun e w'' => ∃ v, e = .returned v ∧ T v w'') : wpList P #[] (Post a1 o.dst T) [o] a1 w := by
  unfold wpList
  rw [if_pos (by simp [Region.wanted, hg])]
  refine .inl ?_
  unfold Oper.wp
  rw [h]
  refine Calls.mono hT fun e w'' he => ?_
  obtain ⟨v, rfl, ht⟩ := he
  exact ⟨v, rfl, ht⟩
/-- the same rule, each operation over a frame of which only the slots that come in are known -/
theorem region_f {id : Nat} {l : List Oper} {a0 : Act} {w0 : World} (n N : Nat) (D : List (Option Tmp)) (L : List (List Nat)) (LV : List (Nat × Value)) (I : World → Prop) (S : World → World → Prop) (RL : List (Value → World → Prop)) (hm : P.follows .mixedOrders = true)
    (hok : regOk l.toArray D L n N = true) (hN : a0.tmps.size = N) (hLV : Lives a0 LV) (h0 : I w0.drew) (hS : Stab S RL)
    (hop : ∀ b0 : Act, b0.tmps.size = N → Lives b0 LV → OwesAll P D L I S (at_ RL) b0 0 n l)
    (hend : ∀ (vals : Nat → Value) (w : World), I w → (∀ j : Nat, j < n → at_ RL j (vals j) w) → wpList P l.toArray Q (l.drop n) (putD D vals (List.range n) a0) w) :
    (Code.region id l.toArray true).wp P Q a0 w0 := region_l n D L I S RL hm (hN ▸ hok) h0 hS (hop a0 hN hLV) hend
end Go.Proofs.Ytfgmhidgkemfoaa.Roll

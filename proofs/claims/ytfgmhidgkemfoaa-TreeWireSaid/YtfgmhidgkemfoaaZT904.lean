/-
  Texts NU, NV, NW, NX, NY, NZ, O1, one behind the other.
-/
import Derived.WalkKit
import Derived.WalkSpells
import Derived.WalkLawsBesides
import Derived.Laws.AppendOwn
import Derived.Laws.OwnMore
import Derived.Deep.AppendSrc
import Derived.Deep.MidRow
import Derived.Lib.Hide
import GoSem.Claim
import Derived.Lib.Bytealg
import Derived.Laws.Externs
import Derived.Deep.QuietTactic
import Derived.BigQuiet
import Derived.Deep.CutBlock
import Derived.OwnWalk
import Derived.Deep.DrawnRows
import Derived.Deep.CutRange
import Derived.Deep.LoopGhost
import Derived.Laws.Tables
import Derived.Laws.ResultCell
import Derived.Deep.WholeRow
import Derived.Lib.Strings
import Derived.Shelf.Spec.SlicesInsert
import Derived.Lib.AppendZerosOnto
import Derived.Lib.Overlaps
import Derived.Laws.CopyRow
import Derived.Deep.RegionLaw
import Derived.StillTailTactics
import Derived.Orders
import Derived.Tactics
import Derived.RangeFuncNested
import Derived.RangeFuncBound
import Derived.RangeFuncCalls
import Derived.RangeFuncLeaves
import Derived.Shelf.Abstract
import Derived.Shelf.RegionOpen
import Derived.OwnWalkIn
import Derived.TacticsInMore
import Derived.LoopNIn
import Derived.LoopIn
import Derived.Test.YtfgmhidgkemfoaaRows
import Derived.Test.YtfgmhidgkemfoaaZT903
namespace Go.Proofs.Ytfgmhidgkemfoaa
open Go.RowKit
set_option linter.unusedSimpArgs false
set_option linter.unusedVariables false
attribute [local go_sem ↓] exec_loadPair exec_storePair exec_at_zeroP exec_at_succP Go.wp_at_zero Go.wp_at_succ
def Dre9 : List (Option Tmp) := [some 58, some 59, some 60, some 61, some 62, some 63, some 64, some 65, some 66, some 67, some 68, some 69, some 70, some 71, some 72, none]
def Lre9 : List (List Nat) := [[], [0], [1], [2], [], [], [5], [6], [7], [], [8, 9], [10], [], [11, 12], [3, 4], [14, 13]]
def Dre7 : List (Option Tmp) := [some 36, some 37, some 38, some 39, some 40, some 41, some 42, some 43, some 44, some 45, some 46, some 47, some 48, some 49, none]
def Lre7 : List (List Nat) := [[], [0], [1], [2], [], [], [5], [6], [7], [], [8, 9], [10], [11], [3, 4], [13, 12]]
theorem place_found {ps : List KV} {key : ByteArray} {i : Nat} (hs : Sorted ps) (hp : Place ps key i) (hm : ∃ q ∈ ps, q.k = key) : ∃ h : i < ps.length, ps[i].k = key := by
  obtain ⟨q, hq, rfl⟩ := hm
  obtain ⟨t, ht, rfl⟩ := List.mem_iff_getElem.1 hq
  obtain ⟨hi, h1, h2⟩ := hp
  have e0 := (cmpK_eq ps[t].k ps[t].k).2 rfl
  rcases Nat.lt_trichotomy t i with h | h | h
  · have := h1 t ht h; omega
  · subst h; exact ⟨ht, rfl⟩
  · have h3 := hs.lt (i := i) (j := t) h ht
    have h4 := h2 i (by omega) (Nat.le_refl _)
    omega
theorem child_has {ps : List KV} {ks : List BT} {key : ByteArray} {i : Nat} (hl : ks.length = ps.length + 1) (hs : Sorted (toLs ps ks)) (hp : Place ps key i) (hik : i < ks.length) (hf : ¬ ∃ h : i < ps.length, ps[i].k = key) (hm : ∃ q ∈ toLs ps ks, q.k = key) : ∃ q ∈ ks[i].toL, q.k = key := by
  obtain ⟨h1, h2, -⟩ := place_inner hl hs hp hik hf
  obtain ⟨q, hq, rfl⟩ := hm
  have e0 := (cmpK_eq q.k q.k).2 rfl
  rw [toLs_split ps ks i hik hl] at hq
  rcases List.mem_append.1 hq with h | h
  · have := h1 q h; omega
  · rcases List.mem_append.1 h with h | h
    · exact ⟨q, h, rfl⟩
    · have := h2 q h; omega
/-- what remove makes of a node -/
structure DelOf (k : Nat) (T T' : BT) (key : ByteArray) : Prop where
  sh : T'.Sh k
  list : T'.toL = delL T.toL key
  low : T.ps.length ≤ T'.ps.length + 1
  high : T'.ps.length ≤ T.ps.length
  cnt : ∀ P, T'.cnt P ≤ T.cnt P + (3 * k + 1)
def DelRes (D : Nat → Prop) (w : World) (k : Nat) (T : BT) (key : ByteArray) (e : Ending) (w' : World) : Prop := ∃ T' : BT, e = .returned (.pointer (some ⟨T'.g, 0, none⟩)) ∧ NdD (fun b => D b ∨ w.heap.size ≤ b) w' T' ∧ Below w.heap.size w w' ∧ DelOf k T T' key
theorem del_leafT {k : Nat} {T : BT} {c i : Nat} (hs : T.Sh k) (hk0 : T.ks = []) (hso : Sorted T.toL) (hi : i < T.ps.length) : DelOf k T (.mk c (T.ps.take i ++ T.ps.drop (i + 1)) T.ks) T.ps[i].k := by
  have hl : (T.ps.take i ++ T.ps.drop (i + 1)).length + 1 = T.ps.length := by simp only [List.length_append, List.length_take, List.length_drop]; omega
  refine ⟨?_, ?_, by show _ ≤ (T.ps.take i ++ T.ps.drop (i + 1)).length + 1; omega, by show (T.ps.take i ++ T.ps.drop (i + 1)).length ≤ _; omega, fun P => ?_⟩
  · rcases hs with h | ⟨h1, h2, h3⟩
    · exact .inl h
    · rw [hk0] at h2; simp at h2
  · rw [toL_mk, hk0, toLs_leaf]
    rw [toL_eq, hk0, toLs_leaf] at hso ⊢
    exact (del_leaf hso hi).symm
  · have := cnt_new P T (.mk c (T.ps.take i ++ T.ps.drop (i + 1)) T.ks) 0 (Nat.le_refl _)
    omega
theorem del_innerT {k : Nat} {T r : BT} {key key2 : ByteArray} {c i : Nat} {ps2 ps5 : List KV} {ks5 : List BT} (hi : i < T.ks.length) (hpl : ps2.length = T.ps.length) (hr : DelOf k T.ks[i] r key2) (h8 : T.ks[i].ps.length ≤ 8) (hlist : delL T.toL key = toLs ps2 (T.ks.set i r)) (hm : Mended k r.ps.length ps2 (T.ks.set i r) ps5 ks5) : DelOf (k + 1) T (.mk c ps5 ks5) key := by
  refine ⟨.inr ⟨by omega, hm.lens, hm.kids⟩, by rw [toL_mk, hm.list, hlist], by rw [← hpl]; exact hm.low, ?_, fun P => ?_⟩
  · rw [← hpl]; exact hm.high2 (Nat.le_trans hr.high h8)
  · have h1 := hm.cnt P
    have h2 := cntL_set P T.ks i hi r
    have h4 := hr.cnt P
    have := cnt_new P T (.mk c ps5 ks5) (3 * k + 3) (by show cntL P ks5 ≤ _; omega)
    omega
theorem ONx.pairCell {D : Nat → Prop} {w0 w : World} {g jp : Nat} {kk : Option Nat} {vp vk : Value} {ps : List KV} {ks xs : List BT} (h : ONx D w0 w g (some jp) kk vp vk ps ks xs) (i : Nat) (hi : i < ps.length) : w.cell? ⟨jp, i * 2, none⟩ = some (.string ps[i].k) := by
  obtain ⟨cap, cur, -, hg, -, -, hs, ht⟩ := h.hp.row
  rw [cell_of_row w jp _ _ _ _ hg]
  have h1 := pcells_get ps i 0 hi (by decide)
  rw [Nat.add_zero, ← ht, List.getElem?_take] at h1
  split at h1
  · simpa [KV.cells] using h1
  · cases h1
set_option maxRecDepth 100000 in
set_option maxHeartbeats 4000000 in
theorem remove_step {D : Nat → Prop} {w : World} {T : BT} (hT : NdD D w T) (k0 : Nat) (hs : T.Sh k0) (h8 : T.ps.length ≤ 8) (h1 : 1 ≤ T.ps.length) (hso : Sorted T.toL) (key : ByteArray) (hmem : ∃ q ∈ T.toL, q.k = key) (hrec : ∀ (E : Nat → Prop) (u : World) (C : BT) (y : ByteArray), C ∈ T.ks → Sorted C.toL → NdD E u C → (∃ q ∈ C.toL, q.k = y) → Calls Try.prog 54 #[.pointer (some ⟨C.g, 0, none⟩), .string y] u (DelRes E u (k0 - 1) C y)) :
    Calls Try.prog 54 #[.pointer (some ⟨T.g, 0, none⟩), .string key] w (DelRes D w k0 T key) := by
  have HFI := Lib.hid (find_any hT.nd key (by exact Sorted.ps ((wf_iff _ _).2 ⟨h8, hs⟩) hso) (by omega))
  have HT := Lib.hid hT
  have HS := Lib.hid hs
  have HSO := Lib.hid hso
  have HRC := Lib.hid hrec
  have HMEM := Lib.hid hmem
  have HH : Hid (1 ≤ T.ps.length ∧ T.ps.length ≤ 8) := Lib.hid ⟨h1, h8⟩
  have HTGL : Hid (T.g < w.heap.size) := Lib.hid hT.nd.lt
  have mixed : Try.prog.follows .mixedOrders = true := by kernel_rfl
  obtain ⟨tg, htg⟩ : ∃ tg, tg = T.g := ⟨_, rfl⟩
  rw [← htg] at HFI HTGL ⊢
  have HTG := Lib.hid htg
  clear hT hs hso hrec h1 h8 htg hmem
  go_enter Try.func54, Try.ntmps54
  go_upto_region 2 with (go_at_call 59; refine HFI.out.mono ?_; rintro e w1 ⟨i, rfl, hpl, hb1⟩; have HPL := Lib.hid hpl; have HB1 := Lib.hid hb1; clear hpl hb1)
  have hT1 : NdD D w1 T := HT.out.under HB1.out
  obtain ⟨aT, nT, cT, bT, mT, eT, -, -, ct0, ct1, htp, htk, -⟩ := hT1.facts
  rw [← HTG.out] at ct0 ct1
  have hnT := htp.1
  rw [← hnT] at ct0
  have HPA := Lib.hid (part_any hT1 HS.out.lens 0 T.ps.length (by have := HH.out; omega) (Nat.le_refl _) (by have := HH.out; omega))
  rw [← HTG.out, List.take_length] at HPA
  have e2 : T.ks.take (T.ps.length + 1) = T.ks := by
    rcases HS.out.lens with h | h
    · rw [h]; simp
    · rw [← h, List.take_length]
  rw [e2] at HPA
  have HTK := Lib.hid htk
  have CTW0 := Lib.hid ct1
  clear hT1 htp e2 hnT htk ct1
  go_upto_region 3 with (go_at_call 70; refine HPA.out.mono ?_; rintro e q ⟨c, rfl, hon⟩; have HON0 := Lib.hid hon; clear hon)
  obtain ⟨kp, kk, vp, vk, hon⟩ := HON0.out
  obtain ⟨ps, hps⟩ : ∃ ps, ps = T.ps := ⟨_, rfl⟩
  obtain ⟨ks, hks⟩ : ∃ ks, ks = T.ks := ⟨_, rfl⟩
  obtain ⟨xs, hxs⟩ : ∃ xs, xs = T :: T.ks := ⟨_, rfl⟩
  have hon : ONx D w1 q c kp kk vp vk ps ks xs := by
    have h := hon
    rw [List.drop_zero, List.drop_zero, ← hps, ← hxs, ← hks] at h
    exact h
  have HPS := Lib.hid hps
  have HKS := Lib.hid hks
  have HBQ0 : Hid (Below w.heap.size w q) := Lib.hid (HB1.out.trans (hon.below.mono HB1.out.size))
  have HFIN : Hid (∀ (w' : World) (ps' : List KV) (ks' xs' : List BT), ON D w1 w' c ps' ks' xs' → DelOf k0 T (.mk c ps' ks') key → DelRes D w k0 T key (.returned (.pointer (some ⟨c, 0, none⟩))) w') := Lib.hid (fun w' ps' ks' xs' h hp => by
    obtain ⟨_, _, _, _, h⟩ := h
    exact ⟨_, rfl, h.nd.dom (fun b hb => hb.imp id (Nat.le_trans HB1.out.size)), HB1.out.trans (h.below.mono HB1.out.size), hp⟩)
  obtain ⟨jp, cv, rfl, rfl, hcv, hcm, hjpl⟩ := hon.pairAt (by rw [hps]; have := HH.out; omega)
  obtain ⟨m, hm⟩ : ∃ m, ps.length = m + 1 := ⟨ps.length - 1, by rw [hps]; have := HH.out; omega⟩
  have hon : ONx D w1 q c (some jp) kk (.slice (some ⟨jp, 0, none⟩) (m + 1) cv) vk ps ks xs := by rw [hm] at hon; exact hon
  rw [hm] at hcv
  have HNV := Lib.hid hm
  have HON := Lib.hid hon
  have hcm2 : cv ≤ 9223372036854775807 := hcm
  have HTW : Hid (tg < w1.heap.size) := Lib.hid (Nat.lt_of_lt_of_le HTGL.out HB1.out.size)
  have HIE0 : Hid (i ≤ T.ps.length) := Lib.hid HPL.out.1
  clear hps hks hxs hcm hjpl HON0 HPA ct0
  by_cases hk0 : T.ks = []
  · have HLF : Hid (Calls Try.prog 69 #[.pointer (some ⟨tg, 0, none⟩)] q fun e w' => e = .returned (.bool true) ∧ q = w') := Lib.hid (by
      have := leaf_any (HT.out.under HBQ0.out).nd
      rw [← HTG.out, hk0] at this
      exact this)
    have hfd : ∃ h : i < T.ps.length, T.ps[i].k = key := place_found (Sorted.ps ((wf_iff _ _).2 ⟨HH.out.2, HS.out⟩) HSO.out) HPL.out (by have := HMEM.out; rw [toL_eq, hk0, toLs_leaf] at this; exact this)
    have him : i ≤ m := by have := hfd.1; rw [← HPS.out] at this; omega
    have HRES2 : Hid (∀ (w' : World), ON D w1 w' c (ps.take i ++ ps.drop (i + 1)) ks xs → DelRes D w k0 T key (.returned (.pointer (some ⟨c, 0, none⟩))) w') := Lib.hid (fun w' h => HFIN.out w' _ _ _ h (by rw [HPS.out, HKS.out, ← hfd.2]; exact del_leafT HS.out hk0 HSO.out hfd.1))
    obtain ⟨-, c0, -, -, -⟩ := hon.facts
    have HDP := Lib.hid (fun y hy => deleteP_any q jp (.slice (some ⟨jp, 0, none⟩) (m + 1) cv) m (pcells ps) i (i : Int) y rfl hy (by have := hon.hp; rwa [hm] at this) (pcells_one ps) him (by have := HH.out; rw [← HPS.out] at this; omega))
    have hiw : IntKind.i64.wrap ((i : Int) + 1) = (i : Int) + 1 := i64_id _ (by omega) (by have := HH.out; rw [← HPS.out] at this; omega)
    have HIM := Lib.hid him
    clear hm hk0 hfd him hon
    go_wp2_with (first
      | (go_at_call 69; refine HLF.out.mono ?_; rintro e w4 ⟨rfl, rfl⟩)
      | (go_at_call 74; refine (HDP.out _ (by first | rfl | omega)).mono ?_; rintro e q3 ⟨v3, rfl, ho, hr⟩; obtain ⟨a3, c3, rfl, -⟩ := id ho.sl; have hgp := hr.2.heap HON.out.blk HON.out.d1; have cg0 := cell_of_row q3 c 0 _ _ _ hgp; have fg0 := frozen_of_row q3 c 0 _ _ hgp; have HO3 := Lib.hid ho; have HR3 := Lib.hid hr; clear ho hr hgp))
    go_ret
    refine HRES2.out _ ⟨_, _, _, _, HON.out.newP2 ?_ HR3.out⟩
    have e1 : (ps.take i ++ ps.drop (i + 1)).length = m := by have := HNV.out; have := HIM.out; simp only [List.length_append, List.length_take, List.length_drop]; omega
    rw [e1, pcells_del ps i (by have := HNV.out; have := HIM.out; omega)]
    exact HO3.out
  · have hkl : T.ks.length = T.ps.length + 1 := by
      rcases HS.out.lens with h | h
      · exact absurd h hk0
      · exact h
    obtain ⟨k, rfl⟩ : ∃ k, k0 = k + 1 := by
      rcases HS.out with ⟨-, h⟩ | ⟨h, -⟩
      · exact absurd h hk0
      · exact ⟨k0 - 1, by omega⟩
    have hkw : ∀ x ∈ T.ks, x.Wf (k + 1) ∧ 3 ≤ x.ps.length := by
      rcases HS.out with ⟨h, -⟩ | ⟨-, -, h⟩
      · omega
      · exact h
    have hik : i < T.ks.length := by have := HIE0.out; omega
    obtain ⟨C, hC⟩ : ∃ C, C = T.ks[i]'hik := ⟨_, rfl⟩
    have hCm : C ∈ T.ks := by rw [hC]; exact List.getElem_mem hik
    have hCw := hkw C hCm
    have hCs := (wf_iff _ _).1 hCw.1
    have HLF : Hid (Calls Try.prog 69 #[.pointer (some ⟨tg, 0, none⟩)] q fun e w' => e = .returned (.bool false) ∧ q = w') := Lib.hid (by
      have := leaf_any (HT.out.under HBQ0.out).nd
      rw [← HTG.out, decide_eq_false (by omega)] at this
      exact this)
    obtain ⟨jk, kc, rfl, rfl, hkc, hkm, -, -⟩ := hon.kidAt (by rw [HKS.out]; omega)
    have hiks : i < ks.length := by rw [HKS.out]; exact hik
    have hmT := HTK.out.1
    rw [List.length_map] at hmT
    have hmT2 : ks.length = mT := by rw [HKS.out]; exact hmT
    rw [hmT2] at hkc
    have hon : ONx D w1 q c (some jp) (some jk) (.slice (some ⟨jp, 0, none⟩) (m + 1) cv) (.slice (some ⟨jk, 0, none⟩) mT kc) ps ks xs := by rw [hmT2] at hon; exact hon
    have HON : Hid (ONx D w1 q c (some jp) (some jk) (.slice (some ⟨jp, 0, none⟩) (m + 1) cv) (.slice (some ⟨jk, 0, none⟩) mT kc) ps ks xs) := Lib.hid hon
    obtain ⟨bk, ok, -, hbk, rfl, hkcell⟩ := HTK.out.cells (by omega)
    have hko := hkcell i (by rw [List.length_map]; exact hik)
    rw [List.getElem_map, ← hC] at hko
    obtain ⟨ob, hob⟩ : ∃ ob, ob = ok + i := ⟨_, rfl⟩
    rw [← hob] at hko
    have hob2 : ok + i = ob := hob.symm
    obtain ⟨kg, hkg⟩ : ∃ kg, kg = C.g := ⟨_, rfl⟩
    rw [← hkg] at hko
    have CTW : Hid (w1.cell? ⟨tg, 1, none⟩ = some (.slice (some ⟨bk, ok, none⟩) mT eT)) := CTW0
    have HBW := Lib.hid hbk
    have CKW := Lib.hid hko
    have HCM : Hid (C ∈ ks) := Lib.hid (by rw [HKS.out]; exact hCm)
    have hik2 : (i : Int) < (mT : Int) := by omega
    have hkm2 : kc ≤ 9223372036854775807 := hkm
    have heT : eT ≤ 9223372036854775807 := HTK.out.2.2.2.1
    have hmeT : mT ≤ eT := HTK.out.2.2.1
    have hsoT : Sorted (toLs T.ps T.ks) := by rw [← toL_eq]; exact HSO.out
    have HSK : Hid (Sorted C.toL) := Lib.hid (by
      have h := toLs_split T.ps T.ks i hik hkl
      rw [h] at hsoT
      rw [hC]
      exact (sorted_app.1 (sorted_app.1 hsoT).2.1).1)
    have HMG : Hid (∀ (ps2 : List KV) (y : ByteArray) (r : BT), ps2.length = T.ps.length → DelOf k C r y → ∀ (u : World) (ys : List BT), ON D w1 u c ps2 (ks.set i r) ys → Calls Try.prog 72 #[.pointer (some ⟨c, 0, none⟩), .int .i64 (i : Int)] u fun e w' => e = .returned (.tuple #[]) ∧ ∃ ps' ks', ON D w1 w' c ps' ks' ys ∧ Mended k r.ps.length ps2 (T.ks.set i r) ps' ks') := Lib.hid (fun ps2 y r hp2 hr u ys h => by
      rw [HKS.out] at h
      have hg : (T.ks.set i r)[i]'(by rw [List.length_set]; exact hik) = r := List.getElem_set_self _
      have := mend_any h k i (by rw [List.length_set]; exact hik) (by rw [List.length_set, hp2]; exact hkl) (by have := HH.out; omega) (by have := HH.out; omega) (fun j hj hji => by
        rw [List.length_set] at hj
        rw [List.getElem_set_ne (Ne.symm hji)]
        exact hkw _ (List.getElem_mem hj)) (by rw [hg]; exact hr.sh) (by rw [hg]; have := hr.low; omega) (by rw [hg]; have := hr.high; omega)
      rw [hg] at this
      exact this)
    have HRG : Hid (∀ (ps2 : List KV) (y : ByteArray) (r : BT), ps2.length = T.ps.length → DelOf k C r y → (r.toL = delL C.toL y → delL T.toL key = toLs ps2 (T.ks.set i r)) → ∀ (w' : World) (ps' : List KV) (ks' ys : List BT), ON D w1 w' c ps' ks' ys → Mended k r.ps.length ps2 (T.ks.set i r) ps' ks' → DelRes D w (k + 1) T key (.returned (.pointer (some ⟨c, 0, none⟩))) w') := Lib.hid (fun ps2 y r hp2 hr hlist w' ps' ks' ys h hm => HFIN.out w' _ _ _ h (del_innerT hik hp2 (by rw [← hC]; exact hr) (by rw [← hC]; exact hCs.1) (hlist hr.list) hm))
    have HBQ : Hid (Below w1.heap.size w1 q) := Lib.hid HON.out.below
    have HCL : Hid (c < q.heap.size) := Lib.hid HON.out.facts.1
    have C0 : Hid (q.cell? ⟨c, 0, none⟩ = some (.slice (some ⟨jp, 0, none⟩) (m + 1) cv)) := Lib.hid HON.out.facts.2.1
    have C1 : Hid (q.cell? ⟨c, 1, none⟩ = some (.slice (some ⟨jk, 0, none⟩) mT kc)) := Lib.hid HON.out.facts.2.2.1
    have HTL : Hid (tg < q.heap.size) := Lib.hid (Nat.lt_of_lt_of_le HTW.out HBQ.out.size)
    have CT1 : Hid (q.cell? ⟨tg, 1, none⟩ = some (.slice (some ⟨bk, ok, none⟩) mT eT)) := Lib.hid ((HBQ.out.cell (p := ⟨tg, 1, none⟩) HTW.out).trans CTW.out)
    have HBK : Hid (bk < q.heap.size) := Lib.hid (Nat.lt_of_lt_of_le HBW.out HBQ.out.size)
    have CKG : Hid (q.cell? ⟨bk, ob, none⟩ = some (.pointer (some ⟨kg, 0, none⟩))) := Lib.hid ((HBQ.out.cell (p := ⟨bk, ob, none⟩) HBW.out).trans CKW.out)
    have HJC : Hid (jk < q.heap.size ∧ q.cell? ⟨jk, i, none⟩ = some (.pointer (some ⟨(ks[i]'hiks).g, 0, none⟩)) ∧ q.frozen? ⟨jk, i, none⟩ = false) := Lib.hid (by
      obtain ⟨j2, c2, e1, e2, -, -, h3, h4⟩ := HON.out.kidAt (by omega)
      cases e1
      exact ⟨h3, h4 i hiks⟩)
    by_cases hfd : ∃ h : i < T.ps.length, T.ps[i].k = key
    · rw [decide_eq_true hfd]
      obtain ⟨hit, hkey⟩ := hfd
      have hips : i < ps.length := by rw [HPS.out]; exact hit
      have hips2 : (i : Int) < (m : Int) + 1 := by omega
      obtain ⟨lq, hlq⟩ : ∃ lq, C.toL.getLast? = some lq := by
        cases h : C.toL.getLast? with
        | none => exact absurd (List.getLast?_eq_none_iff.1 h) (toL_ne k C hCs.2 (by omega))
        | some lq => exact ⟨lq, rfl⟩
      obtain ⟨AL, hAL⟩ : ∃ AL, C.toL = AL ++ [lq] := by
        obtain ⟨l, hl⟩ := List.getLast?_eq_some_iff.1 hlq
        exact ⟨l, hl⟩
      have HLAST : Hid (∀ (E : Nat → Prop) (u : World), NdD E u C → Calls Try.prog 75 #[.pointer (some ⟨kg, 0, none⟩)] u fun e w' => e = .returned (.agg #[.string lq.k, .string lq.v]) ∧ Below u.heap.size u w') := Lib.hid (fun E u h => by rw [hkg]; exact last_any h k hCs.2 ⟨by omega, hCs.1⟩ lq hlq)
      have HRECF : Hid (∀ (E : Nat → Prop) (u : World), NdD E u C → Calls Try.prog 54 #[.pointer (some ⟨kg, 0, none⟩), .string lq.k] u (DelRes E u k C lq.k)) := Lib.hid (fun E u h => by rw [hkg]; exact HRC.out E u C lq.k hCm HSK.out h ⟨lq, by rw [hAL]; simp, rfl⟩)
      have hlen2 : (ps.set i lq).length = T.ps.length := by rw [List.length_set, HPS.out]
      have HMENDF := Lib.hid (fun (r : BT) (hr : DelOf k C r lq.k) => HMG.out (ps.set i lq) lq.k r hlen2 hr)
      have HRESF := Lib.hid (fun (r : BT) (hr : DelOf k C r lq.k) => HRG.out (ps.set i lq) lq.k r hlen2 hr (fun hl => by
        rw [toL_eq, HPS.out, ← hkey]
        exact del_inner_old hkl hsoT hit r AL lq (by rw [← hC]; exact hAL) (by rw [hl, hAL])))
      have HSETC : Hid (∀ u : World, ONx D w1 u c (some jp) (some jk) (.slice (some ⟨jp, 0, none⟩) (m + 1) cv) (.slice (some ⟨jk, 0, none⟩) mT kc) (ps.set i lq) ks xs → u.cell? ⟨jp, i * 2, none⟩ = some (.string lq.k)) := Lib.hid (fun u h => by
        have := h.pairCell i (by rw [List.length_set]; exact hips)
        rw [List.getElem_set_self] at this
        exact this)
      clear hm hk0 hon hkw hC hCm hCw hCs hkm hmT hkcell hko hkg hbk hkl hkc hsoT hlq hAL hlen2 hkey hit hob hik
      go_upto_region 7 with (go_at_call 69; refine HLF.out.mono ?_; rintro e w4 ⟨rfl, rfl⟩)
      refine Roll.region_f 13 77 Dre7 Lre7 [(0, .pointer (some ⟨tg, 0, none⟩)), (1, .string key), (5, .int .i64 (i : Int)), (7, .pointer (some ⟨c, 0, none⟩))] (fun p => Below q.heap.size q p) (fun p p2 => Below p.heap.size p p2) [fun vv p => vv = .pointer (some ⟨c, 0, none⟩), fun vv p => vv = .pointer (some ⟨c, 0, none⟩), fun vv p => vv = .pointer (some ⟨c, 0, none⟩), fun vv p => vv = .slice (some ⟨jp, 0, none⟩) (m + 1) cv, fun vv p => vv = .int .i64 (i : Int), fun vv p => vv = .pointer (some ⟨tg, 0, none⟩), fun vv p => vv = .pointer (some ⟨tg, 0, none⟩), fun vv p => vv = .pointer (some ⟨tg, 1, none⟩), fun vv p => vv = .slice (some ⟨bk, ok, none⟩) mT eT, fun vv p => vv = .int .i64 (i : Int), fun vv p => vv = .pointer (some ⟨bk, ob, none⟩), fun vv p => vv = .pointer (some ⟨kg, 0, none⟩), fun vv p => vv = .agg #[.string lq.k, .string lq.v]] (by kernel_rfl) (by kernel_rfl) rfl ⟨rfl, rfl, rfl, rfl, trivial⟩ ((Below.refl _ _).drew) ?_ ?_ ?_
      · exact ⟨fun _ _ _ _ h => h, fun _ _ _ _ h => h, fun _ _ _ _ h => h, fun _ _ _ _ h => h, fun _ _ _ _ h => h, fun _ _ _ _ h => h, fun _ _ _ _ h => h, fun _ _ _ _ h => h, fun _ _ _ _ h => h, fun _ _ _ _ h => h, fun _ _ _ _ h => h, fun _ _ _ _ h => h, fun _ _ _ _ h => h, trivial⟩
      · intro b0 hN hlv
        refine ⟨?_, ?_, ?_, ?_, ?_, ?_, ?_, ?_, ?_, ?_, ?_, ?_, ?_, trivial⟩
        · intro vs p hI hp
          have e7 : (Roll.putD Dre7 vs [] b0).eval (.tmp 7) = .pointer (some ⟨c, 0, none⟩) := (Roll.eval_old rfl).trans (hlv.at 3 (7, .pointer (some ⟨c, 0, none⟩)) rfl)
          clear hp hlv hN
          unfold Roll.Goes
          simp only [Lre7, List.getD_cons_zero, List.getD_cons_succ]
          generalize Roll.putD Dre7 vs [] b0 = a1 at *
          refine Roll.goes_val (w' := p) (.pointer (some ⟨c, 0, none⟩)) rfl ?_ ⟨hI, Below.refl _ _, rfl⟩
          (have ec : ∀ x, a1.eval (.const x) = x := fun _ => rfl); (have ef : ∀ x, a1.eval (.func x) = .func (.func x) #[] #[] := fun _ => rfl); generalize a1.eval = ρ at *
          skip
          go_simp <;> (intros; first | (exfalso; omega) | rfl)
        · intro vs p hI hp
          have h0 : (vs 0) = .pointer (some ⟨c, 0, none⟩) := hp 0 (by simp [Lre7])
          have e36 : (Roll.putD Dre7 vs [0] b0).eval (.tmp 36) = .pointer (some ⟨c, 0, none⟩) := (Roll.eval_new 0 rfl (by decide) (by decide) (by omega)).trans h0
          clear hp hlv hN
          unfold Roll.Goes
          simp only [Lre7, List.getD_cons_zero, List.getD_cons_succ]
          generalize Roll.putD Dre7 vs [0] b0 = a1 at *
          refine Roll.goes_val (w' := p) (.pointer (some ⟨c, 0, none⟩)) rfl ?_ ⟨hI, Below.refl _ _, rfl⟩
          (have ec : ∀ x, a1.eval (.const x) = x := fun _ => rfl); (have ef : ∀ x, a1.eval (.func x) = .func (.func x) #[] #[] := fun _ => rfl); generalize a1.eval = ρ at *
          clear h0
          go_simp <;> (intros; first | (exfalso; omega) | rfl)
        · intro vs p hI hp
          have h1 : (vs 1) = .pointer (some ⟨c, 0, none⟩) := hp 1 (by simp [Lre7])
          have e37 : (Roll.putD Dre7 vs [1] b0).eval (.tmp 37) = .pointer (some ⟨c, 0, none⟩) := (Roll.eval_new 1 rfl (by decide) (by decide) (by omega)).trans h1
          clear hp hlv hN
          unfold Roll.Goes
          simp only [Lre7, List.getD_cons_zero, List.getD_cons_succ]
          generalize Roll.putD Dre7 vs [1] b0 = a1 at *
          refine Roll.goes_val (w' := p) (.pointer (some ⟨c, 0, none⟩)) rfl ?_ ⟨hI, Below.refl _ _, rfl⟩
          (have ec : ∀ x, a1.eval (.const x) = x := fun _ => rfl); (have ef : ∀ x, a1.eval (.func x) = .func (.func x) #[] #[] := fun _ => rfl); generalize a1.eval = ρ at *
          clear h1
          go_simp <;> (intros; first | (exfalso; omega) | rfl)
        · intro vs p hI hp
          have h2 : (vs 2) = .pointer (some ⟨c, 0, none⟩) := hp 2 (by simp [Lre7])
          have e38 : (Roll.putD Dre7 vs [2] b0).eval (.tmp 38) = .pointer (some ⟨c, 0, none⟩) := (Roll.eval_new 2 rfl (by decide) (by decide) (by omega)).trans h2
          clear hp hlv hN
          unfold Roll.Goes
          simp only [Lre7, List.getD_cons_zero, List.getD_cons_succ]
          generalize Roll.putD Dre7 vs [2] b0 = a1 at *
          have cf : p.cell? ⟨c, 0, none⟩ = some (.slice (some ⟨jp, 0, none⟩) (m + 1) cv) := (hI.cell (p := ⟨c, 0, none⟩) HCL.out).trans C0.out
          refine Roll.goes_val (w' := p) (.slice (some ⟨jp, 0, none⟩) (m + 1) cv) rfl ?_ ⟨hI, Below.refl _ _, rfl⟩
          (have ec : ∀ x, a1.eval (.const x) = x := fun _ => rfl); (have ef : ∀ x, a1.eval (.func x) = .func (.func x) #[] #[] := fun _ => rfl); generalize a1.eval = ρ at *
          clear h2
          go_simp <;> (intros; first | (exfalso; omega) | rfl)
        · intro vs p hI hp
          have e5 : (Roll.putD Dre7 vs [] b0).eval (.tmp 5) = .int .i64 (i : Int) := (Roll.eval_old rfl).trans (hlv.at 2 (5, .int .i64 (i : Int)) rfl)
          clear hp hlv hN
          unfold Roll.Goes
          simp only [Lre7, List.getD_cons_zero, List.getD_cons_succ]
          generalize Roll.putD Dre7 vs [] b0 = a1 at *
          refine Roll.goes_val (w' := p) (.int .i64 (i : Int)) rfl ?_ ⟨hI, Below.refl _ _, rfl⟩
          (have ec : ∀ x, a1.eval (.const x) = x := fun _ => rfl); (have ef : ∀ x, a1.eval (.func x) = .func (.func x) #[] #[] := fun _ => rfl); generalize a1.eval = ρ at *
          skip
          go_simp <;> (intros; first | (exfalso; omega) | rfl)
        · intro vs p hI hp
          have e0 : (Roll.putD Dre7 vs [] b0).eval (.tmp 0) = .pointer (some ⟨tg, 0, none⟩) := (Roll.eval_old rfl).trans (hlv.at 0 (0, .pointer (some ⟨tg, 0, none⟩)) rfl)
          clear hp hlv hN
          unfold Roll.Goes
          simp only [Lre7, List.getD_cons_zero, List.getD_cons_succ]
          generalize Roll.putD Dre7 vs [] b0 = a1 at *
          refine Roll.goes_val (w' := p) (.pointer (some ⟨tg, 0, none⟩)) rfl ?_ ⟨hI, Below.refl _ _, rfl⟩
          (have ec : ∀ x, a1.eval (.const x) = x := fun _ => rfl); (have ef : ∀ x, a1.eval (.func x) = .func (.func x) #[] #[] := fun _ => rfl); generalize a1.eval = ρ at *
          skip
          go_simp <;> (intros; first | (exfalso; omega) | rfl)
        · intro vs p hI hp
          have h5 : (vs 5) = .pointer (some ⟨tg, 0, none⟩) := hp 5 (by simp [Lre7])
          have e41 : (Roll.putD Dre7 vs [5] b0).eval (.tmp 41) = .pointer (some ⟨tg, 0, none⟩) := (Roll.eval_new 5 rfl (by decide) (by decide) (by omega)).trans h5
          clear hp hlv hN
          unfold Roll.Goes
          simp only [Lre7, List.getD_cons_zero, List.getD_cons_succ]
          generalize Roll.putD Dre7 vs [5] b0 = a1 at *
          refine Roll.goes_val (w' := p) (.pointer (some ⟨tg, 0, none⟩)) rfl ?_ ⟨hI, Below.refl _ _, rfl⟩
          (have ec : ∀ x, a1.eval (.const x) = x := fun _ => rfl); (have ef : ∀ x, a1.eval (.func x) = .func (.func x) #[] #[] := fun _ => rfl); generalize a1.eval = ρ at *
          clear h5
          go_simp <;> (intros; first | (exfalso; omega) | rfl)
        · intro vs p hI hp
          have h6 : (vs 6) = .pointer (some ⟨tg, 0, none⟩) := hp 6 (by simp [Lre7])
          have e42 : (Roll.putD Dre7 vs [6] b0).eval (.tmp 42) = .pointer (some ⟨tg, 0, none⟩) := (Roll.eval_new 6 rfl (by decide) (by decide) (by omega)).trans h6
          clear hp hlv hN
          unfold Roll.Goes
          simp only [Lre7, List.getD_cons_zero, List.getD_cons_succ]
          generalize Roll.putD Dre7 vs [6] b0 = a1 at *
          refine Roll.goes_val (w' := p) (.pointer (some ⟨tg, 1, none⟩)) rfl ?_ ⟨hI, Below.refl _ _, rfl⟩
          (have ec : ∀ x, a1.eval (.const x) = x := fun _ => rfl); (have ef : ∀ x, a1.eval (.func x) = .func (.func x) #[] #[] := fun _ => rfl); generalize a1.eval = ρ at *
          clear h6
          go_simp <;> (intros; first | (exfalso; omega) | rfl)
        · intro vs p hI hp
          have h7 : (vs 7) = .pointer (some ⟨tg, 1, none⟩) := hp 7 (by simp [Lre7])
          have e43 : (Roll.putD Dre7 vs [7] b0).eval (.tmp 43) = .pointer (some ⟨tg, 1, none⟩) := (Roll.eval_new 7 rfl (by decide) (by decide) (by omega)).trans h7
          clear hp hlv hN
          unfold Roll.Goes
          simp only [Lre7, List.getD_cons_zero, List.getD_cons_succ]
          generalize Roll.putD Dre7 vs [7] b0 = a1 at *
          have cf : p.cell? ⟨tg, 1, none⟩ = some (.slice (some ⟨bk, ok, none⟩) mT eT) := (hI.cell (p := ⟨tg, 1, none⟩) HTL.out).trans CT1.out
          refine Roll.goes_val (w' := p) (.slice (some ⟨bk, ok, none⟩) mT eT) rfl ?_ ⟨hI, Below.refl _ _, rfl⟩
          (have ec : ∀ x, a1.eval (.const x) = x := fun _ => rfl); (have ef : ∀ x, a1.eval (.func x) = .func (.func x) #[] #[] := fun _ => rfl); generalize a1.eval = ρ at *
          clear h7
          go_simp <;> (intros; first | (exfalso; omega) | rfl)
        · intro vs p hI hp
          have e5 : (Roll.putD Dre7 vs [] b0).eval (.tmp 5) = .int .i64 (i : Int) := (Roll.eval_old rfl).trans (hlv.at 2 (5, .int .i64 (i : Int)) rfl)
          clear hp hlv hN
          unfold Roll.Goes
          simp only [Lre7, List.getD_cons_zero, List.getD_cons_succ]
          generalize Roll.putD Dre7 vs [] b0 = a1 at *
          refine Roll.goes_val (w' := p) (.int .i64 (i : Int)) rfl ?_ ⟨hI, Below.refl _ _, rfl⟩
          (have ec : ∀ x, a1.eval (.const x) = x := fun _ => rfl); (have ef : ∀ x, a1.eval (.func x) = .func (.func x) #[] #[] := fun _ => rfl); generalize a1.eval = ρ at *
          skip
          go_simp <;> (intros; first | (exfalso; omega) | rfl)
        · intro vs p hI hp
          have h8 : (vs 8) = .slice (some ⟨bk, ok, none⟩) mT eT := hp 8 (by simp [Lre7])
          have h9 : (vs 9) = .int .i64 (i : Int) := hp 9 (by simp [Lre7])
          have e44 : (Roll.putD Dre7 vs [8, 9] b0).eval (.tmp 44) = .slice (some ⟨bk, ok, none⟩) mT eT := (Roll.eval_new 8 rfl (by decide) (by decide) (by omega)).trans h8
          have e45 : (Roll.putD Dre7 vs [8, 9] b0).eval (.tmp 45) = .int .i64 (i : Int) := (Roll.eval_new 9 rfl (by decide) (by decide) (by omega)).trans h9
          clear hp hlv hN
          unfold Roll.Goes
          simp only [Lre7, List.getD_cons_zero, List.getD_cons_succ]
          generalize Roll.putD Dre7 vs [8, 9] b0 = a1 at *
          refine Roll.goes_val (w' := p) (.pointer (some ⟨bk, ob, none⟩)) rfl ?_ ⟨hI, Below.refl _ _, rfl⟩
          (have ec : ∀ x, a1.eval (.const x) = x := fun _ => rfl); (have ef : ∀ x, a1.eval (.func x) = .func (.func x) #[] #[] := fun _ => rfl); generalize a1.eval = ρ at *
          clear h8 h9
          go_simp <;> (intros; first | (exfalso; omega) | rfl)
        · intro vs p hI hp
          have h10 : (vs 10) = .pointer (some ⟨bk, ob, none⟩) := hp 10 (by simp [Lre7])
          have e46 : (Roll.putD Dre7 vs [10] b0).eval (.tmp 46) = .pointer (some ⟨bk, ob, none⟩) := (Roll.eval_new 10 rfl (by decide) (by decide) (by omega)).trans h10
          clear hp hlv hN
          unfold Roll.Goes
          simp only [Lre7, List.getD_cons_zero, List.getD_cons_succ]
          generalize Roll.putD Dre7 vs [10] b0 = a1 at *
          have cf : p.cell? ⟨bk, ob, none⟩ = some (.pointer (some ⟨kg, 0, none⟩)) := (hI.cell (p := ⟨bk, ob, none⟩) HBK.out).trans CKG.out
          refine Roll.goes_val (w' := p) (.pointer (some ⟨kg, 0, none⟩)) rfl ?_ ⟨hI, Below.refl _ _, rfl⟩
          (have ec : ∀ x, a1.eval (.const x) = x := fun _ => rfl); (have ef : ∀ x, a1.eval (.func x) = .func (.func x) #[] #[] := fun _ => rfl); generalize a1.eval = ρ at *
          clear h10
          go_simp <;> (intros; first | (exfalso; omega) | rfl)
        · intro vs p hI hp
          have h11 : (vs 11) = .pointer (some ⟨kg, 0, none⟩) := hp 11 (by simp [Lre7])
          have e47 : (Roll.putD Dre7 vs [11] b0).eval (.tmp 47) = .pointer (some ⟨kg, 0, none⟩) := (Roll.eval_new 11 rfl (by decide) (by decide) (by omega)).trans h11
          clear hp hlv hN
          unfold Roll.Goes
          simp only [Lre7, List.getD_cons_zero, List.getD_cons_succ]
          generalize Roll.putD Dre7 vs [11] b0 = a1 at *
          refine Roll.goes_call 75 #[.pointer (some ⟨kg, 0, none⟩)] p rfl (by have ec : ∀ x, a1.eval (.const x) = x := fun _ => rfl; have ef : ∀ x, a1.eval (.func x) = .func (.func x) #[] #[] := fun _ => rfl; generalize a1.eval = ρ at *; go_simp) ?_
          have hc := HLAST.out (Off D w1.heap.size c (some jp) (some jk)) p ((HON.out.kids C (List.mem_append.2 (.inl HCM.out))).under hI)
          refine hc.mono ?_
          rintro y p2 ⟨rfl, hb2⟩
          exact ⟨_, rfl, hI.trans (hb2.mono hI.size), hb2, rfl⟩
      · intro vs p hI hR
        have h0 : (vs 0) = .pointer (some ⟨c, 0, none⟩) := hR 0 (by omega)
        have h1 : (vs 1) = .pointer (some ⟨c, 0, none⟩) := hR 1 (by omega)
        have h2 : (vs 2) = .pointer (some ⟨c, 0, none⟩) := hR 2 (by omega)
        have h3 : (vs 3) = .slice (some ⟨jp, 0, none⟩) (m + 1) cv := hR 3 (by omega)
        have h4 : (vs 4) = .int .i64 (i : Int) := hR 4 (by omega)
        have h5 : (vs 5) = .pointer (some ⟨tg, 0, none⟩) := hR 5 (by omega)
        have h6 : (vs 6) = .pointer (some ⟨tg, 0, none⟩) := hR 6 (by omega)
        have h7 : (vs 7) = .pointer (some ⟨tg, 1, none⟩) := hR 7 (by omega)
        have h8 : (vs 8) = .slice (some ⟨bk, ok, none⟩) mT eT := hR 8 (by omega)
        have h9 : (vs 9) = .int .i64 (i : Int) := hR 9 (by omega)
        have h10 : (vs 10) = .pointer (some ⟨bk, ob, none⟩) := hR 10 (by omega)
        have h11 : (vs 11) = .pointer (some ⟨kg, 0, none⟩) := hR 11 (by omega)
        have h12 : (vs 12) = .agg #[.string lq.k, .string lq.v] := hR 12 (by omega)
        clear hR
        simp only [List.range_succ, List.range_zero, List.nil_append, List.cons_append, Roll.putD, Act.put, List.getD_cons_zero, List.getD_cons_succ, List.setIfInBounds_toArray, List.set_cons_zero, List.set_cons_succ, List.drop_succ_cons, List.drop_zero, Dre7]
        simp only [h0, h1, h2, h3, h4, h5, h6, h7, h8, h9, h10, h11, h12]
        clear h0 h1 h2 h3 h4 h5 h6 h7 h8 h9 h10 h11 h12
        have th := (HON.out.under hI).there i hips
        have st0 := run_storePairAt p jp (i * 2) lq.k lq.v th
        clear th
        have HON2 : Hid (ONx D w1 (p.setCells jp (i * 2) (KV.mk lq.k lq.v).cells) c (some jp) (some jk) (.slice (some ⟨jp, 0, none⟩) (m + 1) cv) (.slice (some ⟨jk, 0, none⟩) mT kc) (ps.set i lq) ks xs) := Lib.hid ((HON.out.under hI).setP i hips lq)
        clear hI
        go_upto_region 8 with fail
        obtain ⟨q7, hq7⟩ : ∃ q7, q7 = p.setCells jp (i * 2) (KV.mk lq.k lq.v).cells := ⟨_, rfl⟩
        rw [← hq7] at HON2 ⊢
        clear hq7 st0 HON HCL C0 C1 HTL CT1 HBK CKG HJC HBQ
        obtain ⟨q, hq⟩ : ∃ q, q = q7 := ⟨_, rfl⟩
        subst hq
        have HON := HON2
        clear HON2
        have HBQ : Hid (Below w1.heap.size w1 q) := Lib.hid HON.out.below
        have HCL : Hid (c < q.heap.size) := Lib.hid HON.out.facts.1
        have C0 : Hid (q.cell? ⟨c, 0, none⟩ = some (.slice (some ⟨jp, 0, none⟩) (m + 1) cv)) := Lib.hid HON.out.facts.2.1
        have C1 : Hid (q.cell? ⟨c, 1, none⟩ = some (.slice (some ⟨jk, 0, none⟩) mT kc)) := Lib.hid HON.out.facts.2.2.1
        have HTL : Hid (tg < q.heap.size) := Lib.hid (Nat.lt_of_lt_of_le HTW.out HBQ.out.size)
        have CT1 : Hid (q.cell? ⟨tg, 1, none⟩ = some (.slice (some ⟨bk, ok, none⟩) mT eT)) := Lib.hid ((HBQ.out.cell (p := ⟨tg, 1, none⟩) HTW.out).trans CTW.out)
        have HBK : Hid (bk < q.heap.size) := Lib.hid (Nat.lt_of_lt_of_le HBW.out HBQ.out.size)
        have CKG : Hid (q.cell? ⟨bk, ob, none⟩ = some (.pointer (some ⟨kg, 0, none⟩))) := Lib.hid ((HBQ.out.cell (p := ⟨bk, ob, none⟩) HBW.out).trans CKW.out)
        have HJC : Hid (jk < q.heap.size ∧ q.cell? ⟨jk, i, none⟩ = some (.pointer (some ⟨(ks[i]'hiks).g, 0, none⟩)) ∧ q.frozen? ⟨jk, i, none⟩ = false) := Lib.hid (by
          obtain ⟨j2, c2, e1, e2, -, -, h3, h4⟩ := HON.out.kidAt (by omega)
          cases e1
          exact ⟨h3, h4 i hiks⟩)
        have cpk : q.cell? ⟨jp, i * 2, none⟩ = some (.string lq.k) := HSETC.out q HON.out
        have c0q := C0.out
        go_upto_region 9 with fail
        clear cpk c0q
        refine Roll.region_f 14 77 Dre9 Lre9 [(0, .pointer (some ⟨tg, 0, none⟩)), (1, .string lq.k), (5, .int .i64 (i : Int)), (7, .pointer (some ⟨c, 0, none⟩))] (fun p => Below q.heap.size q p) (fun p p2 => Below p.heap.size p p2) [fun vv p => vv = .pointer (some ⟨c, 0, none⟩), fun vv p => vv = .pointer (some ⟨c, 0, none⟩), fun vv p => vv = .pointer (some ⟨c, 1, none⟩), fun vv p => vv = .slice (some ⟨jk, 0, none⟩) mT kc, fun vv p => vv = .int .i64 (i : Int), fun vv p => vv = .pointer (some ⟨tg, 0, none⟩), fun vv p => vv = .pointer (some ⟨tg, 0, none⟩), fun vv p => vv = .pointer (some ⟨tg, 1, none⟩), fun vv p => vv = .slice (some ⟨bk, ok, none⟩) mT eT, fun vv p => vv = .int .i64 (i : Int), fun vv p => vv = .pointer (some ⟨bk, ob, none⟩), fun vv p => vv = .pointer (some ⟨kg, 0, none⟩), fun vv p => vv = .string lq.k, fun vv p => ∃ r : BT, vv = .pointer (some ⟨r.g, 0, none⟩) ∧ NdD (fun b => Off D w1.heap.size c (some jp) (some jk) b ∨ q.heap.size ≤ b) p r ∧ DelOf k C r lq.k] (by kernel_rfl) (by kernel_rfl) rfl ⟨rfl, rfl, rfl, rfl, trivial⟩ ((Below.refl _ _).drew) ?_ ?_ ?_
        · exact ⟨fun _ _ _ _ h => h, fun _ _ _ _ h => h, fun _ _ _ _ h => h, fun _ _ _ _ h => h, fun _ _ _ _ h => h, fun _ _ _ _ h => h, fun _ _ _ _ h => h, fun _ _ _ _ h => h, fun _ _ _ _ h => h, fun _ _ _ _ h => h, fun _ _ _ _ h => h, fun _ _ _ _ h => h, fun _ _ _ _ h => h, fun _ _ _ hs h => by obtain ⟨r, e1, e2, e3⟩ := h; exact ⟨r, e1, e2.under hs, e3⟩, trivial⟩
        · intro b0 hN hlv
          refine ⟨?_, ?_, ?_, ?_, ?_, ?_, ?_, ?_, ?_, ?_, ?_, ?_, ?_, ?_, trivial⟩
          · intro vs p hI hp
            have e7 : (Roll.putD Dre9 vs [] b0).eval (.tmp 7) = .pointer (some ⟨c, 0, none⟩) := (Roll.eval_old rfl).trans (hlv.at 3 (7, .pointer (some ⟨c, 0, none⟩)) rfl)
            clear hp hlv hN
            unfold Roll.Goes
            simp only [Lre9, List.getD_cons_zero, List.getD_cons_succ]
            generalize Roll.putD Dre9 vs [] b0 = a1 at *
            refine Roll.goes_val (w' := p) (.pointer (some ⟨c, 0, none⟩)) rfl ?_ ⟨hI, Below.refl _ _, rfl⟩
            (have ec : ∀ x, a1.eval (.const x) = x := fun _ => rfl); (have ef : ∀ x, a1.eval (.func x) = .func (.func x) #[] #[] := fun _ => rfl); generalize a1.eval = ρ at *
            skip
            go_simp <;> (intros; first | (exfalso; omega) | rfl)
          · intro vs p hI hp
            have h0 : (vs 0) = .pointer (some ⟨c, 0, none⟩) := hp 0 (by simp [Lre9])
            have e58 : (Roll.putD Dre9 vs [0] b0).eval (.tmp 58) = .pointer (some ⟨c, 0, none⟩) := (Roll.eval_new 0 rfl (by decide) (by decide) (by omega)).trans h0
            clear hp hlv hN
            unfold Roll.Goes
            simp only [Lre9, List.getD_cons_zero, List.getD_cons_succ]
            generalize Roll.putD Dre9 vs [0] b0 = a1 at *
            refine Roll.goes_val (w' := p) (.pointer (some ⟨c, 0, none⟩)) rfl ?_ ⟨hI, Below.refl _ _, rfl⟩
            (have ec : ∀ x, a1.eval (.const x) = x := fun _ => rfl); (have ef : ∀ x, a1.eval (.func x) = .func (.func x) #[] #[] := fun _ => rfl); generalize a1.eval = ρ at *
            clear h0
            go_simp <;> (intros; first | (exfalso; omega) | rfl)
          · intro vs p hI hp
            have h1 : (vs 1) = .pointer (some ⟨c, 0, none⟩) := hp 1 (by simp [Lre9])
            have e59 : (Roll.putD Dre9 vs [1] b0).eval (.tmp 59) = .pointer (some ⟨c, 0, none⟩) := (Roll.eval_new 1 rfl (by decide) (by decide) (by omega)).trans h1
            clear hp hlv hN
            unfold Roll.Goes
            simp only [Lre9, List.getD_cons_zero, List.getD_cons_succ]
            generalize Roll.putD Dre9 vs [1] b0 = a1 at *
            refine Roll.goes_val (w' := p) (.pointer (some ⟨c, 1, none⟩)) rfl ?_ ⟨hI, Below.refl _ _, rfl⟩
            (have ec : ∀ x, a1.eval (.const x) = x := fun _ => rfl); (have ef : ∀ x, a1.eval (.func x) = .func (.func x) #[] #[] := fun _ => rfl); generalize a1.eval = ρ at *
            clear h1
            go_simp <;> (intros; first | (exfalso; omega) | rfl)
          · intro vs p hI hp
            have h2 : (vs 2) = .pointer (some ⟨c, 1, none⟩) := hp 2 (by simp [Lre9])
            have e60 : (Roll.putD Dre9 vs [2] b0).eval (.tmp 60) = .pointer (some ⟨c, 1, none⟩) := (Roll.eval_new 2 rfl (by decide) (by decide) (by omega)).trans h2
            clear hp hlv hN
            unfold Roll.Goes
            simp only [Lre9, List.getD_cons_zero, List.getD_cons_succ]
            generalize Roll.putD Dre9 vs [2] b0 = a1 at *
            have cf : p.cell? ⟨c, 1, none⟩ = some (.slice (some ⟨jk, 0, none⟩) mT kc) := (hI.cell (p := ⟨c, 1, none⟩) HCL.out).trans C1.out
            refine Roll.goes_val (w' := p) (.slice (some ⟨jk, 0, none⟩) mT kc) rfl ?_ ⟨hI, Below.refl _ _, rfl⟩
            (have ec : ∀ x, a1.eval (.const x) = x := fun _ => rfl); (have ef : ∀ x, a1.eval (.func x) = .func (.func x) #[] #[] := fun _ => rfl); generalize a1.eval = ρ at *
            clear h2
            go_simp <;> (intros; first | (exfalso; omega) | rfl)
          · intro vs p hI hp
            have e5 : (Roll.putD Dre9 vs [] b0).eval (.tmp 5) = .int .i64 (i : Int) := (Roll.eval_old rfl).trans (hlv.at 2 (5, .int .i64 (i : Int)) rfl)
            clear hp hlv hN
            unfold Roll.Goes
            simp only [Lre9, List.getD_cons_zero, List.getD_cons_succ]
            generalize Roll.putD Dre9 vs [] b0 = a1 at *
            refine Roll.goes_val (w' := p) (.int .i64 (i : Int)) rfl ?_ ⟨hI, Below.refl _ _, rfl⟩
            (have ec : ∀ x, a1.eval (.const x) = x := fun _ => rfl); (have ef : ∀ x, a1.eval (.func x) = .func (.func x) #[] #[] := fun _ => rfl); generalize a1.eval = ρ at *
            skip
            go_simp <;> (intros; first | (exfalso; omega) | rfl)
          · intro vs p hI hp
            have e0 : (Roll.putD Dre9 vs [] b0).eval (.tmp 0) = .pointer (some ⟨tg, 0, none⟩) := (Roll.eval_old rfl).trans (hlv.at 0 (0, .pointer (some ⟨tg, 0, none⟩)) rfl)
            clear hp hlv hN
            unfold Roll.Goes
            simp only [Lre9, List.getD_cons_zero, List.getD_cons_succ]
            generalize Roll.putD Dre9 vs [] b0 = a1 at *
            refine Roll.goes_val (w' := p) (.pointer (some ⟨tg, 0, none⟩)) rfl ?_ ⟨hI, Below.refl _ _, rfl⟩
            (have ec : ∀ x, a1.eval (.const x) = x := fun _ => rfl); (have ef : ∀ x, a1.eval (.func x) = .func (.func x) #[] #[] := fun _ => rfl); generalize a1.eval = ρ at *
            skip
            go_simp <;> (intros; first | (exfalso; omega) | rfl)
          · intro vs p hI hp
            have h5 : (vs 5) = .pointer (some ⟨tg, 0, none⟩) := hp 5 (by simp [Lre9])
            have e63 : (Roll.putD Dre9 vs [5] b0).eval (.tmp 63) = .pointer (some ⟨tg, 0, none⟩) := (Roll.eval_new 5 rfl (by decide) (by decide) (by omega)).trans h5
            clear hp hlv hN
            unfold Roll.Goes
            simp only [Lre9, List.getD_cons_zero, List.getD_cons_succ]
            generalize Roll.putD Dre9 vs [5] b0 = a1 at *
            refine Roll.goes_val (w' := p) (.pointer (some ⟨tg, 0, none⟩)) rfl ?_ ⟨hI, Below.refl _ _, rfl⟩
            (have ec : ∀ x, a1.eval (.const x) = x := fun _ => rfl); (have ef : ∀ x, a1.eval (.func x) = .func (.func x) #[] #[] := fun _ => rfl); generalize a1.eval = ρ at *
            clear h5
            go_simp <;> (intros; first | (exfalso; omega) | rfl)
          · intro vs p hI hp
            have h6 : (vs 6) = .pointer (some ⟨tg, 0, none⟩) := hp 6 (by simp [Lre9])
            have e64 : (Roll.putD Dre9 vs [6] b0).eval (.tmp 64) = .pointer (some ⟨tg, 0, none⟩) := (Roll.eval_new 6 rfl (by decide) (by decide) (by omega)).trans h6
            clear hp hlv hN
            unfold Roll.Goes
            simp only [Lre9, List.getD_cons_zero, List.getD_cons_succ]
            generalize Roll.putD Dre9 vs [6] b0 = a1 at *
            refine Roll.goes_val (w' := p) (.pointer (some ⟨tg, 1, none⟩)) rfl ?_ ⟨hI, Below.refl _ _, rfl⟩
            (have ec : ∀ x, a1.eval (.const x) = x := fun _ => rfl); (have ef : ∀ x, a1.eval (.func x) = .func (.func x) #[] #[] := fun _ => rfl); generalize a1.eval = ρ at *
            clear h6
            go_simp <;> (intros; first | (exfalso; omega) | rfl)
          · intro vs p hI hp
            have h7 : (vs 7) = .pointer (some ⟨tg, 1, none⟩) := hp 7 (by simp [Lre9])
            have e65 : (Roll.putD Dre9 vs [7] b0).eval (.tmp 65) = .pointer (some ⟨tg, 1, none⟩) := (Roll.eval_new 7 rfl (by decide) (by decide) (by omega)).trans h7
            clear hp hlv hN
            unfold Roll.Goes
            simp only [Lre9, List.getD_cons_zero, List.getD_cons_succ]
            generalize Roll.putD Dre9 vs [7] b0 = a1 at *
            have cf : p.cell? ⟨tg, 1, none⟩ = some (.slice (some ⟨bk, ok, none⟩) mT eT) := (hI.cell (p := ⟨tg, 1, none⟩) HTL.out).trans CT1.out
            refine Roll.goes_val (w' := p) (.slice (some ⟨bk, ok, none⟩) mT eT) rfl ?_ ⟨hI, Below.refl _ _, rfl⟩
            (have ec : ∀ x, a1.eval (.const x) = x := fun _ => rfl); (have ef : ∀ x, a1.eval (.func x) = .func (.func x) #[] #[] := fun _ => rfl); generalize a1.eval = ρ at *
            clear h7
            go_simp <;> (intros; first | (exfalso; omega) | rfl)
          · intro vs p hI hp
            have e5 : (Roll.putD Dre9 vs [] b0).eval (.tmp 5) = .int .i64 (i : Int) := (Roll.eval_old rfl).trans (hlv.at 2 (5, .int .i64 (i : Int)) rfl)
            clear hp hlv hN
            unfold Roll.Goes
            simp only [Lre9, List.getD_cons_zero, List.getD_cons_succ]
            generalize Roll.putD Dre9 vs [] b0 = a1 at *
            refine Roll.goes_val (w' := p) (.int .i64 (i : Int)) rfl ?_ ⟨hI, Below.refl _ _, rfl⟩
            (have ec : ∀ x, a1.eval (.const x) = x := fun _ => rfl); (have ef : ∀ x, a1.eval (.func x) = .func (.func x) #[] #[] := fun _ => rfl); generalize a1.eval = ρ at *
            skip
            go_simp <;> (intros; first | (exfalso; omega) | rfl)
          · intro vs p hI hp
            have h8 : (vs 8) = .slice (some ⟨bk, ok, none⟩) mT eT := hp 8 (by simp [Lre9])
            have h9 : (vs 9) = .int .i64 (i : Int) := hp 9 (by simp [Lre9])
            have e66 : (Roll.putD Dre9 vs [8, 9] b0).eval (.tmp 66) = .slice (some ⟨bk, ok, none⟩) mT eT := (Roll.eval_new 8 rfl (by decide) (by decide) (by omega)).trans h8
            have e67 : (Roll.putD Dre9 vs [8, 9] b0).eval (.tmp 67) = .int .i64 (i : Int) := (Roll.eval_new 9 rfl (by decide) (by decide) (by omega)).trans h9
            clear hp hlv hN
            unfold Roll.Goes
            simp only [Lre9, List.getD_cons_zero, List.getD_cons_succ]
            generalize Roll.putD Dre9 vs [8, 9] b0 = a1 at *
            refine Roll.goes_val (w' := p) (.pointer (some ⟨bk, ob, none⟩)) rfl ?_ ⟨hI, Below.refl _ _, rfl⟩
            (have ec : ∀ x, a1.eval (.const x) = x := fun _ => rfl); (have ef : ∀ x, a1.eval (.func x) = .func (.func x) #[] #[] := fun _ => rfl); generalize a1.eval = ρ at *
            clear h8 h9
            go_simp <;> (intros; first | (exfalso; omega) | rfl)
          · intro vs p hI hp
            have h10 : (vs 10) = .pointer (some ⟨bk, ob, none⟩) := hp 10 (by simp [Lre9])
            have e68 : (Roll.putD Dre9 vs [10] b0).eval (.tmp 68) = .pointer (some ⟨bk, ob, none⟩) := (Roll.eval_new 10 rfl (by decide) (by decide) (by omega)).trans h10
            clear hp hlv hN
            unfold Roll.Goes
            simp only [Lre9, List.getD_cons_zero, List.getD_cons_succ]
            generalize Roll.putD Dre9 vs [10] b0 = a1 at *
            have cf : p.cell? ⟨bk, ob, none⟩ = some (.pointer (some ⟨kg, 0, none⟩)) := (hI.cell (p := ⟨bk, ob, none⟩) HBK.out).trans CKG.out
            refine Roll.goes_val (w' := p) (.pointer (some ⟨kg, 0, none⟩)) rfl ?_ ⟨hI, Below.refl _ _, rfl⟩
            (have ec : ∀ x, a1.eval (.const x) = x := fun _ => rfl); (have ef : ∀ x, a1.eval (.func x) = .func (.func x) #[] #[] := fun _ => rfl); generalize a1.eval = ρ at *
            clear h10
            go_simp <;> (intros; first | (exfalso; omega) | rfl)
          · intro vs p hI hp
            have e1 : (Roll.putD Dre9 vs [] b0).eval (.tmp 1) = .string lq.k := (Roll.eval_old rfl).trans (hlv.at 1 (1, .string lq.k) rfl)
            clear hp hlv hN
            unfold Roll.Goes
            simp only [Lre9, List.getD_cons_zero, List.getD_cons_succ]
            generalize Roll.putD Dre9 vs [] b0 = a1 at *
            refine Roll.goes_val (w' := p) (.string lq.k) rfl ?_ ⟨hI, Below.refl _ _, rfl⟩
            (have ec : ∀ x, a1.eval (.const x) = x := fun _ => rfl); (have ef : ∀ x, a1.eval (.func x) = .func (.func x) #[] #[] := fun _ => rfl); generalize a1.eval = ρ at *
            skip
            go_simp <;> (intros; first | (exfalso; omega) | rfl)
          · intro vs p hI hp
            have h11 : (vs 11) = .pointer (some ⟨kg, 0, none⟩) := hp 11 (by simp [Lre9])
            have h12 : (vs 12) = .string lq.k := hp 12 (by simp [Lre9])
            have e69 : (Roll.putD Dre9 vs [11, 12] b0).eval (.tmp 69) = .pointer (some ⟨kg, 0, none⟩) := (Roll.eval_new 11 rfl (by decide) (by decide) (by omega)).trans h11
            have e70 : (Roll.putD Dre9 vs [11, 12] b0).eval (.tmp 70) = .string lq.k := (Roll.eval_new 12 rfl (by decide) (by decide) (by omega)).trans h12
            clear hp hlv hN
            unfold Roll.Goes
            simp only [Lre9, List.getD_cons_zero, List.getD_cons_succ]
            generalize Roll.putD Dre9 vs [11, 12] b0 = a1 at *
            refine Roll.goes_call 54 #[.pointer (some ⟨kg, 0, none⟩), .string lq.k] p rfl (by have ec : ∀ x, a1.eval (.const x) = x := fun _ => rfl; have ef : ∀ x, a1.eval (.func x) = .func (.func x) #[] #[] := fun _ => rfl; generalize a1.eval = ρ at *; go_simp) ?_
            have hc := HRECF.out (Off D w1.heap.size c (some jp) (some jk)) p ((HON.out.kids C (List.mem_append.2 (.inl HCM.out))).under hI)
            refine hc.mono ?_
            rintro y p2 ⟨r, rfl, hnd, hb2, hpo⟩
            exact ⟨_, rfl, hI.trans (hb2.mono hI.size), hb2, r, rfl, hnd.dom (fun b hb => hb.imp id (Nat.le_trans hI.size)), hpo⟩
        · intro vs p hI hR
          have h0 : (vs 0) = .pointer (some ⟨c, 0, none⟩) := hR 0 (by omega)
          have h1 : (vs 1) = .pointer (some ⟨c, 0, none⟩) := hR 1 (by omega)
          have h2 : (vs 2) = .pointer (some ⟨c, 1, none⟩) := hR 2 (by omega)
          have h3 : (vs 3) = .slice (some ⟨jk, 0, none⟩) mT kc := hR 3 (by omega)
          have h4 : (vs 4) = .int .i64 (i : Int) := hR 4 (by omega)
          have h5 : (vs 5) = .pointer (some ⟨tg, 0, none⟩) := hR 5 (by omega)
          have h6 : (vs 6) = .pointer (some ⟨tg, 0, none⟩) := hR 6 (by omega)
          have h7 : (vs 7) = .pointer (some ⟨tg, 1, none⟩) := hR 7 (by omega)
          have h8 : (vs 8) = .slice (some ⟨bk, ok, none⟩) mT eT := hR 8 (by omega)
          have h9 : (vs 9) = .int .i64 (i : Int) := hR 9 (by omega)
          have h10 : (vs 10) = .pointer (some ⟨bk, ob, none⟩) := hR 10 (by omega)
          have h11 : (vs 11) = .pointer (some ⟨kg, 0, none⟩) := hR 11 (by omega)
          have h12 : (vs 12) = .string lq.k := hR 12 (by omega)
          have h13 : ∃ r : BT, (vs 13) = .pointer (some ⟨r.g, 0, none⟩) ∧ NdD (fun b => Off D w1.heap.size c (some jp) (some jk) b ∨ q.heap.size ≤ b) p r ∧ DelOf k C r lq.k := hR 13 (by omega)
          clear hR
          simp only [List.range_succ, List.range_zero, List.nil_append, List.cons_append, Roll.putD, Act.put, List.getD_cons_zero, List.getD_cons_succ, List.setIfInBounds_toArray, List.set_cons_zero, List.set_cons_succ, List.drop_succ_cons, List.drop_zero, Dre9]
          simp only [h0, h1, h2, h3, h4, h5, h6, h7, h8, h9, h10, h11, h12]
          clear h0 h1 h2 h3 h4 h5 h6 h7 h8 h9 h10 h11 h12
          generalize vs 13 = v13 at *
          obtain ⟨r, rfl, hnd, hpo⟩ := h13
          have HPO := Lib.hid hpo
          have cki := (hI.cell (p := ⟨jk, i, none⟩) HJC.out.1).trans HJC.out.2.1
          have fki := ((Kept.of_below (fun _ => False) hI).frozen (p := ⟨jk, i, none⟩) HJC.out.1 (fun h => h)).trans HJC.out.2.2
          have HON3 : Hid (ONx D w1 (p.setCell ⟨jk, i, none⟩ (.pointer (some ⟨r.g, 0, none⟩))) c (some jp) (some jk) (.slice (some ⟨jp, 0, none⟩) (m + 1) cv) (.slice (some ⟨jk, 0, none⟩) mT kc) (ps.set i lq) (ks.set i r) (r :: xs)) := Lib.hid ((HON.out.add hI hnd).setK i hiks _ (List.mem_append.2 (.inr (List.mem_cons_self ..))))
          clear hnd hI hpo
          go_upto_region 10 with fail
          obtain ⟨q4, hq4⟩ : ∃ q4, q4 = p.setCell ⟨jk, i, none⟩ (.pointer (some ⟨r.g, 0, none⟩)) := ⟨_, rfl⟩
          rw [← hq4] at HON3 ⊢
          clear hq4 cki fki
          have HMC := Lib.hid (HMENDF.out r HPO.out q4 _ ⟨_, _, _, _, HON3.out⟩)
          go_wp2_with (go_at_call 72; refine HMC.out.mono ?_; rintro e q5 ⟨rfl, ps5, ks5, hon5, hm5⟩; have HON5 := Lib.hid hon5; have HM5 := Lib.hid hm5; clear hon5 hm5)
          go_ret
          exact HRESF.out r HPO.out _ _ _ _ HON5.out HM5.out
    · rw [decide_eq_false hfd]
      have HREC : Hid (∀ (E : Nat → Prop) (u : World), NdD E u C → Calls Try.prog 54 #[.pointer (some ⟨kg, 0, none⟩), .string key] u (DelRes E u k C key)) := Lib.hid (fun E u h => by rw [hkg]; exact HRC.out E u C key hCm HSK.out h (by rw [hC]; exact child_has hkl hsoT HPL.out hik hfd (by rw [← toL_eq]; exact HMEM.out)))
      have HMEND := Lib.hid (fun (r : BT) (hr : DelOf k C r key) => HMG.out ps key r (by rw [HPS.out]) hr)
      have HRES := Lib.hid (fun (r : BT) (hr : DelOf k C r key) => HRG.out ps key r (by rw [HPS.out]) hr (fun hl => by
        rw [toL_eq, HPS.out]
        exact del_inner hkl hsoT HPL.out hik hfd r (by rw [← hC]; exact hl)))
      clear hm hk0 hon hkw hC hCm hCw hCs hkm hmT hkcell hko hkg hbk hkl hkc hsoT hfd hob hik
      go_upto_region 9 with (go_at_call 69; refine HLF.out.mono ?_; rintro e w4 ⟨rfl, rfl⟩)
      refine Roll.region_f 14 77 Dre9 Lre9 [(0, .pointer (some ⟨tg, 0, none⟩)), (1, .string key), (5, .int .i64 (i : Int)), (7, .pointer (some ⟨c, 0, none⟩))] (fun p => Below q.heap.size q p) (fun p p2 => Below p.heap.size p p2) [fun vv p => vv = .pointer (some ⟨c, 0, none⟩), fun vv p => vv = .pointer (some ⟨c, 0, none⟩), fun vv p => vv = .pointer (some ⟨c, 1, none⟩), fun vv p => vv = .slice (some ⟨jk, 0, none⟩) mT kc, fun vv p => vv = .int .i64 (i : Int), fun vv p => vv = .pointer (some ⟨tg, 0, none⟩), fun vv p => vv = .pointer (some ⟨tg, 0, none⟩), fun vv p => vv = .pointer (some ⟨tg, 1, none⟩), fun vv p => vv = .slice (some ⟨bk, ok, none⟩) mT eT, fun vv p => vv = .int .i64 (i : Int), fun vv p => vv = .pointer (some ⟨bk, ob, none⟩), fun vv p => vv = .pointer (some ⟨kg, 0, none⟩), fun vv p => vv = .string key, fun vv p => ∃ r : BT, vv = .pointer (some ⟨r.g, 0, none⟩) ∧ NdD (fun b => Off D w1.heap.size c (some jp) (some jk) b ∨ q.heap.size ≤ b) p r ∧ DelOf k C r key] (by kernel_rfl) (by kernel_rfl) rfl ⟨rfl, rfl, rfl, rfl, trivial⟩ ((Below.refl _ _).drew) ?_ ?_ ?_
      · exact ⟨fun _ _ _ _ h => h, fun _ _ _ _ h => h, fun _ _ _ _ h => h, fun _ _ _ _ h => h, fun _ _ _ _ h => h, fun _ _ _ _ h => h, fun _ _ _ _ h => h, fun _ _ _ _ h => h, fun _ _ _ _ h => h, fun _ _ _ _ h => h, fun _ _ _ _ h => h, fun _ _ _ _ h => h, fun _ _ _ _ h => h, fun _ _ _ hs h => by obtain ⟨r, e1, e2, e3⟩ := h; exact ⟨r, e1, e2.under hs, e3⟩, trivial⟩
      · intro b0 hN hlv
        refine ⟨?_, ?_, ?_, ?_, ?_, ?_, ?_, ?_, ?_, ?_, ?_, ?_, ?_, ?_, trivial⟩
        · intro vs p hI hp
          have e7 : (Roll.putD Dre9 vs [] b0).eval (.tmp 7) = .pointer (some ⟨c, 0, none⟩) := (Roll.eval_old rfl).trans (hlv.at 3 (7, .pointer (some ⟨c, 0, none⟩)) rfl)
          clear hp hlv hN
          unfold Roll.Goes
          simp only [Lre9, List.getD_cons_zero, List.getD_cons_succ]
          generalize Roll.putD Dre9 vs [] b0 = a1 at *
          refine Roll.goes_val (w' := p) (.pointer (some ⟨c, 0, none⟩)) rfl ?_ ⟨hI, Below.refl _ _, rfl⟩
          (have ec : ∀ x, a1.eval (.const x) = x := fun _ => rfl); (have ef : ∀ x, a1.eval (.func x) = .func (.func x) #[] #[] := fun _ => rfl); generalize a1.eval = ρ at *
          skip
          go_simp <;> (intros; first | (exfalso; omega) | rfl)
        · intro vs p hI hp
          have h0 : (vs 0) = .pointer (some ⟨c, 0, none⟩) := hp 0 (by simp [Lre9])
          have e58 : (Roll.putD Dre9 vs [0] b0).eval (.tmp 58) = .pointer (some ⟨c, 0, none⟩) := (Roll.eval_new 0 rfl (by decide) (by decide) (by omega)).trans h0
          clear hp hlv hN
          unfold Roll.Goes
          simp only [Lre9, List.getD_cons_zero, List.getD_cons_succ]
          generalize Roll.putD Dre9 vs [0] b0 = a1 at *
          refine Roll.goes_val (w' := p) (.pointer (some ⟨c, 0, none⟩)) rfl ?_ ⟨hI, Below.refl _ _, rfl⟩
          (have ec : ∀ x, a1.eval (.const x) = x := fun _ => rfl); (have ef : ∀ x, a1.eval (.func x) = .func (.func x) #[] #[] := fun _ => rfl); generalize a1.eval = ρ at *
          clear h0
          go_simp <;> (intros; first | (exfalso; omega) | rfl)
        · intro vs p hI hp
          have h1 : (vs 1) = .pointer (some ⟨c, 0, none⟩) := hp 1 (by simp [Lre9])
          have e59 : (Roll.putD Dre9 vs [1] b0).eval (.tmp 59) = .pointer (some ⟨c, 0, none⟩) := (Roll.eval_new 1 rfl (by decide) (by decide) (by omega)).trans h1
          clear hp hlv hN
          unfold Roll.Goes
          simp only [Lre9, List.getD_cons_zero, List.getD_cons_succ]
          generalize Roll.putD Dre9 vs [1] b0 = a1 at *
          refine Roll.goes_val (w' := p) (.pointer (some ⟨c, 1, none⟩)) rfl ?_ ⟨hI, Below.refl _ _, rfl⟩
          (have ec : ∀ x, a1.eval (.const x) = x := fun _ => rfl); (have ef : ∀ x, a1.eval (.func x) = .func (.func x) #[] #[] := fun _ => rfl); generalize a1.eval = ρ at *
          clear h1
          go_simp <;> (intros; first | (exfalso; omega) | rfl)
        · intro vs p hI hp
          have h2 : (vs 2) = .pointer (some ⟨c, 1, none⟩) := hp 2 (by simp [Lre9])
          have e60 : (Roll.putD Dre9 vs [2] b0).eval (.tmp 60) = .pointer (some ⟨c, 1, none⟩) := (Roll.eval_new 2 rfl (by decide) (by decide) (by omega)).trans h2
          clear hp hlv hN
          unfold Roll.Goes
          simp only [Lre9, List.getD_cons_zero, List.getD_cons_succ]
          generalize Roll.putD Dre9 vs [2] b0 = a1 at *
          have cf : p.cell? ⟨c, 1, none⟩ = some (.slice (some ⟨jk, 0, none⟩) mT kc) := (hI.cell (p := ⟨c, 1, none⟩) HCL.out).trans C1.out
          refine Roll.goes_val (w' := p) (.slice (some ⟨jk, 0, none⟩) mT kc) rfl ?_ ⟨hI, Below.refl _ _, rfl⟩
          (have ec : ∀ x, a1.eval (.const x) = x := fun _ => rfl); (have ef : ∀ x, a1.eval (.func x) = .func (.func x) #[] #[] := fun _ => rfl); generalize a1.eval = ρ at *
          clear h2
          go_simp <;> (intros; first | (exfalso; omega) | rfl)
        · intro vs p hI hp
          have e5 : (Roll.putD Dre9 vs [] b0).eval (.tmp 5) = .int .i64 (i : Int) := (Roll.eval_old rfl).trans (hlv.at 2 (5, .int .i64 (i : Int)) rfl)
          clear hp hlv hN
          unfold Roll.Goes
          simp only [Lre9, List.getD_cons_zero, List.getD_cons_succ]
          generalize Roll.putD Dre9 vs [] b0 = a1 at *
          refine Roll.goes_val (w' := p) (.int .i64 (i : Int)) rfl ?_ ⟨hI, Below.refl _ _, rfl⟩
          (have ec : ∀ x, a1.eval (.const x) = x := fun _ => rfl); (have ef : ∀ x, a1.eval (.func x) = .func (.func x) #[] #[] := fun _ => rfl); generalize a1.eval = ρ at *
          skip
          go_simp <;> (intros; first | (exfalso; omega) | rfl)
        · intro vs p hI hp
          have e0 : (Roll.putD Dre9 vs [] b0).eval (.tmp 0) = .pointer (some ⟨tg, 0, none⟩) := (Roll.eval_old rfl).trans (hlv.at 0 (0, .pointer (some ⟨tg, 0, none⟩)) rfl)
          clear hp hlv hN
          unfold Roll.Goes
          simp only [Lre9, List.getD_cons_zero, List.getD_cons_succ]
          generalize Roll.putD Dre9 vs [] b0 = a1 at *
          refine Roll.goes_val (w' := p) (.pointer (some ⟨tg, 0, none⟩)) rfl ?_ ⟨hI, Below.refl _ _, rfl⟩
          (have ec : ∀ x, a1.eval (.const x) = x := fun _ => rfl); (have ef : ∀ x, a1.eval (.func x) = .func (.func x) #[] #[] := fun _ => rfl); generalize a1.eval = ρ at *
          skip
          go_simp <;> (intros; first | (exfalso; omega) | rfl)
        · intro vs p hI hp
          have h5 : (vs 5) = .pointer (some ⟨tg, 0, none⟩) := hp 5 (by simp [Lre9])
          have e63 : (Roll.putD Dre9 vs [5] b0).eval (.tmp 63) = .pointer (some ⟨tg, 0, none⟩) := (Roll.eval_new 5 rfl (by decide) (by decide) (by omega)).trans h5
          clear hp hlv hN
          unfold Roll.Goes
          simp only [Lre9, List.getD_cons_zero, List.getD_cons_succ]
          generalize Roll.putD Dre9 vs [5] b0 = a1 at *
          refine Roll.goes_val (w' := p) (.pointer (some ⟨tg, 0, none⟩)) rfl ?_ ⟨hI, Below.refl _ _, rfl⟩
          (have ec : ∀ x, a1.eval (.const x) = x := fun _ => rfl); (have ef : ∀ x, a1.eval (.func x) = .func (.func x) #[] #[] := fun _ => rfl); generalize a1.eval = ρ at *
          clear h5
          go_simp <;> (intros; first | (exfalso; omega) | rfl)
        · intro vs p hI hp
          have h6 : (vs 6) = .pointer (some ⟨tg, 0, none⟩) := hp 6 (by simp [Lre9])
          have e64 : (Roll.putD Dre9 vs [6] b0).eval (.tmp 64) = .pointer (some ⟨tg, 0, none⟩) := (Roll.eval_new 6 rfl (by decide) (by decide) (by omega)).trans h6
          clear hp hlv hN
          unfold Roll.Goes
          simp only [Lre9, List.getD_cons_zero, List.getD_cons_succ]
          generalize Roll.putD Dre9 vs [6] b0 = a1 at *
          refine Roll.goes_val (w' := p) (.pointer (some ⟨tg, 1, none⟩)) rfl ?_ ⟨hI, Below.refl _ _, rfl⟩
          (have ec : ∀ x, a1.eval (.const x) = x := fun _ => rfl); (have ef : ∀ x, a1.eval (.func x) = .func (.func x) #[] #[] := fun _ => rfl); generalize a1.eval = ρ at *
          clear h6
          go_simp <;> (intros; first | (exfalso; omega) | rfl)
        · intro vs p hI hp
          have h7 : (vs 7) = .pointer (some ⟨tg, 1, none⟩) := hp 7 (by simp [Lre9])
          have e65 : (Roll.putD Dre9 vs [7] b0).eval (.tmp 65) = .pointer (some ⟨tg, 1, none⟩) := (Roll.eval_new 7 rfl (by decide) (by decide) (by omega)).trans h7
          clear hp hlv hN
          unfold Roll.Goes
          simp only [Lre9, List.getD_cons_zero, List.getD_cons_succ]
          generalize Roll.putD Dre9 vs [7] b0 = a1 at *
          have cf : p.cell? ⟨tg, 1, none⟩ = some (.slice (some ⟨bk, ok, none⟩) mT eT) := (hI.cell (p := ⟨tg, 1, none⟩) HTL.out).trans CT1.out
          refine Roll.goes_val (w' := p) (.slice (some ⟨bk, ok, none⟩) mT eT) rfl ?_ ⟨hI, Below.refl _ _, rfl⟩
          (have ec : ∀ x, a1.eval (.const x) = x := fun _ => rfl); (have ef : ∀ x, a1.eval (.func x) = .func (.func x) #[] #[] := fun _ => rfl); generalize a1.eval = ρ at *
          clear h7
          go_simp <;> (intros; first | (exfalso; omega) | rfl)
        · intro vs p hI hp
          have e5 : (Roll.putD Dre9 vs [] b0).eval (.tmp 5) = .int .i64 (i : Int) := (Roll.eval_old rfl).trans (hlv.at 2 (5, .int .i64 (i : Int)) rfl)
          clear hp hlv hN
          unfold Roll.Goes
          simp only [Lre9, List.getD_cons_zero, List.getD_cons_succ]
          generalize Roll.putD Dre9 vs [] b0 = a1 at *
          refine Roll.goes_val (w' := p) (.int .i64 (i : Int)) rfl ?_ ⟨hI, Below.refl _ _, rfl⟩
          (have ec : ∀ x, a1.eval (.const x) = x := fun _ => rfl); (have ef : ∀ x, a1.eval (.func x) = .func (.func x) #[] #[] := fun _ => rfl); generalize a1.eval = ρ at *
          skip
          go_simp <;> (intros; first | (exfalso; omega) | rfl)
        · intro vs p hI hp
          have h8 : (vs 8) = .slice (some ⟨bk, ok, none⟩) mT eT := hp 8 (by simp [Lre9])
          have h9 : (vs 9) = .int .i64 (i : Int) := hp 9 (by simp [Lre9])
          have e66 : (Roll.putD Dre9 vs [8, 9] b0).eval (.tmp 66) = .slice (some ⟨bk, ok, none⟩) mT eT := (Roll.eval_new 8 rfl (by decide) (by decide) (by omega)).trans h8
          have e67 : (Roll.putD Dre9 vs [8, 9] b0).eval (.tmp 67) = .int .i64 (i : Int) := (Roll.eval_new 9 rfl (by decide) (by decide) (by omega)).trans h9
          clear hp hlv hN
          unfold Roll.Goes
          simp only [Lre9, List.getD_cons_zero, List.getD_cons_succ]
          generalize Roll.putD Dre9 vs [8, 9] b0 = a1 at *
          refine Roll.goes_val (w' := p) (.pointer (some ⟨bk, ob, none⟩)) rfl ?_ ⟨hI, Below.refl _ _, rfl⟩
          (have ec : ∀ x, a1.eval (.const x) = x := fun _ => rfl); (have ef : ∀ x, a1.eval (.func x) = .func (.func x) #[] #[] := fun _ => rfl); generalize a1.eval = ρ at *
          clear h8 h9
          go_simp <;> (intros; first | (exfalso; omega) | rfl)
        · intro vs p hI hp
          have h10 : (vs 10) = .pointer (some ⟨bk, ob, none⟩) := hp 10 (by simp [Lre9])
          have e68 : (Roll.putD Dre9 vs [10] b0).eval (.tmp 68) = .pointer (some ⟨bk, ob, none⟩) := (Roll.eval_new 10 rfl (by decide) (by decide) (by omega)).trans h10
          clear hp hlv hN
          unfold Roll.Goes
          simp only [Lre9, List.getD_cons_zero, List.getD_cons_succ]
          generalize Roll.putD Dre9 vs [10] b0 = a1 at *
          have cf : p.cell? ⟨bk, ob, none⟩ = some (.pointer (some ⟨kg, 0, none⟩)) := (hI.cell (p := ⟨bk, ob, none⟩) HBK.out).trans CKG.out
          refine Roll.goes_val (w' := p) (.pointer (some ⟨kg, 0, none⟩)) rfl ?_ ⟨hI, Below.refl _ _, rfl⟩
          (have ec : ∀ x, a1.eval (.const x) = x := fun _ => rfl); (have ef : ∀ x, a1.eval (.func x) = .func (.func x) #[] #[] := fun _ => rfl); generalize a1.eval = ρ at *
          clear h10
          go_simp <;> (intros; first | (exfalso; omega) | rfl)
        · intro vs p hI hp
          have e1 : (Roll.putD Dre9 vs [] b0).eval (.tmp 1) = .string key := (Roll.eval_old rfl).trans (hlv.at 1 (1, .string key) rfl)
          clear hp hlv hN
          unfold Roll.Goes
          simp only [Lre9, List.getD_cons_zero, List.getD_cons_succ]
          generalize Roll.putD Dre9 vs [] b0 = a1 at *
          refine Roll.goes_val (w' := p) (.string key) rfl ?_ ⟨hI, Below.refl _ _, rfl⟩
          (have ec : ∀ x, a1.eval (.const x) = x := fun _ => rfl); (have ef : ∀ x, a1.eval (.func x) = .func (.func x) #[] #[] := fun _ => rfl); generalize a1.eval = ρ at *
          skip
          go_simp <;> (intros; first | (exfalso; omega) | rfl)
        · intro vs p hI hp
          have h11 : (vs 11) = .pointer (some ⟨kg, 0, none⟩) := hp 11 (by simp [Lre9])
          have h12 : (vs 12) = .string key := hp 12 (by simp [Lre9])
          have e69 : (Roll.putD Dre9 vs [11, 12] b0).eval (.tmp 69) = .pointer (some ⟨kg, 0, none⟩) := (Roll.eval_new 11 rfl (by decide) (by decide) (by omega)).trans h11
          have e70 : (Roll.putD Dre9 vs [11, 12] b0).eval (.tmp 70) = .string key := (Roll.eval_new 12 rfl (by decide) (by decide) (by omega)).trans h12
          clear hp hlv hN
          unfold Roll.Goes
          simp only [Lre9, List.getD_cons_zero, List.getD_cons_succ]
          generalize Roll.putD Dre9 vs [11, 12] b0 = a1 at *
          refine Roll.goes_call 54 #[.pointer (some ⟨kg, 0, none⟩), .string key] p rfl (by have ec : ∀ x, a1.eval (.const x) = x := fun _ => rfl; have ef : ∀ x, a1.eval (.func x) = .func (.func x) #[] #[] := fun _ => rfl; generalize a1.eval = ρ at *; go_simp) ?_
          have hc := HREC.out (Off D w1.heap.size c (some jp) (some jk)) p ((HON.out.kids C (List.mem_append.2 (.inl HCM.out))).under hI)
          refine hc.mono ?_
          rintro y p2 ⟨r, rfl, hnd, hb2, hpo⟩
          exact ⟨_, rfl, hI.trans (hb2.mono hI.size), hb2, r, rfl, hnd.dom (fun b hb => hb.imp id (Nat.le_trans hI.size)), hpo⟩
      · intro vs p hI hR
        have h0 : (vs 0) = .pointer (some ⟨c, 0, none⟩) := hR 0 (by omega)
        have h1 : (vs 1) = .pointer (some ⟨c, 0, none⟩) := hR 1 (by omega)
        have h2 : (vs 2) = .pointer (some ⟨c, 1, none⟩) := hR 2 (by omega)
        have h3 : (vs 3) = .slice (some ⟨jk, 0, none⟩) mT kc := hR 3 (by omega)
        have h4 : (vs 4) = .int .i64 (i : Int) := hR 4 (by omega)
        have h5 : (vs 5) = .pointer (some ⟨tg, 0, none⟩) := hR 5 (by omega)
        have h6 : (vs 6) = .pointer (some ⟨tg, 0, none⟩) := hR 6 (by omega)
        have h7 : (vs 7) = .pointer (some ⟨tg, 1, none⟩) := hR 7 (by omega)
        have h8 : (vs 8) = .slice (some ⟨bk, ok, none⟩) mT eT := hR 8 (by omega)
        have h9 : (vs 9) = .int .i64 (i : Int) := hR 9 (by omega)
        have h10 : (vs 10) = .pointer (some ⟨bk, ob, none⟩) := hR 10 (by omega)
        have h11 : (vs 11) = .pointer (some ⟨kg, 0, none⟩) := hR 11 (by omega)
        have h12 : (vs 12) = .string key := hR 12 (by omega)
        have h13 : ∃ r : BT, (vs 13) = .pointer (some ⟨r.g, 0, none⟩) ∧ NdD (fun b => Off D w1.heap.size c (some jp) (some jk) b ∨ q.heap.size ≤ b) p r ∧ DelOf k C r key := hR 13 (by omega)
        clear hR
        simp only [List.range_succ, List.range_zero, List.nil_append, List.cons_append, Roll.putD, Act.put, List.getD_cons_zero, List.getD_cons_succ, List.setIfInBounds_toArray, List.set_cons_zero, List.set_cons_succ, List.drop_succ_cons, List.drop_zero, Dre9]
        simp only [h0, h1, h2, h3, h4, h5, h6, h7, h8, h9, h10, h11, h12]
        clear h0 h1 h2 h3 h4 h5 h6 h7 h8 h9 h10 h11 h12
        generalize vs 13 = v13 at *
        obtain ⟨r, rfl, hnd, hpo⟩ := h13
        have HPO := Lib.hid hpo
        have cki := (hI.cell (p := ⟨jk, i, none⟩) HJC.out.1).trans HJC.out.2.1
        have fki := ((Kept.of_below (fun _ => False) hI).frozen (p := ⟨jk, i, none⟩) HJC.out.1 (fun h => h)).trans HJC.out.2.2
        have HON3 : Hid (ONx D w1 (p.setCell ⟨jk, i, none⟩ (.pointer (some ⟨r.g, 0, none⟩))) c (some jp) (some jk) (.slice (some ⟨jp, 0, none⟩) (m + 1) cv) (.slice (some ⟨jk, 0, none⟩) mT kc) ps (ks.set i r) (r :: xs)) := Lib.hid ((HON.out.add hI hnd).setK i hiks _ (List.mem_append.2 (.inr (List.mem_cons_self ..))))
        clear hnd hI hpo
        go_upto_region 10 with fail
        obtain ⟨q4, hq4⟩ : ∃ q4, q4 = p.setCell ⟨jk, i, none⟩ (.pointer (some ⟨r.g, 0, none⟩)) := ⟨_, rfl⟩
        rw [← hq4] at HON3 ⊢
        clear hq4 cki fki
        have HMC := Lib.hid (HMEND.out r HPO.out q4 _ ⟨_, _, _, _, HON3.out⟩)
        go_wp2_with (go_at_call 72; refine HMC.out.mono ?_; rintro e q5 ⟨rfl, ps5, ks5, hon5, hm5⟩; have HON5 := Lib.hid hon5; have HM5 := Lib.hid hm5; clear hon5 hm5)
        go_ret
        exact HRES.out r HPO.out _ _ _ _ HON5.out HM5.out
end Go.Proofs.Ytfgmhidgkemfoaa
namespace Go.Proofs.Ytfgmhidgkemfoaa
open Go.RowKit
set_option linter.unusedSimpArgs false
set_option linter.unusedVariables false
theorem remove_any : ∀ (k : Nat) {D : Nat → Prop} {w : World} {T : BT} (key : ByteArray), NdD D w T → T.Sh k → T.ps.length ≤ 8 → 1 ≤ T.ps.length → Sorted T.toL → (∃ q ∈ T.toL, q.k = key) →
    Calls Try.prog 54 #[.pointer (some ⟨T.g, 0, none⟩), .string key] w (DelRes D w k T key)
  | 0, D, w, T, key, hT, hs, h8, h1, hso, hm => remove_step hT 0 hs h8 h1 hso key hm (fun E u C y hC _ _ _ => by
      rcases hs with ⟨-, h⟩ | ⟨h, -⟩
      · rw [h] at hC; cases hC
      · exact absurd rfl h)
  | k + 1, D, w, T, key, hT, hs, h8, h1, hso, hm => remove_step hT (k + 1) hs h8 h1 hso key hm (fun E u C y hC hsc hE hmy => by
      rcases hs with ⟨h, -⟩ | ⟨-, -, h⟩
      · omega
      · have hw := h C hC
        have hw2 := (wf_iff _ _).1 hw.1
        exact remove_any k y hE hw2.2 hw2.1 (by omega) hsc hmy)
theorem got_some {l : List KV} {key v : ByteArray} (h : gotF (floorL l key) key = some v) : KV.mk key v ∈ l := by
  unfold gotF at h
  cases hf : floorL l key with
  | none => rw [hf] at h; cases h
  | some p =>
    rw [hf] at h
    simp only at h
    split at h
    · rename_i e
      have hp : p ∈ l := by
        unfold floorL at hf
        exact (List.mem_filter.1 (List.mem_of_getLast? hf)).1
      have := Option.some.inj h
      obtain ⟨pk, pv⟩ := p
      simp only at e this
      rw [← e, ← this]
      exact hp
    · cases h
theorem floor_at {A B : List KV} {p : KV} (hs : Sorted (A ++ p :: B)) : floorL (A ++ p :: B) p.k = some p := by
  obtain ⟨hA, hB⟩ := sorted_around hs
  have e : A ++ p :: B = (A ++ [p]) ++ B := by simp
  rw [e, floorL_app, floorL_none B _ hB, Option.none_or, floorL_all, List.getLast?_append]
  · rfl
  · intro x hx
    rcases List.mem_append.1 hx with h | h
    · have := hA x h; omega
    · rw [List.mem_singleton.1 h, (cmpK_eq _ _).2 rfl]; omega
theorem got_mem {l : List KV} {p : KV} (hs : Sorted l) (hp : p ∈ l) : gotF (floorL l p.k) p.k = some p.v := by
  obtain ⟨A, B, rfl⟩ := List.append_of_mem hp
  rw [floor_at hs]
  simp [gotF]
theorem got_none {l : List KV} {key : ByteArray} (hs : Sorted l) (h : gotF (floorL l key) key = none) : ∀ p ∈ l, p.k ≠ key := fun p hp e => by
  have := got_mem hs hp
  rw [e, h] at this
  cases this
theorem insL_mem {l : List KV} {p q : KV} (hs : Sorted l) (hq : q ∈ l) (hk : q.k = p.k) : ∃ A B, l = A ++ q :: B ∧ insL l p = A ++ p :: B := by
  obtain ⟨A, B, rfl⟩ := List.append_of_mem hq
  obtain ⟨hA, hB⟩ := sorted_around hs
  rw [hk] at hA hB
  exact ⟨A, B, rfl, insL_old hA hB hk⟩
theorem insL_same {l : List KV} {p : KV} (hs : Sorted l) (hp : p ∈ l) : insL l p = l := by
  obtain ⟨A, B, e1, e2⟩ := insL_mem hs hp rfl
  rw [e2, ← e1]
theorem insL_len_old {l : List KV} {p q : KV} (hs : Sorted l) (hq : q ∈ l) (hk : q.k = p.k) : (insL l p).length = l.length := by
  obtain ⟨A, B, e1, e2⟩ := insL_mem hs hq hk
  rw [e2, e1]
  simp
theorem insL_len_new {p : KV} : ∀ {l : List KV}, (∀ q ∈ l, q.k ≠ p.k) → (insL l p).length = l.length + 1
  | [], _ => rfl
  | q :: l, h => by
    have ih := insL_len_new (l := l) (p := p) (fun x hx => h x (List.mem_cons_of_mem _ hx))
    have h1 : q.k ≠ p.k := h q (List.mem_cons_self ..)
    unfold insL at ih ⊢
    rw [List.length_append, List.length_cons] at ih ⊢
    have h2 : cmpK q.k p.k ≠ 0 := fun e => h1 ((cmpK_eq _ _).1 e)
    by_cases h3 : cmpK q.k p.k < 0
    · have h4 : ¬ 0 < cmpK q.k p.k := by omega
      rw [List.filter_cons_of_pos (by simpa using h3), List.filter_cons_of_neg (by simpa using h4), List.length_cons, List.length_cons]
      omega
    · have h4 : 0 < cmpK q.k p.k := by omega
      rw [List.filter_cons_of_neg (by simpa using h3), List.filter_cons_of_pos (by simpa using h4), List.length_cons, List.length_cons]
      omega
theorem insL_sorted {l : List KV} {p : KV} (hs : Sorted l) : Sorted (insL l p) := by
  unfold insL
  refine sorted_app.2 ⟨hs.sublist List.filter_sublist, sorted_cons.2 ⟨fun y hy => ?_, hs.sublist List.filter_sublist⟩, fun x hx y hy => ?_⟩
  · have h1 := List.mem_filter.1 hy
    have h2 : 0 < cmpK y.k p.k := by simpa using h1.2
    have := cmpK_flip y.k p.k
    omega
  · have h1 := List.mem_filter.1 hx
    have h2 : cmpK x.k p.k < 0 := by simpa using h1.2
    rcases List.mem_cons.1 hy with rfl | hy
    · exact h2
    · have h3 := List.mem_filter.1 hy
      have h4 : 0 < cmpK y.k p.k := by simpa using h3.2
      have h5 := cmpK_flip y.k p.k
      exact cmpK_trans h2 (by omega)
theorem insL_le (l : List KV) (p : KV) : (insL l p).length ≤ 2 * l.length + 1 := by
  unfold insL
  rw [List.length_append, List.length_cons]
  have h1 := List.length_filter_le (fun q : KV => decide (cmpK q.k p.k < 0)) l
  have h2 := List.length_filter_le (fun q : KV => decide (0 < cmpK q.k p.k)) l
  omega
theorem insL_len_le {l : List KV} {p : KV} (hs : Sorted l) : (insL l p).length ≤ l.length + 1 := by
  by_cases h : ∃ q ∈ l, q.k = p.k
  · obtain ⟨q, hq, e⟩ := h
    rw [insL_len_old hs hq e]
    omega
  · rw [insL_len_new (fun q hq e => h ⟨q, hq, e⟩)]
    omega
theorem delL_sorted {l : List KV} {key : ByteArray} (hs : Sorted l) : Sorted (delL l key) := hs.sublist List.filter_sublist
theorem delL_len {l : List KV} {q : KV} (hs : Sorted l) (hq : q ∈ l) : (delL l q.k).length + 1 = l.length := by
  obtain ⟨A, B, rfl⟩ := List.append_of_mem hq
  rw [delL_old hs]
  simp
  omega
theorem delL_le (l : List KV) (key : ByteArray) : (delL l key).length ≤ l.length := List.length_filter_le _ _
/-- the nodes of a tree that have a property -/
def tcnt (P : Nat → Bool) : Option BT → Nat
  | none => 0
  | some b => b.cnt P
/-- a tree that keeps the rules -/
structure TT (w : World) (g : Nat) (t : Option BT) (H : Nat) : Prop where
  tr : Tr w g t
  ok : TOk t H
  so : Sorted (treeL t)
theorem TT.under {w w' : World} (hb : Below w.heap.size w w') {g : Nat} {t : Option BT} {H : Nat} (h : TT w g t H) : TT w' g t H := ⟨h.tr.under hb, h.ok, h.so⟩
theorem TT.lt {w : World} {g : Nat} {t : Option BT} {H : Nat} (h : TT w g t H) : g < w.heap.size := by
  obtain ⟨v, h1, -⟩ := h.tr
  exact (Array.getElem?_eq_some_iff.1 h1).1
set_option maxRecDepth 100000 in
theorem new_any (w : World) : Calls Try.prog 12 #[] w fun e w' => ∃ g, e = .returned (.pointer (some ⟨g, 0, none⟩)) ∧ TT w' g none 0 ∧ w.heap.size ≤ g ∧ Below w.heap.size w w' := by
  go_enter Try.func12, Try.ntmps12
  go_wp2_with fail
  go_ret
  exact ⟨w.heap.size, rfl, ⟨⟨.pointer none, heap_new rfl, rfl⟩, rfl, List.Pairwise.nil⟩, Nat.le_refl _, (Below.refl _ _).alloc (Nat.le_refl _) _⟩
end Go.Proofs.Ytfgmhidgkemfoaa
namespace Go.Proofs.Ytfgmhidgkemfoaa
open Go.RowKit
set_option linter.unusedSimpArgs false
set_option linter.unusedVariables false
attribute [local go_sem ↓] exec_loadPair exec_storePair exec_at_zeroP exec_at_succP Go.wp_at_zero Go.wp_at_succ
attribute [local go_sem] run_storePair
def Dpt9 : List (Option Tmp) := [some 47, some 48, some 49, some 50, some 51, some 52, some 10]
def Lpt9 : List (List Nat) := [[], [0], [1], [2], [], [3, 4], [5]]
def PutT (w : World) (t : Option BT) (H : Nat) (p : KV) (e : Ending) (w' : World) : Prop := ∃ g' t' H', e = .returned (.pointer (some ⟨g', 0, none⟩)) ∧ TT w' g' t' H' ∧ treeL t' = insL (treeL t) p ∧ (H' = H ∨ H' = H + 1) ∧ (∀ P, tcnt P t' ≤ tcnt P t + (3 * H + 2)) ∧ Below w.heap.size w w'
set_option maxRecDepth 100000 in
set_option maxHeartbeats 4000000 in
theorem put_bad {w : World} {g : Nat} (key value : ByteArray) (hbad : ¬ (key.size ≤ 60 ∧ value.size ≤ 1000)) :
    Calls Try.prog 25 #[.pointer (some ⟨g, 0, none⟩), .string key, .string value] w fun e w' => e = .returned (.pointer (some ⟨g, 0, none⟩)) ∧ w = w' := by
  by_cases hk : 60 < key.size
  · have hk' : (60 : Int) < (key.size : Int) := by omega
    go_enter Try.func25, Try.ntmps25
    go_wp2_with fail
    go_ret
    exact ⟨rfl, rfl⟩
  · have hk' : ¬ (60 : Int) < (key.size : Int) := by omega
    have hv' : (1000 : Int) < (value.size : Int) := by omega
    go_enter Try.func25, Try.ntmps25
    go_wp2_with fail
    go_ret
    exact ⟨rfl, rfl⟩
theorem run_bld94a (a : Option Addr) (n c : Nat) (W : World) : (Instr.build 94 #[(0, .slice a n c)]).run Try.prog W = .ok (.agg #[.slice a n c, .slice none 0 0]) W := by kernel_rfl
theorem run_bld94b (a : Option Addr) (n c : Nat) (W : World) : (Instr.build 94 #[(1, .slice a n c)]).run Try.prog W = .ok (.agg #[.slice none 0 0, .slice a n c]) W := by kernel_rfl
theorem run_bld87 (x : Option Addr) (n : Int) (W : World) : (Instr.build 87 #[(0, .pointer x), (1, .int .i64 n)]).run Try.prog W = .ok (.agg #[.pointer x, .int .i64 n]) W := by kernel_rfl
theorem tree_made {q5 : World} {T : BT} {k : Nat} (hnd : NdD (fun _ => True) q5 T) (hs : T.Sh k) (h8 : T.ps.length ≤ 8) (h1 : 1 ≤ T.ps.length) (hso : Sorted T.toL) (n : Int) (hn : n = (T.toL.length : Int)) : TT (q5.alloc (.cells #[.pointer (some ⟨T.g, 0, none⟩), .int .i64 n] 87)) q5.heap.size (some T) (k + 1) := by
  refine ⟨⟨.pointer (some ⟨T.g, 0, none⟩), ?_, T.g, rfl, rfl, hnd.under ((Below.refl _ _).alloc (Nat.le_refl _) _)⟩, ⟨(wf_iff _ _).2 ⟨h8, hs⟩, h1⟩, hso⟩
  rw [hn]
  exact heap_new rfl
theorem put_fin {w q p q5 : World} {b T : BT} {k H : Nat} {kv : KV} {n : Int} (hso : Sorted (treeL (some b)) ∧ Below w.heap.size w q) (h1 : Below q.heap.size q p) (h2 : Below p.heap.size p q5) (hnd : NdD (fun _ => True) q5 T) (hs : T.Sh k) (h8 : T.ps.length ≤ 8) (hl : 1 ≤ T.ps.length) (hlist : T.toL = insL b.toL kv) (hn : n = ((insL b.toL kv).length : Int)) (hH : k + 1 = H ∨ k + 1 = H + 1) (hc : ∀ P, T.cnt P ≤ tcnt P (some b) + (3 * H + 2)) : PutT w (some b) H kv (.returned (.pointer (some ⟨q5.heap.size, 0, none⟩))) (q5.alloc (.cells #[.pointer (some ⟨T.g, 0, none⟩), .int .i64 n] 87)) := by
  have hb : Below w.heap.size w q5 := (hso.2.trans (h1.mono hso.2.size)).trans (h2.mono (Nat.le_trans hso.2.size h1.size))
  exact ⟨_, some T, k + 1, rfl, tree_made hnd hs h8 hl (by rw [hlist]; exact insL_sorted hso.1) n (by rw [hlist]; exact hn), hlist, hH, hc, hb.alloc hb.size _⟩
theorem put_none {w q : World} {H : Nat} (hH : TOk none H) (hb : Below w.heap.size w q) (key value : ByteArray) : PutT w none H ⟨key, value⟩ (.returned (.pointer (some ⟨q.heap.size + 1 + 1, 0, none⟩))) (((q.alloc (.cells #[.string key, .string value] 65)).alloc (.cells #[.slice (some ⟨q.heap.size, 0, none⟩) 1 1, .slice none 0 0] 94)).alloc (.cells #[.pointer (some ⟨q.heap.size + 1, 0, none⟩), .int .i64 1] 87)) := by
  obtain ⟨q5, hq5⟩ : ∃ q5, q5 = (q.alloc (.cells #[.string key, .string value] 65)).alloc (.cells #[.slice (some ⟨q.heap.size, 0, none⟩) 1 1, .slice none 0 0] 94) := ⟨_, rfl⟩
  have hsz : q5.heap.size = q.heap.size + 1 + 1 := by rw [hq5]; simp
  have hb5 : Below w.heap.size w q5 := by rw [hq5]; exact (hb.alloc hb.size _).alloc (by have := hb.size; simp; omega) _
  have h1 : q5.heap[q.heap.size]? = some (.cells #[.string key, .string value] 65 (0, 0)) := by rw [hq5]; exact heap_old (heap_new rfl)
  have h2 : q5.heap[q.heap.size + 1]? = some (.cells #[.slice (some ⟨q.heap.size, 0, none⟩) 1 1, .slice none 0 0] 94 (0, 0)) := by rw [hq5]; exact heap_new (by simp)
  have hnd : NdD (fun _ => True) q5 (.mk (q.heap.size + 1) [⟨key, value⟩] []) := by
    refine .mk trivial h2 ⟨rfl, rfl, Nat.le_refl _, by unfold maxLen; omega, (fun e => by cases e), fun _ => ⟨q.heap.size, 0, trivial, rfl, fun j u hj => ?_⟩⟩ ⟨rfl, rfl, Nat.le_refl _, Nat.zero_le _, (fun _ => rfl), fun h => absurd h (by omega)⟩ (fun _ h => by cases h)
    rw [Nat.zero_add, cell_of_row q5 _ j _ _ _ h1]
    simpa [pcells, KV.cells] using hj
  rw [← hq5, ← hsz]
  have e1 : (BT.mk (q.heap.size + 1) [⟨key, value⟩] []).toL = [⟨key, value⟩] := by rw [toL_mk, toLs_leaf]
  have hH0 : H = 0 := hH
  refine ⟨_, some (.mk (q.heap.size + 1) [⟨key, value⟩] []), 1, rfl, tree_made hnd (.inl ⟨rfl, rfl⟩) (by show 1 ≤ 8; omega) (by show 1 ≤ 1; omega) (by rw [e1]; exact List.pairwise_singleton _ _) 1 (by rw [e1]; rfl), e1, .inr (by omega), fun P => ?_, hb5.alloc hb5.size _⟩
  show (BT.mk (q.heap.size + 1) [⟨key, value⟩] []).cnt P ≤ _
  rw [cnt_mk, cntL_nil]
  have := toNat_le (P (q.heap.size + 1))
  omega
set_option maxRecDepth 100000 in
set_option maxHeartbeats 4000000 in
theorem put_tree {w : World} {g : Nat} {t : Option BT} {H : Nat} (h : TT w g t H) (hlen : (treeL t).length ≤ 1000000) (key value : ByteArray) (hk : key.size ≤ 60) (hv : value.size ≤ 1000) :
    Calls Try.prog 25 #[.pointer (some ⟨g, 0, none⟩), .string key, .string value] w (PutT w t H ⟨key, value⟩) := by
  have hk' : ¬ (60 : Int) < (key.size : Int) := by omega
  have hv' : ¬ (1000 : Int) < (value.size : Int) := by omega
  have hbs := run_bs1P key value
  have hb1 := run_bld94a
  have hb2 := run_bld87
  have mixed : Try.prog.follows .mixedOrders = true := by kernel_rfl
  obtain ⟨gb, hgb⟩ : ∃ gb, gb = w.heap.size := ⟨_, rfl⟩
  obtain ⟨q, hq⟩ : ∃ q, q = (w.alloc (.cells #[.string ⟨#[]⟩, .string ⟨#[]⟩] 65)).setRow w.heap.size #[.string key, .string value] := ⟨_, rfl⟩
  have hbq : Below w.heap.size w q := by rw [hq]; exact (((Kept.refl (fun _ => False) w).alloc _).setRow (fun h => absurd h (Nat.lt_irrefl _)) _).below (Nat.le_refl _) (fun _ _ h => h)
  have hbb : q.heap[gb]? = some (.cells (kcells ⟨key, value⟩) 65 (0, 0)) := by rw [hq, hgb]; exact setRow_heap _ _ _ _ _ _ (heap_new rfl)
  have hTq := h.under hbq
  obtain ⟨v, cv0, cv1, hroot⟩ := hTq.tr.facts
  have HTQ := Lib.hid hTq
  have HBQ := Lib.hid hbq
  have HBB := Lib.hid hbb
  have HL := Lib.hid hlen
  have HSO := Lib.hid h.so
  have HOK := Lib.hid h.ok
  have p7 : PB (w.alloc (.cells #[.string ⟨#[]⟩, .string ⟨#[]⟩] 65)) w.heap.size := ⟨⟨⟨#[]⟩, ⟨#[]⟩⟩, heap_new rfl⟩
  cases t with
  | none =>
    have hv : v = .pointer none := hroot
    subst hv
    clear h hlen hTq hbq hbb hroot
    go_enter Try.func25, Try.ntmps25
    go_upto_region 4 with fail
    rw [← hq, ← hgb]
    have ld0 := run_loadPair (range_kv HBB.out)
    clear hq hgb p7
    go_wp2_with fail
    go_ret
    exact put_none HOK.out HBQ.out key value
  | some b =>
    obtain ⟨bg, rfl, hbn⟩ := hroot
    obtain ⟨rfl, hbd⟩ := hbn
    obtain ⟨k, rfl⟩ : ∃ k, H = k + 1 := by
      rcases H with _ | k
      · exact h.ok.1.elim
      · exact ⟨k, rfl⟩
    have hwf := (wf_iff _ _).1 h.ok.1
    have HW := Lib.hid hwf
    have HB1 : Hid (1 ≤ b.ps.length) := Lib.hid h.ok.2
    have HB8 : Hid (1 ≤ b.ps.length ∧ b.ps.length ≤ 8) := Lib.hid ⟨h.ok.2, hwf.1⟩
    have HTW := Lib.hid h
    have HGET := Lib.hid (get_any hTq.tr hTq.ok hTq.so key)
    obtain ⟨G, hG⟩ : ∃ G, G = gotF (floorL (treeL (some b)) key) key := ⟨_, rfl⟩
    rw [← hG] at HGET
    have HGG := Lib.hid hG
    have HBD := Lib.hid hbd
    have HGL0 : Hid (g < q.heap.size) := Lib.hid hTq.lt
    have hn1 : IntKind.i64.wrap (((treeL (some b)).length : Int) + 1) = ((treeL (some b)).length : Int) + 1 := i64_id _ (by omega) (by omega)
    obtain ⟨bg, hbg⟩ : ∃ bg, bg = b.g := ⟨_, rfl⟩
    rw [← hbg] at cv0
    have HBG := Lib.hid hbg
    clear h hlen hTq hbq hbb hG hbd hwf hbg
    go_enter Try.func25, Try.ntmps25
    go_upto_region 4 with fail
    rw [← hq, ← hgb]
    clear hq hgb p7
    cases G with
    | none =>
      have HGET2 : Hid (Calls Try.prog 36 #[.pointer (some ⟨g, 0, none⟩), .string key] q fun e w' => e = .returned (.tuple #[.string ⟨#[]⟩, .bool false]) ∧ Below q.heap.size q w') := HGET
      clear HGET
      have HLEN : Hid ((((treeL (some b)).length : Int) + 1) = ((insL b.toL ⟨key, value⟩).length : Int)) := Lib.hid (by
        rw [insL_len_new (fun x hx => got_none (l := b.toL) (key := key) HSO.out HGG.out.symm x hx)]
        rfl)
      go_upto_region 9 with (go_at_call 36; refine HGET2.out.mono ?_; rintro e q2 ⟨rfl, hb2⟩; obtain ⟨q, hqq⟩ : ∃ q', q' = q2 := ⟨_, rfl⟩; subst hqq; have HBQ2 : Hid (Sorted (treeL (some b)) ∧ Below w.heap.size w q) := Lib.hid ⟨HSO.out, HBQ.out.trans (hb2.mono HBQ.out.size)⟩; have HRB : Hid (q.rangeAt gb 0 (KV.mk key value).cells) := Lib.hid (range_kv ((hb2.block _ (heap_lt HBB.out)).trans HBB.out)); have HGL : Hid (g < q.heap.size) := Lib.hid (Nat.lt_of_lt_of_le HGL0.out hb2.size); have CG0 : Hid (q.cell? ⟨g, 0, none⟩ = some (.pointer (some ⟨bg, 0, none⟩))) := Lib.hid ((hb2.cell (p := ⟨g, 0, none⟩) HGL0.out).trans cv0); have CG1 : Hid (q.cell? ⟨g, 1, none⟩ = some (.int .i64 ((treeL (some b)).length : Int))) := Lib.hid ((hb2.cell (p := ⟨g, 1, none⟩) HGL0.out).trans cv1); have HPUT : Hid (∀ p, Below q.heap.size q p → Calls Try.prog 50 #[.pointer (some ⟨bg, 0, none⟩), .agg #[.string key, .string value]] p (PutRes (fun _ => True) p k b ⟨key, value⟩)) := Lib.hid (fun p hp => by rw [HBG.out]; exact put_any key value k ((HBD.out.under hb2).under hp) HW.out.2 HW.out.1 HB1.out HSO.out); clear hb2)
      clear cv0 cv1
      refine Roll.region_f 6 81 Dpt9 Lpt9 [(0, .pointer (some ⟨g, 0, none⟩)), (7, .pointer (some ⟨gb, 0, none⟩))] (fun p => Below q.heap.size q p) (fun p p2 => Below p.heap.size p p2) [fun vv p => vv = .pointer (some ⟨g, 0, none⟩), fun vv p => vv = .pointer (some ⟨g, 0, none⟩), fun vv p => vv = .pointer (some ⟨g, 0, none⟩), fun vv p => vv = .pointer (some ⟨bg, 0, none⟩), fun vv p => vv = .agg #[.string key, .string value], fun vv p => ∃ r : BT, vv = .pointer (some ⟨r.g, 0, none⟩) ∧ NdD (fun _ => True) p r ∧ PutOf k b r ⟨key, value⟩] (by kernel_rfl) (by kernel_rfl) rfl ⟨rfl, rfl, trivial⟩ ((Below.refl _ _).drew) ?_ ?_ ?_
      · exact ⟨fun _ _ _ _ h => h, fun _ _ _ _ h => h, fun _ _ _ _ h => h, fun _ _ _ _ h => h, fun _ _ _ _ h => h, fun _ _ _ hs h => by obtain ⟨r, e1, e2, e3⟩ := h; exact ⟨r, e1, e2.under hs, e3⟩, trivial⟩
      · intro b0 hN hlv
        refine ⟨?_, ?_, ?_, ?_, ?_, ?_, trivial⟩
        · intro vs p hI hp
          have e0 : (Roll.putD Dpt9 vs [] b0).eval (.tmp 0) = .pointer (some ⟨g, 0, none⟩) := (Roll.eval_old rfl).trans (hlv.at 0 (0, .pointer (some ⟨g, 0, none⟩)) rfl)
          clear hp hlv hN
          unfold Roll.Goes
          simp only [Lpt9, List.getD_cons_zero, List.getD_cons_succ]
          generalize Roll.putD Dpt9 vs [] b0 = a1 at *
          refine Roll.goes_val (w' := p) (.pointer (some ⟨g, 0, none⟩)) rfl ?_ ⟨hI, Below.refl _ _, rfl⟩
          (have ec : ∀ x, a1.eval (.const x) = x := fun _ => rfl); (have ef : ∀ x, a1.eval (.func x) = .func (.func x) #[] #[] := fun _ => rfl); generalize a1.eval = ρ at *
          skip
          go_simp <;> (intros; first | (exfalso; omega) | rfl)
        · intro vs p hI hp
          have h0 : (vs 0) = .pointer (some ⟨g, 0, none⟩) := hp 0 (by simp [Lpt9])
          have e47 : (Roll.putD Dpt9 vs [0] b0).eval (.tmp 47) = .pointer (some ⟨g, 0, none⟩) := (Roll.eval_new 0 rfl (by decide) (by decide) (by omega)).trans h0
          clear hp hlv hN
          unfold Roll.Goes
          simp only [Lpt9, List.getD_cons_zero, List.getD_cons_succ]
          generalize Roll.putD Dpt9 vs [0] b0 = a1 at *
          refine Roll.goes_val (w' := p) (.pointer (some ⟨g, 0, none⟩)) rfl ?_ ⟨hI, Below.refl _ _, rfl⟩
          (have ec : ∀ x, a1.eval (.const x) = x := fun _ => rfl); (have ef : ∀ x, a1.eval (.func x) = .func (.func x) #[] #[] := fun _ => rfl); generalize a1.eval = ρ at *
          clear h0
          go_simp <;> (intros; first | (exfalso; omega) | rfl)
        · intro vs p hI hp
          have h1 : (vs 1) = .pointer (some ⟨g, 0, none⟩) := hp 1 (by simp [Lpt9])
          have e48 : (Roll.putD Dpt9 vs [1] b0).eval (.tmp 48) = .pointer (some ⟨g, 0, none⟩) := (Roll.eval_new 1 rfl (by decide) (by decide) (by omega)).trans h1
          clear hp hlv hN
          unfold Roll.Goes
          simp only [Lpt9, List.getD_cons_zero, List.getD_cons_succ]
          generalize Roll.putD Dpt9 vs [1] b0 = a1 at *
          refine Roll.goes_val (w' := p) (.pointer (some ⟨g, 0, none⟩)) rfl ?_ ⟨hI, Below.refl _ _, rfl⟩
          (have ec : ∀ x, a1.eval (.const x) = x := fun _ => rfl); (have ef : ∀ x, a1.eval (.func x) = .func (.func x) #[] #[] := fun _ => rfl); generalize a1.eval = ρ at *
          clear h1
          go_simp <;> (intros; first | (exfalso; omega) | rfl)
        · intro vs p hI hp
          have h2 : (vs 2) = .pointer (some ⟨g, 0, none⟩) := hp 2 (by simp [Lpt9])
          have e49 : (Roll.putD Dpt9 vs [2] b0).eval (.tmp 49) = .pointer (some ⟨g, 0, none⟩) := (Roll.eval_new 2 rfl (by decide) (by decide) (by omega)).trans h2
          clear hp hlv hN
          unfold Roll.Goes
          simp only [Lpt9, List.getD_cons_zero, List.getD_cons_succ]
          generalize Roll.putD Dpt9 vs [2] b0 = a1 at *
          have cf : p.cell? ⟨g, 0, none⟩ = some (.pointer (some ⟨bg, 0, none⟩)) := (hI.cell (p := ⟨g, 0, none⟩) HGL.out).trans CG0.out
          refine Roll.goes_val (w' := p) (.pointer (some ⟨bg, 0, none⟩)) rfl ?_ ⟨hI, Below.refl _ _, rfl⟩
          (have ec : ∀ x, a1.eval (.const x) = x := fun _ => rfl); (have ef : ∀ x, a1.eval (.func x) = .func (.func x) #[] #[] := fun _ => rfl); generalize a1.eval = ρ at *
          clear h2
          go_simp <;> (intros; first | (exfalso; omega) | rfl)
        · intro vs p hI hp
          have e7 : (Roll.putD Dpt9 vs [] b0).eval (.tmp 7) = .pointer (some ⟨gb, 0, none⟩) := (Roll.eval_old rfl).trans (hlv.at 1 (7, .pointer (some ⟨gb, 0, none⟩)) rfl)
          clear hp hlv hN
          unfold Roll.Goes
          simp only [Lpt9, List.getD_cons_zero, List.getD_cons_succ]
          generalize Roll.putD Dpt9 vs [] b0 = a1 at *
          have ld0 := run_loadPair (range_below HRB.out (by simp [KV.cells]) hI)
          refine Roll.goes_val (w' := p) (.agg #[.string key, .string value]) rfl ?_ ⟨hI, Below.refl _ _, rfl⟩
          (have ec : ∀ x, a1.eval (.const x) = x := fun _ => rfl); (have ef : ∀ x, a1.eval (.func x) = .func (.func x) #[] #[] := fun _ => rfl); generalize a1.eval = ρ at *
          skip
          go_simp <;> (intros; first | (exfalso; omega) | rfl)
        · intro vs p hI hp
          have h3 : (vs 3) = .pointer (some ⟨bg, 0, none⟩) := hp 3 (by simp [Lpt9])
          have h4 : (vs 4) = .agg #[.string key, .string value] := hp 4 (by simp [Lpt9])
          have e50 : (Roll.putD Dpt9 vs [3, 4] b0).eval (.tmp 50) = .pointer (some ⟨bg, 0, none⟩) := (Roll.eval_new 3 rfl (by decide) (by decide) (by omega)).trans h3
          have e51 : (Roll.putD Dpt9 vs [3, 4] b0).eval (.tmp 51) = .agg #[.string key, .string value] := (Roll.eval_new 4 rfl (by decide) (by decide) (by omega)).trans h4
          clear hp hlv hN
          unfold Roll.Goes
          simp only [Lpt9, List.getD_cons_zero, List.getD_cons_succ]
          generalize Roll.putD Dpt9 vs [3, 4] b0 = a1 at *
          refine Roll.goes_call 50 #[.pointer (some ⟨bg, 0, none⟩), .agg #[.string key, .string value]] p rfl (by have ec : ∀ x, a1.eval (.const x) = x := fun _ => rfl; have ef : ∀ x, a1.eval (.func x) = .func (.func x) #[] #[] := fun _ => rfl; generalize a1.eval = ρ at *; go_simp) ?_
          refine (HPUT.out p hI).mono ?_
          rintro y p2 ⟨r, rfl, hnd, hb2, hpo⟩
          exact ⟨_, rfl, hI.trans (hb2.mono hI.size), hb2, r, rfl, hnd.dom (fun _ _ => trivial), hpo⟩
      · intro vs p hI hR
        have h0 : (vs 0) = .pointer (some ⟨g, 0, none⟩) := hR 0 (by omega)
        have h1 : (vs 1) = .pointer (some ⟨g, 0, none⟩) := hR 1 (by omega)
        have h2 : (vs 2) = .pointer (some ⟨g, 0, none⟩) := hR 2 (by omega)
        have h3 : (vs 3) = .pointer (some ⟨bg, 0, none⟩) := hR 3 (by omega)
        have h4 : (vs 4) = .agg #[.string key, .string value] := hR 4 (by omega)
        have h5 : ∃ r : BT, (vs 5) = .pointer (some ⟨r.g, 0, none⟩) ∧ NdD (fun _ => True) p r ∧ PutOf k b r ⟨key, value⟩ := hR 5 (by omega)
        clear hR
        simp only [List.range_succ, List.range_zero, List.nil_append, List.cons_append, Roll.putD, Act.put, List.getD_cons_zero, List.getD_cons_succ, List.setIfInBounds_toArray, List.set_cons_zero, List.set_cons_succ, List.drop_succ_cons, List.drop_zero, Dpt9]
        simp only [h0, h1, h2, h3, h4]
        clear h0 h1 h2 h3 h4
        generalize vs 5 = v5 at *
        obtain ⟨r, rfl, hnd, hpo⟩ := h5
        have HND := Lib.hid hnd
        have HPO := Lib.hid hpo
        have HI := Lib.hid hI
        obtain ⟨aR, nR, cR, bR, mR, eR, -, -, cr0, -, hrp, -, -⟩ := hnd.facts
        have hnr := hrp.1
        have hncr : nR ≤ cR := hrp.2.2.1
        have hcr : cR ≤ 9223372036854775807 := hrp.2.2.2.1
        subst hnr
        obtain ⟨rn, hrn⟩ : ∃ rn, rn = r.ps.length := ⟨_, rfl⟩
        rw [← hrn] at cr0 hncr
        have HRN := Lib.hid hrn
        have cg1 := (hI.cell (p := ⟨g, 1, none⟩) HGL.out).trans CG1.out
        have HSOR : Hid (Sorted r.toL) := Lib.hid (by rw [hpo.list]; exact insL_sorted HSO.out)
        by_cases h8 : 8 < rn
        · have h8' : (8 : Int) < (rn : Int) := by omega
          have hbn := run_bs1N r.g
          have hb94 := run_bld94b
          clear hnd hpo hI hrp hrn
          go_upto_region 12 with fail
          obtain ⟨q4, hq4⟩ : ∃ q4, q4 = (p.alloc (.cells #[.pointer (some ⟨r.g, 0, none⟩)] 85)).alloc (.cells #[.slice none 0 0, .slice (some ⟨p.heap.size, 0, none⟩) 1 1] 94) := ⟨_, rfl⟩
          obtain ⟨gN, hgN⟩ : ∃ gN, gN = p.heap.size + 1 := ⟨_, rfl⟩
          have hb4 : Below p.heap.size p q4 := by rw [hq4]; exact ((Below.refl _ _).alloc (Nat.le_refl _) _).alloc (by simp) _
          have hON : ON (fun _ => True) p q4 gN [] [r] [] := by
            have hg1 : q4.heap[p.heap.size]? = some (.cells #[.pointer (some ⟨r.g, 0, none⟩)] 85 (0, 0)) := by rw [hq4]; exact heap_old (heap_new rfl)
            have hg2 : q4.heap[gN]? = some (.cells #[.slice none 0 0, .slice (some ⟨p.heap.size, 0, none⟩) 1 1] 94 (0, 0)) := by rw [hq4, hgN]; exact heap_new (by simp)
            refine ⟨none, some p.heap.size, _, _, hg2, Own.nil _ _ _, Own.of hg1 (Nat.le_refl _) (by unfold maxLen; simp) rfl (by simp [pnts]), (by simp), (fun e => by cases e; omega), (fun _ e => by cases e), by omega, (fun _ e => by cases e), (fun j e => by cases e; exact Nat.le_refl _), fun x hx => ?_, hb4⟩
            have hx : x = r := by simpa using hx
            subst hx
            exact HND.out.off hb4 (by omega) (fun _ e => by cases e) (fun j e => by cases e; exact Nat.le_refl _)
          rw [← hq4, ← hgN]
          have HB4 := Lib.hid hb4
          have g0 : 0 < ([r] : List BT).length := by simp
          have g3 : 3 ≤ ([r] : List BT)[0].ps.length := by show 3 ≤ r.ps.length; have := HRN.out; omega
          have g9 : ([r] : List BT)[0].ps.length ≤ 900 := by show r.ps.length ≤ 900; have := HPO.out.high; have := HB8.out; omega
          have HSP := Lib.hid (split_any hON 0 g0 rfl (by simp) HPO.out.sh.lens g3 g9)
          have CG1P : Hid (∀ u, Below p.heap.size p u → u.cell? ⟨g, 1, none⟩ = some (.int .i64 ((treeL (some b)).length : Int))) := Lib.hid (fun u hu => (hu.cell (p := ⟨g, 1, none⟩) (Nat.lt_of_lt_of_le HGL.out HI.out.size)).trans cg1)
          clear hq4 hgN hb4 hON cg1 cr0
          go_wp2_with (go_at_call 51; refine HSP.out.mono ?_; rintro e q5 ⟨rfl, LL, RR, hon, l1, l2, r1, r2⟩; have HB5 := Lib.hid (by obtain ⟨_, _, _, _, h⟩ := hon; exact h.below : Below p.heap.size p q5); have cg5 := CG1P.out q5 HB5.out; have HON5 := Lib.hid hon; have HL5 := Lib.hid (And.intro l1 (And.intro l2 (And.intro r1 r2))); clear hon l1 l2 r1 r2)
          go_ret
          obtain ⟨l1, l2, r1, r2⟩ := HL5.out
          obtain ⟨m1, m2, m3, m4⟩ := split_math rfl (HPO.out.sh : (([r] : List BT)[0]).Sh k) (by show 7 ≤ r.ps.length; have := HRN.out; omega) (by show r.ps.length ≤ 16; have := HPO.out.high; have := HB8.out; omega) l1 l2 r1 r2
          have hnd5 := HON5.out
          obtain ⟨_, _, _, _, hnd5⟩ := hnd5
          have hnd6 := hnd5.nd.dom (D' := fun _ => True) (fun _ _ => trivial)
          refine put_fin HBQ2.out HI.out HB5.out hnd6 (k := k + 1) (.inr ⟨by omega, rfl, ?_⟩) (by show 1 ≤ 8; omega) (by show 1 ≤ 1; omega) ?_ ?_ (.inr rfl) ?_
          · intro x hx
            have hx : x ∈ [LL, RR] := hx
            have hx : x = LL ∨ x = RR := by simpa using hx
            rcases hx with rfl | rfl
            · exact m1
            · exact m2
          · rw [toL_mk]
            show toLs [_] [LL, RR] = _
            rw [toLs_cons, toLs_last]
            exact m3.symm.trans HPO.out.list
          · exact HLEN.out
          · intro P
            have h1 : LL.cnt P + RR.cnt P ≤ cntL P r.ks + 2 := m4 P
            have h2 := HPO.out.cnt P
            have h3 := cnt_eq P r
            have h4 := toNat_le (P gN)
            rw [cnt_mk]
            show _ + cntL P [LL, RR] ≤ _
            rw [cntL_cons, cntL_cons, cntL_nil]
            have h6 : tcnt P (some b) = b.cnt P := rfl
            omega
        · have h8' : ¬ (8 : Int) < (rn : Int) := by omega
          clear hnd hpo hI hrp hrn
          go_wp2_with fail
          go_ret
          refine put_fin HBQ2.out HI.out (Below.refl _ _) HND.out HPO.out.sh (by have := HRN.out; omega) (by have := HPO.out.low; have := HB8.out; omega) HPO.out.list ?_ (.inl rfl) ?_
          · exact HLEN.out
          · intro P
            have h2 := HPO.out.cnt P
            have h6 : tcnt P (some b) = b.cnt P := rfl
            omega
    | some v2 =>
      have HGET2 : Hid (Calls Try.prog 36 #[.pointer (some ⟨g, 0, none⟩), .string key] q fun e w' => e = .returned (.tuple #[.string v2, .bool true]) ∧ Below q.heap.size q w') := HGET
      clear HGET
      have HMEM : Hid (KV.mk key v2 ∈ b.toL) := Lib.hid (got_some HGG.out.symm)
      by_cases hvv : v2 = value
      · subst hvv
        have HRET : Hid (∀ u, Below q.heap.size q u → PutT w (some b) (k + 1) ⟨key, v2⟩ (.returned (.pointer (some ⟨g, 0, none⟩))) u) := Lib.hid (fun u hu => ⟨g, some b, k + 1, rfl, HTQ.out.under hu, (insL_same HSO.out HMEM.out).symm, .inl rfl, fun P => by omega, HBQ.out.trans (hu.mono HBQ.out.size)⟩)
        have hveq : (v2.toList == v2.toList) = true := by simp
        go_wp2_with (go_at_call 36; refine HGET2.out.mono ?_; rintro e q2 ⟨rfl, hb2⟩; have HB2 := Lib.hid hb2; clear hb2)
        go_ret
        exact HRET.out _ HB2.out
      · have hveq : (v2.toList == value.toList) = false := by rw [str_beq]; exact decide_eq_false hvv
        have HLEN : Hid ((((treeL (some b)).length : Int)) = ((insL b.toL ⟨key, value⟩).length : Int)) := Lib.hid (by
          rw [insL_len_old (l := b.toL) (p := ⟨key, value⟩) HSO.out HMEM.out rfl]
          rfl)
        go_upto_region 9 with (go_at_call 36; refine HGET2.out.mono ?_; rintro e q2 ⟨rfl, hb2⟩; obtain ⟨q, hqq⟩ : ∃ q', q' = q2 := ⟨_, rfl⟩; subst hqq; have HBQ2 : Hid (Sorted (treeL (some b)) ∧ Below w.heap.size w q) := Lib.hid ⟨HSO.out, HBQ.out.trans (hb2.mono HBQ.out.size)⟩; have HRB : Hid (q.rangeAt gb 0 (KV.mk key value).cells) := Lib.hid (range_kv ((hb2.block _ (heap_lt HBB.out)).trans HBB.out)); have HGL : Hid (g < q.heap.size) := Lib.hid (Nat.lt_of_lt_of_le HGL0.out hb2.size); have CG0 : Hid (q.cell? ⟨g, 0, none⟩ = some (.pointer (some ⟨bg, 0, none⟩))) := Lib.hid ((hb2.cell (p := ⟨g, 0, none⟩) HGL0.out).trans cv0); have CG1 : Hid (q.cell? ⟨g, 1, none⟩ = some (.int .i64 ((treeL (some b)).length : Int))) := Lib.hid ((hb2.cell (p := ⟨g, 1, none⟩) HGL0.out).trans cv1); have HPUT : Hid (∀ p, Below q.heap.size q p → Calls Try.prog 50 #[.pointer (some ⟨bg, 0, none⟩), .agg #[.string key, .string value]] p (PutRes (fun _ => True) p k b ⟨key, value⟩)) := Lib.hid (fun p hp => by rw [HBG.out]; exact put_any key value k ((HBD.out.under hb2).under hp) HW.out.2 HW.out.1 HB1.out HSO.out); clear hb2)
        clear cv0 cv1
        refine Roll.region_f 6 81 Dpt9 Lpt9 [(0, .pointer (some ⟨g, 0, none⟩)), (7, .pointer (some ⟨gb, 0, none⟩))] (fun p => Below q.heap.size q p) (fun p p2 => Below p.heap.size p p2) [fun vv p => vv = .pointer (some ⟨g, 0, none⟩), fun vv p => vv = .pointer (some ⟨g, 0, none⟩), fun vv p => vv = .pointer (some ⟨g, 0, none⟩), fun vv p => vv = .pointer (some ⟨bg, 0, none⟩), fun vv p => vv = .agg #[.string key, .string value], fun vv p => ∃ r : BT, vv = .pointer (some ⟨r.g, 0, none⟩) ∧ NdD (fun _ => True) p r ∧ PutOf k b r ⟨key, value⟩] (by kernel_rfl) (by kernel_rfl) rfl ⟨rfl, rfl, trivial⟩ ((Below.refl _ _).drew) ?_ ?_ ?_
        · exact ⟨fun _ _ _ _ h => h, fun _ _ _ _ h => h, fun _ _ _ _ h => h, fun _ _ _ _ h => h, fun _ _ _ _ h => h, fun _ _ _ hs h => by obtain ⟨r, e1, e2, e3⟩ := h; exact ⟨r, e1, e2.under hs, e3⟩, trivial⟩
        · intro b0 hN hlv
          refine ⟨?_, ?_, ?_, ?_, ?_, ?_, trivial⟩
          · intro vs p hI hp
            have e0 : (Roll.putD Dpt9 vs [] b0).eval (.tmp 0) = .pointer (some ⟨g, 0, none⟩) := (Roll.eval_old rfl).trans (hlv.at 0 (0, .pointer (some ⟨g, 0, none⟩)) rfl)
            clear hp hlv hN
            unfold Roll.Goes
            simp only [Lpt9, List.getD_cons_zero, List.getD_cons_succ]
            generalize Roll.putD Dpt9 vs [] b0 = a1 at *
            refine Roll.goes_val (w' := p) (.pointer (some ⟨g, 0, none⟩)) rfl ?_ ⟨hI, Below.refl _ _, rfl⟩
            (have ec : ∀ x, a1.eval (.const x) = x := fun _ => rfl); (have ef : ∀ x, a1.eval (.func x) = .func (.func x) #[] #[] := fun _ => rfl); generalize a1.eval = ρ at *
            skip
            go_simp <;> (intros; first | (exfalso; omega) | rfl)
          · intro vs p hI hp
            have h0 : (vs 0) = .pointer (some ⟨g, 0, none⟩) := hp 0 (by simp [Lpt9])
            have e47 : (Roll.putD Dpt9 vs [0] b0).eval (.tmp 47) = .pointer (some ⟨g, 0, none⟩) := (Roll.eval_new 0 rfl (by decide) (by decide) (by omega)).trans h0
            clear hp hlv hN
            unfold Roll.Goes
            simp only [Lpt9, List.getD_cons_zero, List.getD_cons_succ]
            generalize Roll.putD Dpt9 vs [0] b0 = a1 at *
            refine Roll.goes_val (w' := p) (.pointer (some ⟨g, 0, none⟩)) rfl ?_ ⟨hI, Below.refl _ _, rfl⟩
            (have ec : ∀ x, a1.eval (.const x) = x := fun _ => rfl); (have ef : ∀ x, a1.eval (.func x) = .func (.func x) #[] #[] := fun _ => rfl); generalize a1.eval = ρ at *
            clear h0
            go_simp <;> (intros; first | (exfalso; omega) | rfl)
          · intro vs p hI hp
            have h1 : (vs 1) = .pointer (some ⟨g, 0, none⟩) := hp 1 (by simp [Lpt9])
            have e48 : (Roll.putD Dpt9 vs [1] b0).eval (.tmp 48) = .pointer (some ⟨g, 0, none⟩) := (Roll.eval_new 1 rfl (by decide) (by decide) (by omega)).trans h1
            clear hp hlv hN
            unfold Roll.Goes
            simp only [Lpt9, List.getD_cons_zero, List.getD_cons_succ]
            generalize Roll.putD Dpt9 vs [1] b0 = a1 at *
            refine Roll.goes_val (w' := p) (.pointer (some ⟨g, 0, none⟩)) rfl ?_ ⟨hI, Below.refl _ _, rfl⟩
            (have ec : ∀ x, a1.eval (.const x) = x := fun _ => rfl); (have ef : ∀ x, a1.eval (.func x) = .func (.func x) #[] #[] := fun _ => rfl); generalize a1.eval = ρ at *
            clear h1
            go_simp <;> (intros; first | (exfalso; omega) | rfl)
          · intro vs p hI hp
            have h2 : (vs 2) = .pointer (some ⟨g, 0, none⟩) := hp 2 (by simp [Lpt9])
            have e49 : (Roll.putD Dpt9 vs [2] b0).eval (.tmp 49) = .pointer (some ⟨g, 0, none⟩) := (Roll.eval_new 2 rfl (by decide) (by decide) (by omega)).trans h2
            clear hp hlv hN
            unfold Roll.Goes
            simp only [Lpt9, List.getD_cons_zero, List.getD_cons_succ]
            generalize Roll.putD Dpt9 vs [2] b0 = a1 at *
            have cf : p.cell? ⟨g, 0, none⟩ = some (.pointer (some ⟨bg, 0, none⟩)) := (hI.cell (p := ⟨g, 0, none⟩) HGL.out).trans CG0.out
            refine Roll.goes_val (w' := p) (.pointer (some ⟨bg, 0, none⟩)) rfl ?_ ⟨hI, Below.refl _ _, rfl⟩
            (have ec : ∀ x, a1.eval (.const x) = x := fun _ => rfl); (have ef : ∀ x, a1.eval (.func x) = .func (.func x) #[] #[] := fun _ => rfl); generalize a1.eval = ρ at *
            clear h2
            go_simp <;> (intros; first | (exfalso; omega) | rfl)
          · intro vs p hI hp
            have e7 : (Roll.putD Dpt9 vs [] b0).eval (.tmp 7) = .pointer (some ⟨gb, 0, none⟩) := (Roll.eval_old rfl).trans (hlv.at 1 (7, .pointer (some ⟨gb, 0, none⟩)) rfl)
            clear hp hlv hN
            unfold Roll.Goes
            simp only [Lpt9, List.getD_cons_zero, List.getD_cons_succ]
            generalize Roll.putD Dpt9 vs [] b0 = a1 at *
            have ld0 := run_loadPair (range_below HRB.out (by simp [KV.cells]) hI)
            refine Roll.goes_val (w' := p) (.agg #[.string key, .string value]) rfl ?_ ⟨hI, Below.refl _ _, rfl⟩
            (have ec : ∀ x, a1.eval (.const x) = x := fun _ => rfl); (have ef : ∀ x, a1.eval (.func x) = .func (.func x) #[] #[] := fun _ => rfl); generalize a1.eval = ρ at *
            skip
            go_simp <;> (intros; first | (exfalso; omega) | rfl)
          · intro vs p hI hp
            have h3 : (vs 3) = .pointer (some ⟨bg, 0, none⟩) := hp 3 (by simp [Lpt9])
            have h4 : (vs 4) = .agg #[.string key, .string value] := hp 4 (by simp [Lpt9])
            have e50 : (Roll.putD Dpt9 vs [3, 4] b0).eval (.tmp 50) = .pointer (some ⟨bg, 0, none⟩) := (Roll.eval_new 3 rfl (by decide) (by decide) (by omega)).trans h3
            have e51 : (Roll.putD Dpt9 vs [3, 4] b0).eval (.tmp 51) = .agg #[.string key, .string value] := (Roll.eval_new 4 rfl (by decide) (by decide) (by omega)).trans h4
            clear hp hlv hN
            unfold Roll.Goes
            simp only [Lpt9, List.getD_cons_zero, List.getD_cons_succ]
            generalize Roll.putD Dpt9 vs [3, 4] b0 = a1 at *
            refine Roll.goes_call 50 #[.pointer (some ⟨bg, 0, none⟩), .agg #[.string key, .string value]] p rfl (by have ec : ∀ x, a1.eval (.const x) = x := fun _ => rfl; have ef : ∀ x, a1.eval (.func x) = .func (.func x) #[] #[] := fun _ => rfl; generalize a1.eval = ρ at *; go_simp) ?_
            refine (HPUT.out p hI).mono ?_
            rintro y p2 ⟨r, rfl, hnd, hb2, hpo⟩
            exact ⟨_, rfl, hI.trans (hb2.mono hI.size), hb2, r, rfl, hnd.dom (fun _ _ => trivial), hpo⟩
        · intro vs p hI hR
          have h0 : (vs 0) = .pointer (some ⟨g, 0, none⟩) := hR 0 (by omega)
          have h1 : (vs 1) = .pointer (some ⟨g, 0, none⟩) := hR 1 (by omega)
          have h2 : (vs 2) = .pointer (some ⟨g, 0, none⟩) := hR 2 (by omega)
          have h3 : (vs 3) = .pointer (some ⟨bg, 0, none⟩) := hR 3 (by omega)
          have h4 : (vs 4) = .agg #[.string key, .string value] := hR 4 (by omega)
          have h5 : ∃ r : BT, (vs 5) = .pointer (some ⟨r.g, 0, none⟩) ∧ NdD (fun _ => True) p r ∧ PutOf k b r ⟨key, value⟩ := hR 5 (by omega)
          clear hR
          simp only [List.range_succ, List.range_zero, List.nil_append, List.cons_append, Roll.putD, Act.put, List.getD_cons_zero, List.getD_cons_succ, List.setIfInBounds_toArray, List.set_cons_zero, List.set_cons_succ, List.drop_succ_cons, List.drop_zero, Dpt9]
          simp only [h0, h1, h2, h3, h4]
          clear h0 h1 h2 h3 h4
          generalize vs 5 = v5 at *
          obtain ⟨r, rfl, hnd, hpo⟩ := h5
          have HND := Lib.hid hnd
          have HPO := Lib.hid hpo
          have HI := Lib.hid hI
          obtain ⟨aR, nR, cR, bR, mR, eR, -, -, cr0, -, hrp, -, -⟩ := hnd.facts
          have hnr := hrp.1
          have hncr : nR ≤ cR := hrp.2.2.1
          have hcr : cR ≤ 9223372036854775807 := hrp.2.2.2.1
          subst hnr
          obtain ⟨rn, hrn⟩ : ∃ rn, rn = r.ps.length := ⟨_, rfl⟩
          rw [← hrn] at cr0 hncr
          have HRN := Lib.hid hrn
          have cg1 := (hI.cell (p := ⟨g, 1, none⟩) HGL.out).trans CG1.out
          have HSOR : Hid (Sorted r.toL) := Lib.hid (by rw [hpo.list]; exact insL_sorted HSO.out)
          by_cases h8 : 8 < rn
          · have h8' : (8 : Int) < (rn : Int) := by omega
            have hbn := run_bs1N r.g
            have hb94 := run_bld94b
            clear hnd hpo hI hrp hrn
            go_upto_region 12 with fail
            obtain ⟨q4, hq4⟩ : ∃ q4, q4 = (p.alloc (.cells #[.pointer (some ⟨r.g, 0, none⟩)] 85)).alloc (.cells #[.slice none 0 0, .slice (some ⟨p.heap.size, 0, none⟩) 1 1] 94) := ⟨_, rfl⟩
            obtain ⟨gN, hgN⟩ : ∃ gN, gN = p.heap.size + 1 := ⟨_, rfl⟩
            have hb4 : Below p.heap.size p q4 := by rw [hq4]; exact ((Below.refl _ _).alloc (Nat.le_refl _) _).alloc (by simp) _
            have hON : ON (fun _ => True) p q4 gN [] [r] [] := by
              have hg1 : q4.heap[p.heap.size]? = some (.cells #[.pointer (some ⟨r.g, 0, none⟩)] 85 (0, 0)) := by rw [hq4]; exact heap_old (heap_new rfl)
              have hg2 : q4.heap[gN]? = some (.cells #[.slice none 0 0, .slice (some ⟨p.heap.size, 0, none⟩) 1 1] 94 (0, 0)) := by rw [hq4, hgN]; exact heap_new (by simp)
              refine ⟨none, some p.heap.size, _, _, hg2, Own.nil _ _ _, Own.of hg1 (Nat.le_refl _) (by unfold maxLen; simp) rfl (by simp [pnts]), (by simp), (fun e => by cases e; omega), (fun _ e => by cases e), by omega, (fun _ e => by cases e), (fun j e => by cases e; exact Nat.le_refl _), fun x hx => ?_, hb4⟩
              have hx : x = r := by simpa using hx
              subst hx
              exact HND.out.off hb4 (by omega) (fun _ e => by cases e) (fun j e => by cases e; exact Nat.le_refl _)
            rw [← hq4, ← hgN]
            have HB4 := Lib.hid hb4
            have g0 : 0 < ([r] : List BT).length := by simp
            have g3 : 3 ≤ ([r] : List BT)[0].ps.length := by show 3 ≤ r.ps.length; have := HRN.out; omega
            have g9 : ([r] : List BT)[0].ps.length ≤ 900 := by show r.ps.length ≤ 900; have := HPO.out.high; have := HB8.out; omega
            have HSP := Lib.hid (split_any hON 0 g0 rfl (by simp) HPO.out.sh.lens g3 g9)
            have CG1P : Hid (∀ u, Below p.heap.size p u → u.cell? ⟨g, 1, none⟩ = some (.int .i64 ((treeL (some b)).length : Int))) := Lib.hid (fun u hu => (hu.cell (p := ⟨g, 1, none⟩) (Nat.lt_of_lt_of_le HGL.out HI.out.size)).trans cg1)
            clear hq4 hgN hb4 hON cg1 cr0
            go_wp2_with (go_at_call 51; refine HSP.out.mono ?_; rintro e q5 ⟨rfl, LL, RR, hon, l1, l2, r1, r2⟩; have HB5 := Lib.hid (by obtain ⟨_, _, _, _, h⟩ := hon; exact h.below : Below p.heap.size p q5); have cg5 := CG1P.out q5 HB5.out; have HON5 := Lib.hid hon; have HL5 := Lib.hid (And.intro l1 (And.intro l2 (And.intro r1 r2))); clear hon l1 l2 r1 r2)
            go_ret
            obtain ⟨l1, l2, r1, r2⟩ := HL5.out
            obtain ⟨m1, m2, m3, m4⟩ := split_math rfl (HPO.out.sh : (([r] : List BT)[0]).Sh k) (by show 7 ≤ r.ps.length; have := HRN.out; omega) (by show r.ps.length ≤ 16; have := HPO.out.high; have := HB8.out; omega) l1 l2 r1 r2
            have hnd5 := HON5.out
            obtain ⟨_, _, _, _, hnd5⟩ := hnd5
            have hnd6 := hnd5.nd.dom (D' := fun _ => True) (fun _ _ => trivial)
            refine put_fin HBQ2.out HI.out HB5.out hnd6 (k := k + 1) (.inr ⟨by omega, rfl, ?_⟩) (by show 1 ≤ 8; omega) (by show 1 ≤ 1; omega) ?_ ?_ (.inr rfl) ?_
            · intro x hx
              have hx : x ∈ [LL, RR] := hx
              have hx : x = LL ∨ x = RR := by simpa using hx
              rcases hx with rfl | rfl
              · exact m1
              · exact m2
            · rw [toL_mk]
              show toLs [_] [LL, RR] = _
              rw [toLs_cons, toLs_last]
              exact m3.symm.trans HPO.out.list
            · exact HLEN.out
            · intro P
              have h1 : LL.cnt P + RR.cnt P ≤ cntL P r.ks + 2 := m4 P
              have h2 := HPO.out.cnt P
              have h3 := cnt_eq P r
              have h4 := toNat_le (P gN)
              rw [cnt_mk]
              show _ + cntL P [LL, RR] ≤ _
              rw [cntL_cons, cntL_cons, cntL_nil]
              have h6 : tcnt P (some b) = b.cnt P := rfl
              omega
          · have h8' : ¬ (8 : Int) < (rn : Int) := by omega
            clear hnd hpo hI hrp hrn
            go_wp2_with fail
            go_ret
            refine put_fin HBQ2.out HI.out (Below.refl _ _) HND.out HPO.out.sh (by have := HRN.out; omega) (by have := HPO.out.low; have := HB8.out; omega) HPO.out.list ?_ (.inl rfl) ?_
            · exact HLEN.out
            · intro P
              have h2 := HPO.out.cnt P
              have h6 : tcnt P (some b) = b.cnt P := rfl
              omega
end Go.Proofs.Ytfgmhidgkemfoaa
namespace Go.Proofs.Ytfgmhidgkemfoaa
open Go.RowKit
set_option linter.unusedSimpArgs false
set_option linter.unusedVariables false
def DelT (w : World) (t : Option BT) (H : Nat) (key : ByteArray) (e : Ending) (w' : World) : Prop := ∃ g' t' H', e = .returned (.pointer (some ⟨g', 0, none⟩)) ∧ TT w' g' t' H' ∧ treeL t' = delL (treeL t) key ∧ (H' = H ∨ H' + 1 = H) ∧ (∀ P, tcnt P t' ≤ tcnt P t + (3 * H + 2)) ∧ Below w.heap.size w w'
set_option maxRecDepth 100000 in
set_option maxHeartbeats 4000000 in
theorem del_tree {w : World} {g : Nat} {t : Option BT} {H : Nat} (h : TT w g t H) (hlen : (treeL t).length ≤ 1000000) (key : ByteArray) :
    Calls Try.prog 27 #[.pointer (some ⟨g, 0, none⟩), .string key] w (DelT w t H key) := by
  have hb2 := run_bld87
  have HGET := Lib.hid (get_any h.tr h.ok h.so key)
  obtain ⟨G, hG⟩ : ∃ G, G = gotF (floorL (treeL t) key) key := ⟨_, rfl⟩
  rw [← hG] at HGET
  have HT := Lib.hid h
  have HGL := Lib.hid h.lt
  cases G with
  | none =>
    have HGET2 : Hid (Calls Try.prog 36 #[.pointer (some ⟨g, 0, none⟩), .string key] w fun e w' => e = .returned (.tuple #[.string ⟨#[]⟩, .bool false]) ∧ Below w.heap.size w w') := HGET
    have HRET : Hid (∀ u, Below w.heap.size w u → DelT w t H key (.returned (.pointer (some ⟨g, 0, none⟩))) u) := Lib.hid (fun u hu => ⟨g, t, H, rfl, h.under hu, (delL_none (fun p hp => got_none h.so hG.symm p hp)).symm, .inl rfl, fun P => by omega, hu⟩)
    clear HGET h hlen hG
    go_enter Try.func27, Try.ntmps27
    go_wp2_with (go_at_call 36; refine HGET2.out.mono ?_; rintro e q2 ⟨rfl, hb2⟩; have HB2 := Lib.hid hb2; clear hb2)
    go_ret
    exact HRET.out _ HB2.out
  | some v2 =>
    have hmem : KV.mk key v2 ∈ treeL t := got_some hG.symm
    have HGET2 : Hid (Calls Try.prog 36 #[.pointer (some ⟨g, 0, none⟩), .string key] w fun e w' => e = .returned (.tuple #[.string v2, .bool true]) ∧ Below w.heap.size w w') := HGET
    cases t with
    | none => cases hmem
    | some b =>
      obtain ⟨k, rfl⟩ : ∃ k, H = k + 1 := by
        rcases H with _ | k
        · exact h.ok.1.elim
        · exact ⟨k, rfl⟩
      have hwf := (wf_iff _ _).1 h.ok.1
      obtain ⟨v, cv0, cv1, hroot⟩ := h.tr.facts
      obtain ⟨bg, rfl, hbn⟩ := hroot
      obtain ⟨rfl, hbd⟩ := hbn
      have hlen2 : (delL b.toL key).length + 1 = b.toL.length := delL_len (q := ⟨key, v2⟩) h.so hmem
      have HL2 : Hid ((((treeL (some b)).length : Int) - 1) = ((delL b.toL key).length : Int)) := Lib.hid (by
        show ((b.toL.length : Int) - 1) = _
        omega)
      have hn1 : IntKind.i64.wrap (((treeL (some b)).length : Int) - 1) = ((treeL (some b)).length : Int) - 1 := i64_id _ (by omega) (by omega)
      have HREM : Hid (∀ p, Below w.heap.size w p → Calls Try.prog 54 #[.pointer (some ⟨b.g, 0, none⟩), .string key] p (DelRes (fun _ => True) p k b key)) := Lib.hid (fun p hp => remove_any k key (hbd.under hp) hwf.2 hwf.1 h.ok.2 h.so ⟨_, hmem, rfl⟩)
      have HSO : Hid (Sorted (delL b.toL key)) := Lib.hid (delL_sorted h.so)
      obtain ⟨bg, hbg⟩ : ∃ bg, bg = b.g := ⟨_, rfl⟩
      rw [← hbg] at cv0 HREM
      have C0 : Hid (∀ p, Below w.heap.size w p → p.cell? ⟨g, 0, none⟩ = some (.pointer (some ⟨bg, 0, none⟩))) := Lib.hid (fun p hp => (hp.cell (p := ⟨g, 0, none⟩) HGL.out).trans cv0)
      have C1 : Hid (∀ p, Below w.heap.size w p → p.cell? ⟨g, 1, none⟩ = some (.int .i64 ((treeL (some b)).length : Int))) := Lib.hid (fun p hp => (hp.cell (p := ⟨g, 1, none⟩) HGL.out).trans cv1)
      have HB18 : Hid (1 ≤ b.ps.length ∧ b.ps.length ≤ 8) := Lib.hid ⟨h.ok.2, hwf.1⟩
      clear HGET h hlen hG hmem hwf cv0 cv1 hbd hlen2 hbg
      go_enter Try.func27, Try.ntmps27
      go_upto_region 4 with (go_at_call 36; refine HGET2.out.mono ?_; rintro e q2 ⟨rfl, hb2⟩; have HB2 := Lib.hid hb2; have c0 := C0.out _ hb2; clear hb2)
      go_upto_region 5 with (go_at_call 54; refine (HREM.out _ HB2.out).mono ?_; rintro e q3 ⟨r, rfl, hnd, hb3, hpo⟩; have HB3 := Lib.hid (HB2.out.trans (hb3.mono HB2.out.size)); have HND := Lib.hid (hnd.dom (D' := fun _ => True) (fun _ _ => trivial)); have HPO := Lib.hid hpo; clear hnd hb3 hpo)
      obtain ⟨aR, nR, cR, bR, mR, eR, -, -, cr0, cr1, hrp, hrk, hrkd⟩ := HND.out.facts
      have hnr := hrp.1
      have hncr : nR ≤ cR := hrp.2.2.1
      have hcr : cR ≤ 9223372036854775807 := hrp.2.2.2.1
      subst hnr
      have c1 := C1.out _ HB3.out
      clear c0
      by_cases h0 : r.ps.length = 0
      · have h0' : ((r.ps.length : Int) == 0) = true := by rw [h0]; rfl
        by_cases hk0 : r.ks = []
        · have HK := Lib.hid (kid_leaf HND.out.nd (by rw [hk0]; rfl) 0)
          have HRN : Hid (∀ (u : World) (n : Int), n = ((delL b.toL key).length : Int) → Below w.heap.size w u → DelT w (some b) (k + 1) key (.returned (.pointer (some ⟨u.heap.size, 0, none⟩))) (u.alloc (.cells #[.pointer none, .int .i64 n] 87))) := Lib.hid (fun u n hn hu => by
            have hps : r.ps = [] := List.eq_nil_of_length_eq_zero h0
            have hl : delL b.toL key = [] := by rw [← HPO.out.list, toL_eq, hk0, hps, toLs_leaf]
            have hkk : k = 0 := by
              rcases HPO.out.sh with ⟨h, -⟩ | ⟨-, h, -⟩
              · exact h
              · rw [hk0, hps] at h; simp at h
            refine ⟨_, none, 0, rfl, ⟨⟨.pointer none, ?_, rfl⟩, rfl, List.Pairwise.nil⟩, ?_, .inr (by omega), fun P => Nat.zero_le _, hu.alloc hu.size _⟩
            · rw [hn, hl]
              exact heap_new rfl
            · show [] = delL b.toL key
              rw [hl])
          clear hrp hrk hrkd h0 hk0
          go_wp2_with (go_at_call 49; refine HK.out.mono ?_; rintro e w4 ⟨rfl, rfl⟩)
          go_ret
          exact HRN.out _ _ HL2.out HB3.out
        · have hkl : r.ks.length = r.ps.length + 1 := by
            rcases HPO.out.sh.lens with h | h
            · exact absurd h hk0
            · exact h
          have hk1 : r.ks.length = 1 := by omega
          have hk00 : 0 < r.ks.length := by omega
          have HK := Lib.hid (kid_any HND.out.nd 0 hk00)
          have HRN : Hid (∀ (u : World) (n : Int) (gk : Nat), n = ((delL b.toL key).length : Int) → Below w.heap.size w u → Nd u gk (r.ks[0]'hk00) → DelT w (some b) (k + 1) key (.returned (.pointer (some ⟨u.heap.size, 0, none⟩))) (u.alloc (.cells #[.pointer (some ⟨gk, 0, none⟩), .int .i64 n] 87))) := Lib.hid (fun u n gk hn hu hnd => by
            obtain ⟨rfl, hnd⟩ := hnd
            obtain ⟨k', hkk', hkids⟩ : ∃ k', k = k' + 1 ∧ ∀ x ∈ r.ks, x.Wf (k' + 1) ∧ 3 ≤ x.ps.length := by
              rcases HPO.out.sh with ⟨-, h⟩ | ⟨hne, -, h⟩
              · exact absurd h hk0
              · exact ⟨k - 1, by omega, by rw [show k - 1 + 1 = k by omega]; exact h⟩
            subst hkk'
            have hps : r.ps = [] := List.eq_nil_of_length_eq_zero h0
            have hks1 : r.ks = [r.ks[0]'hk00] := by
              have := at_split r.ks 0 hk00
              rw [List.take_zero, List.nil_append, List.drop_eq_nil_of_le (by omega)] at this
              exact this
            have hl : (r.ks[0]'hk00).toL = delL b.toL key := by
              rw [← HPO.out.list, toL_eq r, hps]
              conv => rhs; rw [hks1]
              rw [toLs_last]
            have hw := hkids _ (List.getElem_mem hk00)
            have hw2 := (wf_iff _ _).1 hw.1
            refine ⟨_, some (r.ks[0]'hk00), k' + 1, rfl, tree_made hnd hw2.2 hw2.1 (by omega) (by rw [hl]; exact HSO.out) n (by rw [hl]; exact hn), hl, .inr rfl, fun P => ?_, hu.alloc hu.size _⟩
            have h1 := HPO.out.cnt P
            have h2 : r.cnt P = (P r.g).toNat + (r.ks[0]'hk00).cnt P := by
              rw [cnt_eq]
              conv => lhs; rw [hks1]
              rw [cntL_cons, cntL_nil, Nat.add_zero]
            show (r.ks[0]'hk00).cnt P ≤ b.cnt P + _
            omega)
          clear hrp hrk hrkd h0 hk0 hkl
          go_wp2_with (go_at_call 49; refine HK.out.mono ?_; rintro e w4 ⟨gk, rfl, hnk, rfl⟩; have HNK := Lib.hid hnk; clear hnk)
          go_ret
          exact HRN.out _ _ _ HL2.out HB3.out HNK.out
      · have h0' : ((r.ps.length : Int) == 0) = false := by simpa using h0
        have HRN : Hid (∀ (u : World) (n : Int), n = ((delL b.toL key).length : Int) → Below w.heap.size w u → NdD (fun _ => True) u r → DelT w (some b) (k + 1) key (.returned (.pointer (some ⟨u.heap.size, 0, none⟩))) (u.alloc (.cells #[.pointer (some ⟨r.g, 0, none⟩), .int .i64 n] 87))) := Lib.hid (fun u n hn hu hnd => by
          refine ⟨_, some r, k + 1, rfl, tree_made hnd HPO.out.sh (by have := HPO.out.high; have := HB18.out; omega) (by omega) (by rw [HPO.out.list]; exact HSO.out) n (by rw [HPO.out.list]; exact hn), HPO.out.list, .inl rfl, fun P => ?_, hu.alloc hu.size _⟩
          have h1 := HPO.out.cnt P
          show r.cnt P ≤ b.cnt P + _
          omega)
        clear hrp hrk hrkd h0
        go_wp2_with fail
        go_ret
        exact HRN.out _ _ HL2.out HB3.out HND.out
end Go.Proofs.Ytfgmhidgkemfoaa
namespace Go.Proofs.Ytfgmhidgkemfoaa
open Go.RowKit
set_option linter.unusedSimpArgs false
set_option linter.unusedVariables false
/-- the pairs from a key on -/
def geL (from_ : ByteArray) (l : List KV) : List KV := l.filter fun p => decide (0 ≤ cmpK p.k from_)
theorem geL_app (f : ByteArray) (a b : List KV) : geL f (a ++ b) = geL f a ++ geL f b := by unfold geL; rw [List.filter_append]
theorem geL_cons (f : ByteArray) (p : KV) (b : List KV) (h : 0 ≤ cmpK p.k f) : geL f (p :: b) = p :: geL f b := by unfold geL; rw [List.filter_cons_of_pos (by simpa using h)]
theorem geL_lt (f : ByteArray) (a : List KV) (h : ∀ p ∈ a, cmpK p.k f < 0) : geL f a = [] := by
  unfold geL
  rw [List.filter_eq_nil_iff]
  intro p hp
  have := h p hp
  simp
  omega
def restT (T : BT) (j : Nat) : List KV := toLs (T.ps.drop j) (T.ks.drop j)
theorem restT_leaf (T : BT) (j : Nat) (h : T.ks = []) : restT T j = T.ps.drop j := by unfold restT; rw [h, List.drop_nil, toLs_leaf]
theorem restT_step (T : BT) (j : Nat) (hl : T.ks = [] ∨ T.ks.length = T.ps.length + 1) (hj : j < T.ps.length) : restT T j = treeL T.ks[j]? ++ T.ps[j] :: restT T (j + 1) := by
  rcases hl with h | h
  · rw [restT_leaf T j h, restT_leaf T (j + 1) h, h, List.drop_eq_getElem_cons hj]
    rfl
  · unfold restT
    rw [List.drop_eq_getElem_cons hj, List.drop_eq_getElem_cons (show j < T.ks.length by omega), toLs_cons, List.getElem?_eq_getElem (by omega)]
    rfl
theorem restT_end (T : BT) (hl : T.ks = [] ∨ T.ks.length = T.ps.length + 1) : restT T T.ps.length = treeL T.ks[T.ps.length]? := by
  rcases hl with h | h
  · rw [restT_leaf T _ h, h, List.drop_length]
    rfl
  · unfold restT
    rw [List.drop_length, List.drop_eq_getElem_cons (show T.ps.length < T.ks.length by omega), List.drop_eq_nil_of_le (by omega), toLs_last, List.getElem?_eq_getElem (by omega)]
    rfl
theorem restT_pre (T : BT) (i : Nat) (from_ : ByteArray) (hl : T.ks = [] ∨ T.ks.length = T.ps.length + 1) (hs : Sorted T.toL) (hp : Place T.ps from_ i) : geL from_ T.toL = geL from_ (restT T i) := by
  have hi := hp.1
  rcases hl with h | h
  · rw [restT_leaf T i h, toL_eq, h, toLs_leaf]
    conv => lhs; rw [← List.take_append_drop i T.ps]
    rw [geL_app, geL_lt, List.nil_append]
    intro q hq
    obtain ⟨t, ht, hti, rfl⟩ := mem_take2 hq
    exact hp.2.1 t ht hti
  · have hik : i < T.ks.length := by omega
    have e : T.toL = preL T.ps T.ks i ++ restT T i := by
      rw [toL_eq, toLs_split T.ps T.ks i hik h]
      unfold restT
      rw [List.drop_eq_getElem_cons hik, toLs_one _ _ _ (by simp only [List.length_drop]; omega)]
    rw [e] at hs
    rw [e, geL_app, geL_lt, List.nil_append]
    intro q hq
    by_cases h0 : i = 0
    · subst h0
      rw [preL_zero] at hq
      cases hq
    · obtain ⟨j, rfl⟩ : ∃ j, i = j + 1 := ⟨i - 1, by omega⟩
      obtain ⟨A, hA⟩ := preL_snoc T.ps T.ks j (by omega) hik
      rw [hA] at hq hs
      have h5 := hp.2.1 j (by omega) (by omega)
      rcases List.mem_append.1 hq with hq | hq
      · have := (sorted_app.1 (sorted_app.1 hs).1).2.2 q hq T.ps[j] (by simp)
        exact cmpK_trans this h5
      · rw [List.mem_singleton.1 hq]; exact h5
/-- what a round that goes on keeps: what lay below n₀, and the variables of the walk -/
def KP (n₀ : Nat) (W W' : World) : Prop := Below n₀ W W' ∧ ∀ (b : Nat) (cs : Array Value) (t : TypeId), (t = 9 ∨ t = 24 ∨ t = 124 ∨ t = 125) → W.heap[b]? = some (.cells cs t (0, 0)) → W'.heap[b]? = some (.cells cs t (0, 0))
theorem KP.refl (n₀ : Nat) (W : World) : KP n₀ W W := ⟨Below.refl _ _, fun _ _ _ _ h => h⟩
theorem KP.trans {n₀ : Nat} {A B C : World} (h : KP n₀ A B) (k : KP n₀ B C) : KP n₀ A C := ⟨h.1.trans k.1, fun b cs t ht hh => k.2 b cs t ht (h.2 b cs t ht hh)⟩
theorem KP.of {n₀ : Nat} {A B : World} (h : Below A.heap.size A B) (hn : n₀ ≤ A.heap.size) : KP n₀ A B := ⟨h.mono hn, fun b cs t _ hh => (h.block b (Array.getElem?_eq_some_iff.1 hh).1).trans hh⟩
end Go.Proofs.Ytfgmhidgkemfoaa
namespace Go.Proofs.Ytfgmhidgkemfoaa
open Go.RowKit Go.Shelf
set_option linter.unusedSimpArgs false
set_option linter.unusedVariables false
attribute [local go_sem] Oper.semAt_some
attribute [local go_sem ↓] exec_loadPair exec_at_zeroP exec_at_succP Go.wp_at_zero Go.wp_at_succ
theorem room_of_none' {F : Fence} (hd : F.depth = none) (k : Nat) : F.room k := fun d h => by rw [hd] at h; cases h
theorem RoundIn.anyDepth' {F : Fence} (hd : F.depth = none) {m m' : Nat} {P : Program} {l : Nat} {f : FuncId} {tmps : Array Value} {assign body : Code} {w : World} {R : Ending → World → Prop}
    (h : RoundIn F m P l f tmps assign body w R) : RoundIn F m' P l f tmps assign body w R := ⟨h.1, fun c cs _ => h.2 c cs (room_of_none' hd _)⟩
theorem YieldAt.anyDepth' {F : Fence} (hd : F.depth = none) {m : Nat} (m' : Nat) {P : Program} {l : Nat} {args : Array Value} {W : World} {R : Ending → World → Prop} (h : YieldAt F m P l args W R) : YieldAt F m' P l args W R := by
  obtain ⟨fn, tmps, assign, body, hy, hR⟩ := h
  exact ⟨fn, tmps, assign, body, hy, RoundIn.anyDepth' hd hR⟩
def pairV (p : KV) : Value := .agg #[.string p.k, .string p.v]
theorem take_at {F : Fence} {n : Nat} {P : Program} {md : Region.Mode} {ops : Array Oper} {Q : Exit → Act → World → Prop} {i d : Nat} {oi : Oper} {v : Value} {fuel : Nat} {listed : Array Bool} {l : List Value} {df : List Deferred} {w : World} (hro : F.round = none) (hi : ops[i]? = some oi) (hd : oi.dst = some d)
    (hs : Region.noSelect ops = true) (hf : Region.free md ops listed i = true) (hr : (Region.ready md ops listed).contains i = true)
    (hQ : ∀ c l l' df w, Q (.panic c) ⟨l, df⟩ w → Q (.panic c) ⟨l', df⟩ w) (hy : YieldsFenced P ops oi v ⟨l.toArray, df⟩)
    (h : wpAnyIn F n P md ops Q fuel (listed.setIfInBounds i true) ⟨(l.set d v).toArray, df⟩ w) : wpAnyIn F n P md ops Q (fuel + 1) listed ⟨l.toArray, df⟩ w := by
  refine wpAnyIn_take hro hi hs hf hr (fun c a w h => hQ c _ _ _ w (by unfold Act.put at h; rw [hd] at h; exact h)) hy ?_
  unfold Act.put
  rw [hd]
  simpa using h
/-- the variables of the walk -/
structure Vars (W : World) (bf bv bY l : Nat) (from_ : ByteArray) : Prop where
  f : W.heap[bf]? = some (.cells #[.string from_] 9 (0, 0))
  v : W.heap[bv]? = some (.cells #[.func (.func 77) #[] #[.pointer (some ⟨bf, 0, none⟩), .pointer (some ⟨bv, 0, none⟩), .pointer (some ⟨bY, 0, none⟩)]] 125 (0, 0))
  y : W.heap[bY]? = some (.cells #[.func (.yield l) #[] #[]] 124 (0, 0))
theorem Vars.kp {n₀ : Nat} {W W' : World} {bf bv bY l : Nat} {from_ : ByteArray} (h : Vars W bf bv bY l from_) (hk : KP n₀ W W') : Vars W' bf bv bY l from_ :=
  ⟨hk.2 _ _ _ (.inl rfl) h.f, hk.2 _ _ _ (.inr (.inr (.inr rfl))) h.v, hk.2 _ _ _ (.inr (.inr (.inl rfl))) h.y⟩
theorem NdD.kp {n₀ : Nat} {W W' : World} {T : BT} (h : NdD (fun b => b < n₀) W T) (hk : KP n₀ W W') : NdD (fun b => b < n₀) W' T :=
  h.kept (S := fun b => n₀ ≤ b) ⟨hk.1.os, hk.1.tape, hk.1.output, hk.1.size, fun b hb hs => hk.1.block b (by omega)⟩ (fun b _ hb e => by omega)
/-- what visit promises -/
def Vis (J Jx : List KV → World → Prop) (n₀ : Nat) (pre L : List KV) (W : World) (e : Ending) (W' : World) : Prop := (e = .returned (.bool true) ∧ J (pre ++ L) W' ∧ KP n₀ W W') ∨ (e = .returned (.bool false) ∧ ∃ q, q <+: L ∧ Jx (pre ++ q) W')
set_option maxRecDepth 100000 in
set_option maxHeartbeats 4000000 in
theorem visit_nil (F : Fence) (hF : F = Fence.wide) (l n₀ bf bv bY : Nat) (from_ : ByteArray) (J Jx : List KV → World → Prop) (n : Nat) (pre : List KV) (W : World) (hJ : J pre W) :
    CallsIn F n Try.prog 77 #[.pointer none, .pointer (some ⟨bf, 0, none⟩), .pointer (some ⟨bv, 0, none⟩), .pointer (some ⟨bY, 0, none⟩)] W (Vis J Jx n₀ pre [] W) := by
  have h77 : F.fn 77 := by rw [hF]; trivial
  have hro : F.round = none := by rw [hF]; rfl
  clear hF
  refine callsIn_of_wp Try.func77 rfl h77 ?_ hro
  simp only [Try.ntmps77, List.size_toArray, List.length_cons, List.length_nil, Nat.reduceAdd, Nat.reduceSub, Array.replicate_succ, Array.replicate_zero, List.push_toArray, List.append_toArray, List.nil_append, List.cons_append]
  gi_wp2
  go_ret
  exact .inl ⟨rfl, by rw [List.append_nil]; exact hJ, KP.refl _ _⟩
set_option maxRecDepth 100000 in
set_option maxHeartbeats 4000000 in
theorem visit_step (F : Fence) (hF : F = Fence.wide) (l n₀ bf bv bY N : Nat) (from_ : ByteArray) (J Jx : List KV → World → Prop) (hJb : ∀ s W W', J s W → Below W.heap.size W W' → J s W')
    (hY : ∀ m pre x W, J pre W → pre.length < N → YieldAt F m Try.prog l #[pairV x] W fun e W' => (e = .returned (.bool true) ∧ J (pre ++ [x]) W' ∧ KP n₀ W W') ∨ (e = .returned (.bool false) ∧ Jx (pre ++ [x]) W'))
    (T : BT) (k : Nat) (hs : T.Sh k) (h8 : T.ps.length ≤ 8) (hso : Sorted T.toL)
    (ih : ∀ (n : Nat) (C : BT) (pre : List KV) (W : World), C ∈ T.ks → Sorted C.toL → NdD (fun b => b < n₀) W C → n₀ ≤ W.heap.size → Vars W bf bv bY l from_ → J pre W → pre.length + (geL from_ C.toL).length ≤ N → CallsIn F n Try.prog 77 #[.pointer (some ⟨C.g, 0, none⟩), .pointer (some ⟨bf, 0, none⟩), .pointer (some ⟨bv, 0, none⟩), .pointer (some ⟨bY, 0, none⟩)] W (Vis J Jx n₀ pre (geL from_ C.toL) W))
    (n : Nat) (pre : List KV) (W : World) (hT : NdD (fun b => b < n₀) W T) (hn₀ : n₀ ≤ W.heap.size) (hV : Vars W bf bv bY l from_) (hJ : J pre W) (hN : pre.length + (geL from_ T.toL).length ≤ N) :
    CallsIn F n Try.prog 77 #[.pointer (some ⟨T.g, 0, none⟩), .pointer (some ⟨bf, 0, none⟩), .pointer (some ⟨bv, 0, none⟩), .pointer (some ⟨bY, 0, none⟩)] W (Vis J Jx n₀ pre (geL from_ T.toL) W) := by
  have h77 : F.fn 77 := by rw [hF]; trivial
  have h59 : F.fn 59 := by rw [hF]; trivial
  have h49 : F.fn 49 := by rw [hF]; trivial
  have hro : F.round = none := by rw [hF]; rfl
  have hdd : ∀ k : Nat, (F.depth.isSome = true → 1 ≤ k) := fun k h => by rw [hF] at h; cases h
  have HW : Hid (∀ {m : Nat} {f : FuncId} {args : Array Value} {u : World} {R : Ending → World → Prop}, Calls Try.prog f args u R → CallsIn F m Try.prog f args u R) := Lib.hid (fun h => by rw [hF]; exact callsIn_wide.2 h)
  have HF := Lib.hid hF
  clear hF
  obtain ⟨tg, htg⟩ : ∃ tg, tg = T.g := ⟨_, rfl⟩
  have HFI := Lib.hid (find_any hT.nd from_ (by exact Sorted.ps ((wf_iff _ _).2 ⟨h8, hs⟩) hso) (by omega))
  rw [← htg] at HFI ⊢
  have HTG := Lib.hid htg
  have cf := cell_of_row W bf 0 _ _ _ hV.f
  have HV := Lib.hid hV
  have HT := Lib.hid hT
  have HJ := Lib.hid hJ
  have HN := Lib.hid hN
  have HN0 := Lib.hid hn₀
  clear htg hV hT hJ hN hn₀
  refine callsIn_of_wp Try.func77 rfl h77 ?_ hro
  simp only [Try.ntmps77, List.size_toArray, List.length_cons, List.length_nil, Nat.reduceAdd, Nat.reduceSub, Array.replicate_succ, Array.replicate_zero, List.push_toArray, List.append_toArray, List.nil_append, List.cons_append]
  gi_wp2_with ((try refine ⟨hdd _, ?_⟩); gi_at_call 59; refine (HW.out HFI.out).mono ?_; rintro e W1 ⟨i, rfl, hpl, hb1⟩; have HPL := Lib.hid hpl; have HB1 := Lib.hid hb1; clear hpl hb1)
  have hE : geL from_ T.toL = geL from_ (restT T i) := restT_pre T i from_ hs.lens hso HPL.out
  have HB1K : Hid (KP n₀ W W1) := Lib.hid (KP.of HB1.out HN0.out)
  have HJ1 : Hid (J pre W1) := Lib.hid (hJb _ _ _ HJ.out HB1.out)
  have HE := Lib.hid hE
  have HIP := Lib.hid HPL.out.1
  have HS := Lib.hid hs
  have HSO := Lib.hid hso
  have HJB := Lib.hid hJb
  have HIH := Lib.hid ih
  have HYY := Lib.hid hY
  have H8 := Lib.hid h8
  clear hE hs hso hJb ih hY h8 cf
  gi_loopw [6] (fun u6 wr => ∃ (j : Nat) (done : List KV), u6 = .int .i64 (j : Int) ∧ i ≤ j ∧ j ≤ T.ps.length ∧ geL from_ T.toL = done ++ geL from_ (restT T j) ∧ J (pre ++ done) wr ∧ KP n₀ W wr) (fun u6 wr => T.ps.length - (intOf u6).toNat)
  case atStart => exact ⟨i, [], rfl, Nat.le_refl _, HIP.out, by rw [List.nil_append]; exact HE.out, by rw [List.append_nil]; exact HJ1.out, HB1K.out⟩
  case round =>
    obtain ⟨j, done, rfl, hij, hjn, hdone, hJ, hk⟩ := hrel
    have hTr := HT.out.kp hk
    have hVr := HV.out.kp hk
    obtain ⟨aT, nT, cT, bT, mT, eT, -, -, ct0, -, htp, -, -⟩ := hTr.facts
    rw [← HTG.out] at ct0
    have hnT := htp.1
    have hncT : nT ≤ cT := htp.2.2.1
    have hcT : cT ≤ 9223372036854775807 := htp.2.2.2.1
    have HDONE := Lib.hid hdone
    have HJ2 := Lib.hid hJ
    have HK2 := Lib.hid hk
    have cv : wr.cell? ⟨bv, 0, none⟩ = some (.func (.func 77) #[] #[.pointer (some ⟨bf, 0, none⟩), .pointer (some ⟨bv, 0, none⟩), .pointer (some ⟨bY, 0, none⟩)]) := cell_of_row wr bv 0 _ _ _ hVr.v
    have HVR := Lib.hid hVr
    have HTR := Lib.hid hTr
    have HNT := Lib.hid hnT
    have HKID : Hid (∃ xk : Value, (∀ u, Below wr.heap.size wr u → Calls Try.prog 49 #[.pointer (some ⟨tg, 0, none⟩), .int .i64 (j : Int)] u fun e w' => e = .returned xk ∧ u = w') ∧ ∀ (m : Nat) (u : World), Below wr.heap.size wr u → CallsIn F m Try.prog 77 #[xk, .pointer (some ⟨bf, 0, none⟩), .pointer (some ⟨bv, 0, none⟩), .pointer (some ⟨bY, 0, none⟩)] u (Vis J Jx n₀ (pre ++ done) (geL from_ (treeL T.ks[j]?)) u)) := Lib.hid (by
      have hn0r : n₀ ≤ wr.heap.size := Nat.le_trans HN0.out HK2.out.1.size
      have hlen : done.length + (geL from_ (treeL T.ks[j]?)).length ≤ (geL from_ T.toL).length := by
        rw [hdone, List.length_append]
        rcases Nat.lt_or_ge j T.ps.length with h | h
        · rw [restT_step T j HS.out.lens h, geL_app, List.length_append]; omega
        · obtain rfl : j = T.ps.length := by omega
          rw [restT_end T HS.out.lens]
          omega
      by_cases hk0 : T.ks = []
      · refine ⟨.pointer none, fun u hu => ?_, fun m u hu => ?_⟩
        · have := kid_leaf (hTr.under hu).nd (by rw [hk0]; rfl) (j : Int)
          rw [← HTG.out] at this
          exact this
        · have e : T.ks[j]? = none := by rw [hk0]; rfl
          rw [e]
          exact visit_nil F HF.out l n₀ bf bv bY from_ J Jx m (pre ++ done) u (HJB.out _ _ _ hJ hu)
      · have hkl : T.ks.length = T.ps.length + 1 := by
          rcases HS.out.lens with h | h
          · exact absurd h hk0
          · exact h
        have hjk : j < T.ks.length := by omega
        have e : T.ks[j]? = some T.ks[j] := List.getElem?_eq_getElem hjk
        refine ⟨.pointer (some ⟨T.ks[j].g, 0, none⟩), fun u hu => ?_, fun m u hu => ?_⟩
        · have := kid_any (hTr.under hu).nd j hjk
          rw [← HTG.out] at this
          refine this.mono ?_
          rintro e w' ⟨gk, rfl, hnd, rfl⟩
          exact ⟨by rw [hnd.1], rfl⟩
        · rw [e] at hlen ⊢
          have hsk : Sorted T.ks[j].toL := by
            have h := HSO.out
            rw [toL_eq, toLs_split T.ps T.ks j hjk hkl] at h
            exact (sorted_app.1 (sorted_app.1 h).2.1).1
          obtain ⟨_, _, _, _, _, _, -, -, -, -, -, -, hkd⟩ := (hTr.under hu).facts
          exact HIH.out m T.ks[j] (pre ++ done) u (List.getElem_mem hjk) hsk (hkd _ (List.getElem_mem hjk)) (Nat.le_trans hn0r hu.size) (hVr.kp (KP.of hu hn0r)) (HJB.out _ _ _ hJ hu) (by have := HN.out; rw [List.length_append]; show _ + (geL from_ (treeL (some T.ks[j]))).length ≤ _; omega))
    obtain ⟨xk, hck, hvk⟩ := HKID.out
    have HCK := Lib.hid hck
    have HVK := Lib.hid hvk
    clear hck hvk HKID
    have hbd : Below wr.heap.size wr wr.drew := (Below.refl _ wr).drew
    by_cases hlt : j < T.ps.length
    · have hlt' : (j : Int) < (nT : Int) := by omega
      obtain ⟨p, hp⟩ : ∃ p, p = T.ps[j]'hlt := ⟨_, rfl⟩
      have hst : geL from_ (restT T j) = geL from_ (treeL T.ks[j]?) ++ p :: geL from_ (restT T (j + 1)) := by
        rw [hp, restT_step T j HS.out.lens hlt, geL_app, geL_cons _ _ _ (HPL.out.2.2 j hlt hij)]
      obtain ⟨L, hL⟩ : ∃ L, L = geL from_ (treeL T.ks[j]?) := ⟨_, rfl⟩
      rw [← hL] at hst HVK
      have HST := Lib.hid hst
      have HP : Hid (T.ps[j]? = some p) := Lib.hid (by rw [hp]; exact List.getElem?_eq_getElem hlt)
      have HLT := Lib.hid hlt
      clear hVr hTr htp hnT hdone hJ hk hL hst hp hlt
      have hmix : Try.prog.follows .mixedOrders = true := by kernel_rfl
      gi_wp2
      have hF2 := HF.out
      subst hF2
      gi_region_with_o (first
        | ((try refine ⟨hdd _, ?_⟩); gi_at_call 49; refine (HW.out (HCK.out _ hbd)).mono ?_; rintro e W2 ⟨rfl, rfl⟩)
        | ((try refine ⟨hdd _, ?_⟩)
           gi_at_call 77
           rename_i KK hKK
           refine (HVK.out _ _ hbd).mono ?_
           rintro e W3 (⟨rfl, hJ3, hk3⟩ | ⟨rfl, q, hq, hx⟩)
           rotate_left
           · go_loud (
              refine hKK _ _ ?_
              refine take_at (i := 5) (d := 30) (v := ?_) rfl rfl rfl (by kernel_rfl) (by kernel_rfl) (by kernel_rfl) (fun _ _ _ _ _ h => h) ⟨Or.inl ⟨by kernel_rfl, ?_⟩, fun _ => by kernel_rfl⟩ ?_
              rotate_left
              · intro w; go_simp; try rfl
              simp only [List.set_cons_zero, List.set_cons_succ]
              refine take_at (i := 6) (d := 31) (v := ?_) rfl rfl rfl (by kernel_rfl) (by kernel_rfl) (by kernel_rfl) (fun _ _ _ _ _ h => h) ⟨Or.inl ⟨by kernel_rfl, ?_⟩, fun _ => by kernel_rfl⟩ ?_
              rotate_left
              · intro w; go_simp; try rfl
              simp only [List.set_cons_zero, List.set_cons_succ]
              refine take_at (i := 7) (d := 32) rfl rfl rfl (by kernel_rfl) (by kernel_rfl) (by kernel_rfl) (fun _ _ _ _ _ h => h) ⟨Or.inr ⟨by kernel_rfl, by rfl⟩, fun _ => by kernel_rfl⟩ ?_
              simp only [List.set_cons_zero, List.set_cons_succ]
              refine take_at (i := 8) (d := 33) rfl rfl rfl (by kernel_rfl) (by kernel_rfl) (by kernel_rfl) (fun _ _ _ _ _ h => h) ⟨Or.inr ⟨by kernel_rfl, by rfl⟩, fun _ => by kernel_rfl⟩ ?_
              simp only [List.set_cons_zero, List.set_cons_succ]
              refine take_at (i := 9) (d := 34) rfl rfl rfl (by kernel_rfl) (by kernel_rfl) (by kernel_rfl) (fun _ _ _ _ _ h => h) ⟨Or.inr ⟨by kernel_rfl, by rfl⟩, fun _ => by kernel_rfl⟩ ?_
              simp only [List.set_cons_zero, List.set_cons_succ]
              refine take_at (i := 10) (d := 35) rfl rfl rfl (by kernel_rfl) (by kernel_rfl) (by kernel_rfl) (fun _ _ _ _ _ h => h) ⟨Or.inr ⟨by kernel_rfl, by rfl⟩, fun _ => by kernel_rfl⟩ ?_
              simp only [List.set_cons_zero, List.set_cons_succ]
              refine take_at (i := 11) (d := 36) rfl rfl rfl (by kernel_rfl) (by kernel_rfl) (by kernel_rfl) (fun _ _ _ _ _ h => h) ⟨Or.inr ⟨by kernel_rfl, by rfl⟩, fun _ => by kernel_rfl⟩ ?_
              simp only [List.set_cons_zero, List.set_cons_succ]
              refine take_at (i := 12) (d := 37) rfl rfl rfl (by kernel_rfl) (by kernel_rfl) (by kernel_rfl) (fun _ _ _ _ _ h => h) ⟨Or.inr ⟨by kernel_rfl, by rfl⟩, fun _ => by kernel_rfl⟩ ?_
              simp only [List.set_cons_zero, List.set_cons_succ]
              refine take_at (i := 13) (d := 38) rfl rfl rfl (by kernel_rfl) (by kernel_rfl) (by kernel_rfl) (fun _ _ _ _ _ h => h) ⟨Or.inr ⟨by kernel_rfl, by rfl⟩, fun _ => by kernel_rfl⟩ ?_
              simp only [List.set_cons_zero, List.set_cons_succ]
              refine take_at (i := 14) (d := 39) rfl rfl rfl (by kernel_rfl) (by kernel_rfl) (by kernel_rfl) (fun _ _ _ _ _ h => h) ⟨Or.inr ⟨by kernel_rfl, by rfl⟩, fun _ => by kernel_rfl⟩ ?_
              simp only [List.set_cons_zero, List.set_cons_succ]
              refine take_at (i := 15) (d := 40) rfl rfl rfl (by kernel_rfl) (by kernel_rfl) (by kernel_rfl) (fun _ _ _ _ _ h => h) ⟨Or.inr ⟨by kernel_rfl, by rfl⟩, fun _ => by kernel_rfl⟩ ?_
              simp only [List.set_cons_zero, List.set_cons_succ]
              refine take_at (i := 16) (d := 41) rfl rfl rfl (by kernel_rfl) (by kernel_rfl) (by kernel_rfl) (fun _ _ _ _ _ h => h) ⟨Or.inr ⟨by kernel_rfl, by rfl⟩, fun _ => by kernel_rfl⟩ ?_
              simp only [List.set_cons_zero, List.set_cons_succ]
              refine take_at (i := 17) (d := 42) (v := ?_) rfl rfl rfl (by kernel_rfl) (by kernel_rfl) (by kernel_rfl) (fun _ _ _ _ _ h => h) ⟨Or.inl ⟨by kernel_rfl, ?_⟩, fun _ => by kernel_rfl⟩ ?_
              rotate_left
              · intro w; go_simp; try rfl
              simp only [List.set_cons_zero, List.set_cons_succ]
              refine wpAnyIn_done (by kernel_rfl) ?_ _
              gi_wp2
              go_ret
              exact .inr ⟨rfl, done ++ q, by rw [HDONE.out, HST.out]; exact (List.prefix_append_right_inj done).2 (hq.trans (List.prefix_append _ _)), by rw [← List.append_assoc]; exact hx⟩)
           have hkw : KP n₀ W W3 := HK2.out.trans ((KP.of hbd (Nat.le_trans HN0.out HK2.out.1.size)).trans hk3)
           obtain ⟨aU, nU, cU, bU, mU, eU, -, -, cu0, -, hup, -, -⟩ := (HT.out.kp hkw).facts
           rw [← HTG.out] at cu0
           have hnU : T.ps.length = nU := hup.1
           obtain ⟨bb, off, -, hbb, rfl, hcell⟩ := hup.at (by have := HLT.out; omega)
           have hr := hcell j HLT.out
           obtain ⟨kv, hkv⟩ : ∃ kv, kv = T.ps[j]'HLT.out := ⟨_, rfl⟩
           rw [← hkv] at hr
           obtain rfl : p = kv := by have := HP.out; rw [List.getElem?_eq_getElem HLT.out, ← hkv] at this; exact (Option.some.inj this).symm
           obtain ⟨ob, hob⟩ : ∃ ob, ob = off + j * 2 := ⟨_, rfl⟩
           rw [← hob] at hr
           have hob2 : off + j * 2 = ob := hob.symm
           have ld0 := run_loadPair hr
           have hjU : (j : Int) < (nU : Int) := by have := HLT.out; omega
           have hU1 : nU ≤ cU := hup.2.2.1
           have hU2 : cU ≤ 9223372036854775807 := hup.2.2.2.1
           have cy : W3.cell? ⟨bY, 0, none⟩ = some (.func (.yield l) #[] #[]) := cell_of_row W3 bY 0 _ _ _ (HV.out.kp hkw).y
           obtain ⟨fn, ytm, yas, ybo, hy, hR⟩ := HYY.out n (pre ++ done ++ L) p W3 hJ3 (by have h := HN.out; rw [HDONE.out, HST.out] at h; simp only [List.length_append, List.length_cons] at h ⊢; omega)
           unfold pairV at hy
           have HRR := Lib.hid hR
           have HJ3 := Lib.hid hJ3
           have HKW := Lib.hid hkw
           clear hcell hr hkv hob hup hnU hR hJ3 hkw hk3)
        | ((try refine ⟨hdd _, ?_⟩)
           rename_i KK hKK
           refine (RoundIn.anyDepth' rfl HRR.out).mono ?_
           rintro e W4 (⟨rfl, hJ4, hk4⟩ | ⟨rfl, hx⟩)
           rotate_left
           · go_loud (
              refine hKK _ _ ?_
              refine take_at (i := 16) (d := 41) (v := ?_) rfl rfl rfl (by kernel_rfl) (by kernel_rfl) (by kernel_rfl) (fun _ _ _ _ _ h => h) ⟨Or.inl ⟨by kernel_rfl, ?_⟩, fun _ => by kernel_rfl⟩ ?_
              rotate_left
              · intro w; go_simp; try rfl
              simp only [List.set_cons_zero, List.set_cons_succ]
              refine take_at (i := 17) (d := 42) (v := ?_) rfl rfl rfl (by kernel_rfl) (by kernel_rfl) (by kernel_rfl) (fun _ _ _ _ _ h => h) ⟨Or.inl ⟨by kernel_rfl, ?_⟩, fun _ => by kernel_rfl⟩ ?_
              rotate_left
              · intro w; go_simp; try rfl
              simp only [List.set_cons_zero, List.set_cons_succ]
              refine wpAnyIn_done (by kernel_rfl) ?_ _
              gi_wp2
              go_ret
              exact .inr ⟨rfl, done ++ (L ++ [p]), by rw [HDONE.out, HST.out]; exact (List.prefix_append_right_inj done).2 ((List.prefix_append_right_inj L).2 ⟨geL from_ (restT T (j + 1)), rfl⟩), by simpa only [List.append_assoc] using hx⟩)
           skip))
      all_goals gi_wp2
      all_goals exact ⟨⟨j + 1, done ++ (L ++ [p]), by congr 1, by omega, by have := HLT.out; omega, by rw [HDONE.out, HST.out]; simp only [List.append_assoc, List.cons_append, List.nil_append], by simpa only [List.append_assoc] using hJ4, HKW.out.trans hk4⟩, by have := HLT.out; show T.ps.length - ((j : Int) + 1).toNat < T.ps.length - ((j : Int)).toNat; omega⟩
    · have hge : ¬ ((j : Int) < (nT : Int)) := by omega
      have HST : Hid (geL from_ T.toL = done ++ geL from_ (treeL T.ks[j]?)) := Lib.hid (by have e : j = T.ps.length := (by omega); rw [HDONE.out, e, restT_end T HS.out.lens])
      have hmix : Try.prog.follows .mixedOrders = true := by kernel_rfl
      clear hVr hTr htp hnT hdone hJ hk hlt hij hjn
      gi_wp2
      have hF2 := HF.out
      subst hF2
      gi_region_with_o (first
        | ((try refine ⟨hdd _, ?_⟩); gi_at_call 49; refine (HW.out (HCK.out _ hbd)).mono ?_; rintro e W2 ⟨rfl, rfl⟩)
        | ((try refine ⟨hdd _, ?_⟩); gi_at_call 77; refine (HVK.out _ _ hbd).mono ?_; rintro e W3 h; obtain ⟨vb, rfl⟩ : ∃ vb, e = .returned vb := by (rcases h with ⟨rfl, _⟩ | ⟨rfl, _⟩ <;> exact ⟨_, rfl⟩)))
      all_goals gi_wp2
      all_goals go_ret
      all_goals
        rcases h with ⟨he, hJ3, hk3⟩ | ⟨he, q, hq, hx⟩
        · exact .inl ⟨he, by rw [HST.out, ← List.append_assoc]; exact hJ3, HK2.out.trans ((KP.of hbd (Nat.le_trans HN0.out HK2.out.1.size)).trans hk3)⟩
        · exact .inr ⟨he, done ++ q, by rw [HST.out]; exact (List.prefix_append_right_inj done).2 hq, by rw [← List.append_assoc]; exact hx⟩
theorem visit_any (F : Fence) (hF : F = Fence.wide) (l n₀ bf bv bY N : Nat) (from_ : ByteArray) (J Jx : List KV → World → Prop) (hJb : ∀ s W W', J s W → Below W.heap.size W W' → J s W')
    (hY : ∀ m pre x W, J pre W → pre.length < N → YieldAt F m Try.prog l #[pairV x] W fun e W' => (e = .returned (.bool true) ∧ J (pre ++ [x]) W' ∧ KP n₀ W W') ∨ (e = .returned (.bool false) ∧ Jx (pre ++ [x]) W')) :
    ∀ (k : Nat) (T : BT), T.Wf (k + 1) → Sorted T.toL → ∀ (n : Nat) (pre : List KV) (W : World), NdD (fun b => b < n₀) W T → n₀ ≤ W.heap.size → Vars W bf bv bY l from_ → J pre W → pre.length + (geL from_ T.toL).length ≤ N →
      CallsIn F n Try.prog 77 #[.pointer (some ⟨T.g, 0, none⟩), .pointer (some ⟨bf, 0, none⟩), .pointer (some ⟨bv, 0, none⟩), .pointer (some ⟨bY, 0, none⟩)] W (Vis J Jx n₀ pre (geL from_ T.toL) W) := by
  intro k
  induction k with
  | zero =>
    intro T hw hs n pre W hT hn hV hJ hN
    obtain ⟨h8, hsh⟩ := (wf_iff _ _).1 hw
    refine visit_step F hF l n₀ bf bv bY N from_ J Jx hJb hY T 0 hsh h8 hs (fun n C pre W hC => ?_) n pre W hT hn hV hJ hN
    rcases hsh with ⟨-, h⟩ | ⟨h, -⟩
    · rw [h] at hC; cases hC
    · exact absurd rfl h
  | succ k ih =>
    intro T hw hs n pre W hT hn hV hJ hN
    obtain ⟨h8, hsh⟩ := (wf_iff _ _).1 hw
    refine visit_step F hF l n₀ bf bv bY N from_ J Jx hJb hY T (k + 1) hsh h8 hs (fun n C pre W hC => ?_) n pre W hT hn hV hJ hN
    rcases hsh with ⟨h, -⟩ | ⟨-, -, h⟩
    · cases h
    · exact fun hsC hNd hn hV hJ hN => ih C (h C hC).1 hsC n pre W hNd hn hV hJ hN
end Go.Proofs.Ytfgmhidgkemfoaa
namespace Go.Proofs.Ytfgmhidgkemfoaa
open Go.RowKit Go.Shelf
set_option linter.unusedSimpArgs false
set_option linter.unusedVariables false
attribute [local go_sem] Oper.semAt_some
theorem run_storeF {P : Program} {w : World} {a : Addr} {m : Mode} (fn : Fn) (first captured : Array Value) : (Go.store a (.func fn first captured) m).run P w = stored P w a (.func fn first captured) m := run_store P w a _ m rfl
attribute [local go_sem] run_storeF
theorem abides_below {β : Type} {B : Nat} {J : β → World → Prop} (h : AbidesFrom B J) (s : β) (W W' : World) (hs : J s W) (hb : Below W.heap.size W W') : J s W' :=
  h s W W' none hs ⟨hb.os, hb.tape, hb.output, hb.size, fun i hi _ => hb.block i hi⟩ (fun r e => by cases e)
/-- what the iterator over a tree reads -/
structure Itr (n₀ : Nat) (w : World) (bf bt g : Nat) (v : Value) (t : Option BT) (from_ : ByteArray) : Prop where
  hf : w.heap[bf]? = some (.cells #[.string from_] 9 (0, 0))
  ht : w.heap[bt]? = some (.cells #[.pointer (some ⟨g, 0, none⟩)] 24 (0, 0))
  lt : g < n₀
  hr : w.heap[g]? = some (.cells #[v, .int .i64 ((treeL t).length : Int)] 87 (0, 0))
  hk : match t with | none => v = .pointer none | some T => v = .pointer (some ⟨T.g, 0, none⟩) ∧ NdD (fun b => b < n₀) w T
theorem Itr.kp {n₀ : Nat} {w w' : World} {bf bt g : Nat} {v : Value} {t : Option BT} {from_ : ByteArray} (h : Itr n₀ w bf bt g v t from_) (hk : KP n₀ w w') : Itr n₀ w' bf bt g v t from_ := by
  refine ⟨hk.2 _ _ _ (.inl rfl) h.hf, hk.2 _ _ _ (.inr (.inl rfl)) h.ht, h.lt, (hk.1.block g h.lt).trans h.hr, ?_⟩
  have := h.hk
  cases t with
  | none => exact this
  | some T => exact ⟨this.1, this.2.kp hk⟩
set_option maxRecDepth 100000 in
set_option maxHeartbeats 4000000 in
theorem pairs1_in (F : Fence) (hF : F = Fence.wide) (n l n₀ bf bt g : Nat) (v : Value) (t : Option BT) (H : Nat) (from_ : ByteArray) (ht : TOk t H) (hs : Sorted (treeL t)) (J Jx : List KV → World → Prop) (W : World) (hn₀ : n₀ ≤ W.heap.size) (hJa : AbidesFrom W.heap.size J)
    (hY : ∀ pre x W1, J pre W1 → pre.length < (geL from_ (treeL t)).length → YieldAt F (n - 1) Try.prog l #[pairV x] W1 fun e W' => (e = .returned (.bool true) ∧ J (pre ++ [x]) W' ∧ KP n₀ W1 W') ∨ (e = .returned (.bool false) ∧ Jx (pre ++ [x]) W'))
    (hI : Itr n₀ W bf bt g v t from_) (h0 : J [] W) :
    CallsIn F n Try.prog 76 #[.func (.yield l) #[] #[], .pointer (some ⟨bf, 0, none⟩), .pointer (some ⟨bt, 0, none⟩)] W fun e W' => (∃ v, e = .returned v) ∧ ((∃ xs, xs = geL from_ (treeL t) ∧ J xs W') ∨ (∃ pre, pre <+: geL from_ (treeL t) ∧ Jx pre W')) := by
  have h76 : F.fn 76 := by rw [hF]; trivial
  have h77 : F.fn 77 := by rw [hF]; trivial
  have hro : F.round = none := by rw [hF]; rfl
  have hdd : ∀ k : Nat, (F.depth.isSome = true → 1 ≤ k) := fun k h => by rw [hF] at h; cases h
  have hdn : F.depth = none := by rw [hF]; rfl
  have HF := Lib.hid hF
  have HI := Lib.hid hI
  clear hF
  have c0 : W.cell? ⟨bt, 0, none⟩ = some (.pointer (some ⟨g, 0, none⟩)) := cell_of_row W bt 0 _ _ _ hI.ht
  have c1 : W.cell? ⟨g, 0, none⟩ = some v := cell_of_row W g 0 _ _ _ hI.hr
  have HY := Lib.hid hY
  have HJA := Lib.hid hJa
  have H0 := Lib.hid h0
  have HN0 := Lib.hid hn₀
  clear hI hY hJa h0 hn₀
  refine callsIn_of_wp Try.func76 rfl h76 ?_ hro
  simp only [Try.ntmps76, List.size_toArray, List.length_cons, List.length_nil, Nat.reduceAdd, Nat.reduceSub, Array.replicate_succ, Array.replicate_zero, List.push_toArray, List.append_toArray, List.nil_append, List.cons_append]
  have bx := Boxed.new (W.alloc (.cells #[.func (.yield l) #[] #[]] 124)) 125 .nilFunc
  simp only [World.size_alloc] at bx
  have cx := bx.cell
  have fx := bx.frozen
  clear bx
  gi_wp2
  clear cx fx
  obtain ⟨W3, hW3⟩ : ∃ W3, W3 = ((W.alloc (.cells #[.func (.yield l) #[] #[]] 124)).alloc (.cells #[.func (.func 77) #[] #[.pointer (some ⟨bf, 0, none⟩), .pointer (some ⟨W.heap.size + 1, 0, none⟩), .pointer (some ⟨W.heap.size, 0, none⟩)]] 125)) := ⟨_, rfl⟩
  rw [← hW3]
  have hb3 : Below W.heap.size W W3 := by rw [hW3]; exact ((Below.refl _ W).alloc (Nat.le_refl _) _).alloc (by simp) _
  have hv3 : W3.heap[W.heap.size + 1]? = some (.cells #[.func (.func 77) #[] #[.pointer (some ⟨bf, 0, none⟩), .pointer (some ⟨W.heap.size + 1, 0, none⟩), .pointer (some ⟨W.heap.size, 0, none⟩)]] 125 (0, 0)) := by
    rw [hW3]; have := World.alloc_heap_new (W.alloc (.cells #[.func (.yield l) #[] #[]] 124)) (.cells #[.func (.func 77) #[] #[.pointer (some ⟨bf, 0, none⟩), .pointer (some ⟨W.heap.size + 1, 0, none⟩), .pointer (some ⟨W.heap.size, 0, none⟩)]] 125 (0, 0)); rwa [World.size_alloc] at this
  have hy3 : W3.heap[W.heap.size]? = some (.cells #[.func (.yield l) #[] #[]] 124 (0, 0)) := by
    rw [hW3]; exact (Below.heap_alloc _ _ _ (by simp)).trans (World.alloc_heap_new W _)
  clear hW3 c0 c1
  have hn3 : n₀ ≤ W3.heap.size := Nat.le_trans HN0.out hb3.size
  have hi3 := HI.out.kp (KP.of hb3 HN0.out)
  have HVK : Hid (∀ (m : Nat) (u : World), Below W3.heap.size W3 u → CallsIn F m Try.prog 77 #[v, .pointer (some ⟨bf, 0, none⟩), .pointer (some ⟨W.heap.size + 1, 0, none⟩), .pointer (some ⟨W.heap.size, 0, none⟩)] u (Vis J Jx n₀ [] (geL from_ (treeL t)) u)) := Lib.hid (by
    intro m u hu
    have hJu : J [] u := abides_below HJA.out _ _ _ (abides_below HJA.out _ _ _ H0.out hb3) hu
    have hku : KP n₀ W3 u := KP.of hu hn3
    have hiu := hi3.kp hku
    have hVu : Vars u bf (W.heap.size + 1) W.heap.size l from_ := Vars.kp ⟨hi3.hf, hv3, hy3⟩ hku
    have hk := hiu.hk
    cases t with
    | none =>
      obtain rfl : v = .pointer none := hk
      exact visit_nil F HF.out l n₀ bf _ _ from_ J Jx m [] u hJu
    | some T =>
      obtain ⟨rfl, hnd⟩ := hk
      obtain ⟨hw, h1⟩ := ht
      cases H with
      | zero => exact hw.elim
      | succ k => exact visit_any F HF.out l n₀ bf _ _ (geL from_ T.toL).length from_ J Jx (fun s A B hj hb => abides_below HJA.out s A B hj hb) (fun m' pre x W1 hj hl => YieldAt.anyDepth' hdn m' (HY.out pre x W1 hj hl)) k T hw hs m [] u hnd (Nat.le_trans hn3 hu.size) hVu hJu (by simp))
  have c0 : W3.cell? ⟨bt, 0, none⟩ = some (.pointer (some ⟨g, 0, none⟩)) := cell_of_row W3 bt 0 _ _ _ hi3.ht
  have c1 : W3.cell? ⟨g, 0, none⟩ = some v := cell_of_row W3 g 0 _ _ _ hi3.hr
  have cv : W3.cell? ⟨W.heap.size + 1, 0, none⟩ = some (.func (.func 77) #[] #[.pointer (some ⟨bf, 0, none⟩), .pointer (some ⟨W.heap.size + 1, 0, none⟩), .pointer (some ⟨W.heap.size, 0, none⟩)]) := cell_of_row W3 (W.heap.size + 1) 0 _ _ _ hv3
  have hbd : Below W3.heap.size W3 W3.drew := (Below.refl _ W3).drew
  clear hi3 hv3 hy3 hb3 hn3 ht hs
  have hmix : Try.prog.follows .mixedOrders = true := by kernel_rfl
  have hF2 := HF.out
  subst hF2
  gi_region_with_o ((try refine ⟨hdd _, ?_⟩); gi_at_call 77; refine (HVK.out _ _ hbd).mono ?_; rintro e W4 h; obtain ⟨vb, rfl⟩ : ∃ vb, e = .returned vb := by (rcases h with ⟨rfl, _⟩ | ⟨rfl, _⟩ <;> exact ⟨_, rfl⟩))
  all_goals gi_wp2
  all_goals go_end0
  all_goals
    refine ⟨⟨_, rfl⟩, ?_⟩
    rcases h with ⟨he, hJ3, hk3⟩ | ⟨he, q, hq, hx⟩
    · exact .inl ⟨_, rfl, hJ3⟩
    · exact .inr ⟨q, hq, hx⟩
/-- what pairs returns may be ranged over -/
theorem pairs1_stops (F : Fence) (hF : F = Fence.wide) (n n₀ bf bt g : Nat) (v : Value) (t : Option BT) (H : Nat) (from_ : ByteArray) (ht : TOk t H) (hs : Sorted (treeL t)) (w : World) (hn₀ : n₀ ≤ w.heap.size) (hI : Itr n₀ w bf bt g v t from_) :
    SeqStopsK F n Try.prog 76 #[.pointer (some ⟨bf, 0, none⟩), .pointer (some ⟨bt, 0, none⟩)] (fun x : KV => #[pairV x]) (KP n₀) (fun xs => xs = geL from_ (treeL t)) (fun pre => pre <+: geL from_ (treeL t)) (geL from_ (treeL t)).length w :=
  fun l J Jx W hW hJ _ hY h0 => pairs1_in F hF n l n₀ bf bt g v t H from_ ht hs J Jx W (Nat.le_trans hn₀ hW.size) hJ hY (hI.kp (KP.of hW hn₀)) h0
/-- Kp of the law of loops -/
theorem KP.putObj {n₀ : Nat} {B : Nat} (hB : n₀ ≤ B) (W : World) (l : Nat) (o o' : Obj) (hl : B ≤ l) (h : W.heap[l]? = some o) (hc : o.isCells = false) : KP n₀ W (W.putObj l o') := by
  refine ⟨(Below.refl n₀ W).grown (grownBy_putObj' W l o') (by have := (Array.getElem?_eq_some_iff.1 h).1; omega) (fun k e => by cases e; omega), fun b cs t _ hh => ?_⟩
  by_cases e : b = l
  · subst e
    rw [h] at hh
    cases hh
    cases hc
  · exact (World.putObj_heap_other e).trans hh
set_option maxRecDepth 100000 in
theorem pairs_any {w : World} {g : Nat} (from_ : ByteArray) :
    Calls Try.prog 55 #[.pointer (some ⟨g, 0, none⟩), .string from_] w fun e w' => e = .returned (.func (.func 76) #[] #[.pointer (some ⟨w.heap.size + 1, 0, none⟩), .pointer (some ⟨w.heap.size, 0, none⟩)]) ∧ w' = (w.alloc (.cells #[.pointer (some ⟨g, 0, none⟩)] 24)).alloc (.cells #[.string from_] 9) := by
  go_enter Try.func55, Try.ntmps55
  go_wp2
  go_ret
  exact ⟨rfl, rfl⟩
/-- what pairs leaves -/
theorem Itr.made {w : World} {g : Nat} {t : Option BT} (h : Tr w g t) (from_ : ByteArray) : ∃ v, Itr w.heap.size ((w.alloc (.cells #[.pointer (some ⟨g, 0, none⟩)] 24)).alloc (.cells #[.string from_] 9)) (w.heap.size + 1) w.heap.size g v t from_ := by
  obtain ⟨v, h1, h2⟩ := h
  have hb : Below w.heap.size w ((w.alloc (.cells #[.pointer (some ⟨g, 0, none⟩)] 24)).alloc (.cells #[.string from_] 9)) := ((Below.refl _ w).alloc (Nat.le_refl _) _).alloc (by simp) _
  have hg := (Array.getElem?_eq_some_iff.1 h1).1
  refine ⟨v, ?_, (Below.heap_alloc _ _ _ (by simp)).trans (World.alloc_heap_new w _), hg, (hb.block g hg).trans h1, ?_⟩
  · have := World.alloc_heap_new (w.alloc (.cells #[.pointer (some ⟨g, 0, none⟩)] 24)) (.cells #[.string from_] 9)
    rwa [World.size_alloc] at this
  · cases t with
    | none => exact h2
    | some T =>
      obtain ⟨g', rfl, hn⟩ := h2
      obtain ⟨rfl, hd⟩ := hn
      exact ⟨rfl, (hd.in.dom (fun b h => h.2)).under hb⟩
end Go.Proofs.Ytfgmhidgkemfoaa

/-
  Texts NL, NM, NN, NO, NP, one behind the other.
-/
import Derived.WalkKit
import Derived.WalkSpells
import Derived.WalkLawsBesides
import Derived.Laws.AppendOwn
import Derived.Laws.OwnMore
import Derived.Deep.AppendSrc
import Derived.Deep.MidRow
import Derived.Lib.Hide
import GoSem.Claim
import Derived.Lib.Bytealg
import Derived.Laws.Externs
import Derived.Deep.QuietTactic
import Derived.BigQuiet
import Derived.Deep.CutBlock
import Derived.OwnWalk
import Derived.Deep.DrawnRows
import Derived.Deep.CutRange
import Derived.Deep.LoopGhost
import Derived.Laws.Tables
import Derived.Laws.ResultCell
import Derived.Deep.WholeRow
import Derived.Lib.Strings
import Derived.Shelf.Spec.SlicesInsert
import Derived.Lib.AppendZerosOnto
import Derived.Lib.Overlaps
import Derived.Laws.CopyRow
import Derived.Deep.RegionLaw
import Derived.Orders
import Derived.Tactics
import Derived.Test.YtfgmhidgkemfoaaRows
import Derived.Test.YtfgmhidgkemfoaaZT501
namespace Go.Proofs.Ytfgmhidgkemfoaa
open Go.RowKit
set_option linter.unusedSimpArgs false
set_option linter.unusedVariables false
theorem range_below {w p : World} {b off : Nat} {xs : List Value} (h : w.rangeAt b off xs) (hx : 0 < xs.length) (hb : Below w.heap.size w p) : p.rangeAt b off xs := fun j v hv => (hb.cell (p := ⟨b, off + j, none⟩) (range_lt h hx)).trans (h j v hv)
theorem range_kept {S : Nat → Prop} {w p : World} {b off : Nat} {xs : List Value} (h : w.rangeAt b off xs) (hx : 0 < xs.length) (hb : Kept S w p) (hs : ¬ S b) : p.rangeAt b off xs := fun j v hv => (hb.cell (p := ⟨b, off + j, none⟩) (range_lt h hx) hs).trans (h j v hv)
theorem pcells_app (a b : List KV) : pcells (a ++ b) = pcells a ++ pcells b := by unfold pcells; rw [List.flatMap_append]
theorem pcells_cons (q : KV) (b : List KV) : pcells (q :: b) = q.cells ++ pcells b := by unfold pcells; rw [List.flatMap_cons]
theorem pcells_take (ps : List KV) (i : Nat) (hi : i ≤ ps.length) : pcells (ps.take i) = (pcells ps).take (i * 2) := by
  have h := congrArg pcells (List.take_append_drop i ps)
  rw [pcells_app] at h
  rw [← h]
  have hl : (pcells (ps.take i)).length = i * 2 := by rw [pcells_len, List.length_take]; omega
  rw [← hl, List.take_left]
theorem pcells_drop (ps : List KV) (i : Nat) (hi : i ≤ ps.length) : pcells (ps.drop i) = (pcells ps).drop (i * 2) := by
  have h := congrArg pcells (List.take_append_drop i ps)
  rw [pcells_app] at h
  rw [← h]
  have hl : (pcells (ps.take i)).length = i * 2 := by rw [pcells_len, List.length_take]; omega
  rw [← hl, List.drop_left]
theorem pcells_ins (ps : List KV) (i : Nat) (hi : i ≤ ps.length) (q : KV) : pcells (ps.take i ++ q :: ps.drop i) = insC (pcells ps) q.cells (i * 2) := by
  rw [pcells_app, pcells_cons, pcells_take ps i hi, pcells_drop ps i hi]
  rfl
theorem pcells_del (ps : List KV) (i : Nat) (hi : i < ps.length) : pcells (ps.take i ++ ps.drop (i + 1)) = delC (pcells ps) (i * 2) 2 := by
  rw [pcells_app, pcells_take ps i (by omega), pcells_drop ps (i + 1) (by omega)]
  unfold delC
  rw [show (i + 1) * 2 = i * 2 + 2 by omega]
theorem pnts_ins (ks : List BT) (i : Nat) (k : BT) : pnts ((ks.take i ++ k :: ks.drop i).map BT.g) = insC (pnts (ks.map BT.g)) [.pointer (some ⟨k.g, 0, none⟩)] i := by
  unfold pnts insC
  simp
theorem pnts_del (ks : List BT) (i : Nat) : pnts ((ks.take i ++ ks.drop (i + 1)).map BT.g) = delC (pnts (ks.map BT.g)) i 1 := by
  unfold pnts delC
  simp
theorem pnts_len2 (ks : List BT) : (pnts (ks.map BT.g)).length = ks.length := by simp [pnts]
section
variable {D : Nat → Prop} {w0 w : World} {g : Nat} {kp kk : Option Nat} {vp vk : Value} {ps : List KV} {ks xs : List BT}
/-- another row of children, among those that are known or are new -/
theorem ONx.newK2 {w2 : World} {kk2 : Option Nat} {vk2 : Value} {ks2 : List BT} (h : ONx D w0 w g kp kk vp vk ps ks xs) (ho : Own w2 85 1 kk2 vk2 ks2.length (pnts (ks2.map BT.g))) (hr : RowTo w w2 kk kk2) (hm : ∀ k ∈ ks2, k ∈ ks ++ xs ∨ NdD (fun b => (Off D w0.heap.size g kp kk b ∨ w.heap.size ≤ b) ∧ kk2 ≠ some b) w2 k) : ONx D w0 (w2.setCell ⟨g, 1, none⟩ vk2) g kp kk2 vp vk2 ps ks2 xs := by
  obtain ⟨hn, hk⟩ := hr
  have hg : w2.heap[g]? = some (.cells #[vp, vk] 94 (0, 0)) := hk.heap h.blk h.d2
  have hgl : g < w.heap.size := h.lt
  have hgk : kk2 ≠ some g := fun e => by
    rcases hn g e with e2 | e2
    · exact h.d2 e2
    · omega
  have K2 : Kept (fun j => j = g) w2 (w2.setCell ⟨g, 1, none⟩ vk2) := (Kept.refl (fun j => j = g) w2).setCell (p := ⟨g, 1, none⟩) (fun _ => rfl) _
  have d3' : ∀ j, kp = some j → kk2 ≠ some j := fun j e2 e => by
    rcases hn j e with e3 | e3
    · exact h.d3 j e2 e3
    · have := h.hp.lt j e2; omega
  refine ⟨?_, (h.hp.kept hk (fun j e e2 => h.d3 j e e2)).kept K2 (fun j e e2 => h.d1 (e2 ▸ e)), ho.kept K2 (fun j e e2 => hgk (e2 ▸ e)), h.d1, hgk, d3', h.n0, h.n1, fun j e => ?_, fun k hkk => ?_, ?_⟩
  · rw [heap_setCell_same w2 g 1 _ _ _ hg]; rfl
  · rcases hn j e with e3 | e3
    · exact h.n2 j e3
    · have := h.below.size; omega
  · have key : k ∈ ks ++ xs ∨ NdD (fun b => (Off D w0.heap.size g kp kk b ∨ w.heap.size ≤ b) ∧ kk2 ≠ some b) w2 k := by
      rcases List.mem_append.1 hkk with h1 | h1
      · exact hm k h1
      · exact .inl (List.mem_append.2 (.inr h1))
    rcases key with hkk | hnd
    · have h1 := ((h.kids k hkk).in).kept hk (fun b _ hb e => hb.1.2.2.2 e)
      have h2 := h1.kept K2 (fun b _ hb e => hb.1.2.1 e)
      refine h2.dom (fun b hb => ⟨hb.1.1, hb.1.2.1, hb.1.2.2.1, fun e => ?_⟩)
      rcases hn b e with e3 | e3
      · exact hb.1.2.2.2 e3
      · have := hb.2; omega
    · refine (hnd.kept K2 (fun b _ hb e => ?_)).dom (fun b hb => ?_)
      · rcases hb.1 with h1 | h1
        · exact h1.2.1 e
        · omega
      · rcases hb.1 with h1 | h1
        · exact ⟨h1.1, h1.2.1, h1.2.2.1, hb.2⟩
        · have := h.below.size
          exact ⟨.inr (by omega), by omega, fun e => by have := h.hp.lt b e; omega, hb.2⟩
  · exact (h.below.trans (hk.below h.below.size (fun j hj e => by have := h.n2 j e; omega))).trans (K2.below (Nat.le_trans h.below.size hk.size) (fun j hj e => by have := h.n0; omega))
theorem ONx.newP2 {w2 : World} {kp2 : Option Nat} {vp2 : Value} {ps2 : List KV} (h : ONx D w0 w g kp kk vp vk ps ks xs) (ho : Own w2 65 2 kp2 vp2 ps2.length (pcells ps2)) (hr : RowTo w w2 kp kp2) : ONx D w0 (w2.setCell ⟨g, 0, none⟩ vp2) g kp2 kk vp2 vk ps2 ks xs := h.newP ho hr.1 hr.2
/-- cells that are read -/
theorem ONx.facts (h : ONx D w0 w g kp kk vp vk ps ks xs) : g < w.heap.size ∧ w.cell? ⟨g, 0, none⟩ = some vp ∧ w.cell? ⟨g, 1, none⟩ = some vk ∧ w.frozen? ⟨g, 0, none⟩ = false ∧ w.frozen? ⟨g, 1, none⟩ = false :=
  ⟨h.lt, cell_of_row w g 0 _ _ _ h.blk, cell_of_row w g 1 _ _ _ h.blk, frozen_of_row w g 0 _ _ h.blk, frozen_of_row w g 1 _ _ h.blk⟩
/-- a row of children that has some -/
theorem ONx.kidAt (h : ONx D w0 w g kp kk vp vk ps ks xs) (hks : 0 < ks.length) : ∃ jk c, kk = some jk ∧ vk = .slice (some ⟨jk, 0, none⟩) ks.length c ∧ ks.length ≤ c ∧ c ≤ maxLen ∧ jk < w.heap.size ∧ ∀ i (hi : i < ks.length), w.cell? ⟨jk, i, none⟩ = some (.pointer (some ⟨ks[i].g, 0, none⟩)) ∧ w.frozen? ⟨jk, i, none⟩ = false := by
  rcases h.hk.2 with ⟨-, -, e⟩ | ⟨jk, c, cur, rfl, rfl, hg, hn, hm, hs, ht⟩
  · omega
  · refine ⟨jk, c, rfl, rfl, hn, hm, (Array.getElem?_eq_some_iff.1 hg).1, fun i hi => ⟨?_, frozen_of_row w jk i _ _ hg⟩⟩
    rw [cell_of_row w jk i _ _ _ hg]
    have h1 : (pnts (ks.map BT.g))[i]? = some (.pointer (some ⟨ks[i].g, 0, none⟩)) := by simp [pnts, hi]
    rw [← ht, List.getElem?_take] at h1
    split at h1
    · simpa using h1
    · cases h1
/-- a row of pairs that has some -/
theorem ONx.pairAt (h : ONx D w0 w g kp kk vp vk ps ks xs) (hps : 0 < ps.length) : ∃ jp c, kp = some jp ∧ vp = .slice (some ⟨jp, 0, none⟩) ps.length c ∧ ps.length ≤ c ∧ c ≤ maxLen ∧ jp < w.heap.size := by
  rcases h.hp.2 with ⟨-, -, e⟩ | ⟨jp, c, cur, rfl, rfl, hg, hn, hm, hs, ht⟩
  · omega
  · exact ⟨jp, c, rfl, rfl, hn, hm, (Array.getElem?_eq_some_iff.1 hg).1⟩
end
theorem run_bs1P (k v : ByteArray) (W : World) : (Instr.buildSlice 26 1 #[(0, .agg #[.string k, .string v])]).run Try.prog W = .ok (.slice (some ⟨W.heap.size, 0, none⟩) 1 1) (W.alloc (.cells #[.string k, .string v] 65)) := by kernel_rfl
theorem run_bs1N (c : Nat) (W : World) : (Instr.buildSlice 92 1 #[(0, .pointer (some ⟨c, 0, none⟩))]).run Try.prog W = .ok (.slice (some ⟨W.heap.size, 0, none⟩) 1 1) (W.alloc (.cells #[.pointer (some ⟨c, 0, none⟩)] 85)) := by kernel_rfl
end Go.Proofs.Ytfgmhidgkemfoaa
namespace Go.Proofs.Ytfgmhidgkemfoaa
open Go.RowKit
set_option linter.unusedSimpArgs false
set_option linter.unusedVariables false
attribute [local go_sem ↓] exec_loadPair exec_at_zeroP exec_at_succP Go.wp_at_zero Go.wp_at_succ
def Dsp2 : List (Option Tmp) := [some 19, some 20, some 21, some 22, some 23, some 24, some 25, some 26, some 27, some 28, some 29, some 30, some 31, some 32, some 33, some 34, some 35, none]
def Lsp2 : List (List Nat) := [[], [], [1], [2], [3], [], [], [6], [7], [8], [], [9, 10], [11], [12], [4, 5, 13], [0], [15], [16, 14]]
def Dsp3 : List (Option Tmp) := [some 36, some 37, some 38, some 39, some 40, some 41, some 42, some 43, some 44, none]
def Lsp3 : List (List Nat) := [[], [0], [1], [2], [], [], [], [5, 6], [3, 4], [8, 7]]
def Dsp4 : List (Option Tmp) := [some 45, some 46, some 47, some 48, some 49, some 50, some 51, some 52, some 53, some 54, some 55, some 56, some 57, some 58, some 59, some 60, some 61, some 62, some 63, some 64, none]
def Lsp4 : List (List Nat) := [[], [], [1], [2], [3], [], [5], [], [], [8], [], [10], [11], [12], [13], [7, 9, 14], [15], [4, 6, 16], [0], [18], [19, 17]]
set_option maxRecDepth 100000 in
set_option maxHeartbeats 4000000 in
theorem split_any {D : Nat → Prop} {w0 w : World} {g : Nat} {ps : List KV} {ks xs : List BT} (h : ON D w0 w g ps ks xs) (i : Nat) (hi : i < ks.length) (hl : ks.length = ps.length + 1) (hn : ps.length ≤ 900) (hkl : ks[i].ks = [] ∨ ks[i].ks.length = ks[i].ps.length + 1) (h3 : 3 ≤ ks[i].ps.length) (h9 : ks[i].ps.length ≤ 900) :
    Calls Try.prog 51 #[.pointer (some ⟨g, 0, none⟩), .int .i64 (i : Int)] w fun e w' => e = .returned (.tuple #[]) ∧ ∃ L R, ON D w0 w' g (ps.take i ++ ks[i].ps[ks[i].ps.length / 2]'(by omega) :: ps.drop i) (ks.take i ++ L :: R :: ks.drop (i + 1)) xs ∧ L.ps = ks[i].ps.take (ks[i].ps.length / 2) ∧ L.ks = ks[i].ks.take (ks[i].ps.length / 2 + 1) ∧ R.ps = ks[i].ps.drop (ks[i].ps.length / 2 + 1) ∧ R.ks = ks[i].ks.drop (ks[i].ps.length / 2 + 1) := by
  obtain ⟨kp, kk, vp, vk, hon⟩ := h
  obtain ⟨T, hT⟩ : ∃ T, T = ks[i] := ⟨_, rfl⟩
  have hTm : T ∈ ks := by rw [hT]; exact List.getElem_mem hi
  obtain ⟨m, hm⟩ : ∃ m, m = T.ps.length / 2 := ⟨_, rfl⟩
  simp only [← hT] at hkl h3 h9 ⊢
  simp only [← hm]
  have hm1 : m < T.ps.length := by omega
  obtain ⟨M, hM⟩ : ∃ M, M = T.ps[m]'hm1 := ⟨_, rfl⟩
  rw [← hM]
  obtain ⟨mk, mv⟩ := M
  obtain ⟨jk, kc, rfl, rfl, hkc, hkm, hjl, hcell⟩ := hon.kidAt (by omega)
  obtain ⟨av, cv, rfl, -⟩ := id hon.hp.sl
  have hTD := hon.kids T (List.mem_append.2 (.inl hTm))
  obtain ⟨aT, nT, cT, bT, mT, eT, htD, htb, ct0, -, htp, -, -⟩ := hTD.facts
  have htl : T.g < w.heap.size := (Array.getElem?_eq_some_iff.1 htb).1
  have hnT := htp.1
  have hncT : nT ≤ cT := htp.2.2.1
  have hcmT : cT ≤ 9223372036854775807 := htp.2.2.2.1
  obtain ⟨bt, ot, hbD, hbt, rfl, hpc⟩ := htp.at (by omega)
  have hrm := hpc m hm1
  rw [← hM] at hrm
  obtain ⟨om, hom⟩ : ∃ om, om = ot + m * 2 := ⟨_, rfl⟩
  rw [← hom] at hrm
  have hom2 : ot + m * 2 = om := hom.symm
  obtain ⟨hgl, c0, c1, -, -⟩ := hon.facts
  obtain ⟨ci, -⟩ := hcell i hi
  rw [← hT] at ci
  obtain ⟨tg, htg⟩ : ∃ tg, tg = T.g := ⟨_, rfl⟩
  rw [← htg] at ci htl ct0
  have hkc2 : kc ≤ 9223372036854775807 := hkm
  obtain ⟨kn, hkn⟩ : ∃ kn, kn = ks.length := ⟨_, rfl⟩
  obtain ⟨nv, hnv⟩ : ∃ nv, nv = ps.length := ⟨_, rfl⟩
  simp only [← hkn] at hon hcell c1 hkc
  simp only [← hnv] at hon c0
  have HON := Lib.hid hon
  have HTM := Lib.hid hTm
  have HTG := Lib.hid htg
  have NTG : Hid (¬ tg = g) := Lib.hid (by rw [htg]; exact htD.2.1)
  have NTJ : Hid (¬ tg = jk) := Lib.hid (fun e => htD.2.2.2 (by rw [← htg, e]))
  have NDG : Hid (¬ some jk = some g) := Lib.hid hon.d2
  have NDT : Hid (¬ some jk = some tg) := Lib.hid (by rw [htg]; exact htD.2.2.2)
  have HKB : Hid (kn ≤ 1000) := Lib.hid (by omega)
  have ND1 : Hid (¬ kp = some g) := Lib.hid hon.d1
  have ND2 : Hid (¬ kp = some tg) := Lib.hid (by rw [htg]; exact htD.2.2.1)
  have ND3 : Hid (¬ kp = some bt) := Lib.hid hbD.2.2.1
  have HOP : Hid (Own w 65 2 kp (.slice av nv cv) nv (pcells ps)) := Lib.hid (by have := hon.hp; rwa [← hnv] at this)
  have HRM : Hid (w.rangeAt bt om (KV.mk mk mv).cells) := Lib.hid hrm
  have HGL := Lib.hid hgl
  have HTL := Lib.hid htl
  have C0 := Lib.hid c0
  have C1 := Lib.hid c1
  have CT := Lib.hid ct0
  have HIN : Hid (i ≤ nv) := Lib.hid (by omega)
  have HNB : Hid (nv ≤ 1000) := Lib.hid (by omega)
  have HNV := Lib.hid hnv
  have HKN := Lib.hid hkn
  have HKL := Lib.hid hkl
  have HT := Lib.hid hT
  have HM := Lib.hid hm
  have HNT := Lib.hid hnT
  have H39 : Hid (3 ≤ T.ps.length ∧ T.ps.length ≤ 900) := Lib.hid ⟨h3, h9⟩
  have hik : (i : Int) < (kn : Int) := by omega
  have hmn : (m : Int) < (nT : Int) := by omega
  have hq2 : (nT : Int) / 2 = (m : Int) := by omega
  have hq3 : Int.tdiv (nT : Int) 2 = (m : Int) := by rw [Int.tdiv_eq_ediv_of_nonneg (by omega)]; exact hq2
  have hiw : IntKind.i64.wrap ((i : Int) + 1) = (i : Int) + 1 := i64_id _ (by omega) (by omega)
  have hmw : IntKind.i64.wrap ((m : Int) + 1) = (m : Int) + 1 := i64_id _ (by omega) (by omega)
  have mixed : Try.prog.follows .mixedOrders = true := by kernel_rfl
  clear hon hcell hTD htb htD hbD htp hpc hrm hTm htg hkm hM hnv hkn hkl h3 h9 hT hm hnT hom hm1 hl hn
  go_enter Try.func51, Try.ntmps51
  go_upto_region 2 with fail
  obtain ⟨q, hq⟩ : ∃ q, q = w := ⟨_, rfl⟩
  subst hq
  refine Roll.region_v 15 65 Dsp2 Lsp2 [(0, .pointer (some ⟨g, 0, none⟩)), (1, .int .i64 (i : Int)), (4, .pointer (some ⟨tg, 0, none⟩)), (5, .int .i64 (m : Int))] 14 [true, true, true, true, true, true, true, true, true, true, true, true, true, false, false] (fun p => Below q.heap.size q p) (fun vv p => ∃ k2, Own p 65 2 k2 vv (nv + 1) (insC (pcells ps) [.string mk, .string mv] (i * 2)) ∧ RowTo q p kp k2) (fun p => Kept (fun j => kp = some j) q p) (fun p p2 => Kept (fun j => kp = some j) p p2) [fun vv p => (vv 0) = .pointer (some ⟨g, 0, none⟩), fun vv p => (vv 1) = .pointer (some ⟨g, 0, none⟩), fun vv p => (vv 2) = .pointer (some ⟨g, 0, none⟩), fun vv p => (vv 3) = .pointer (some ⟨g, 0, none⟩), fun vv p => (vv 4) = .slice av nv cv, fun vv p => (vv 5) = .int .i64 (i : Int), fun vv p => (vv 6) = .pointer (some ⟨tg, 0, none⟩), fun vv p => (vv 7) = .pointer (some ⟨tg, 0, none⟩), fun vv p => (vv 8) = .pointer (some ⟨tg, 0, none⟩), fun vv p => (vv 9) = .slice (some ⟨bt, ot, none⟩) nT cT, fun vv p => (vv 10) = .int .i64 (m : Int), fun vv p => (vv 11) = .pointer (some ⟨bt, om, none⟩), fun vv p => (vv 12) = .agg #[.string mk, .string mv], fun vv p => ∃ x, (vv 13) = .slice (some ⟨x, 0, none⟩) 1 1 ∧ q.heap.size ≤ x ∧ p.heap[x]? = some (.cells #[.string mk, .string mv] 65 (0, 0)), fun vv p => True] (by kernel_rfl) (by kernel_rfl) rfl ⟨rfl, rfl, rfl, rfl, trivial⟩ ((Below.refl _ _).drew) (by decide) (by kernel_rfl) (fun _ h => Kept.of_below _ h) (fun _ _ h => by obtain ⟨_, _, h⟩ := h; exact h.2) (fun _ => Kept.refl _ _) ?_ ?_ ?_
  · exact ⟨fun _ _ _ _ h => h, fun _ _ _ _ h => h, fun _ _ _ _ h => h, fun _ _ _ _ h => h, fun _ _ _ _ h => h, fun _ _ _ _ h => h, fun _ _ _ _ h => h, fun _ _ _ _ h => h, fun _ _ _ _ h => h, fun _ _ _ _ h => h, fun _ _ _ _ h => h, fun _ _ _ _ h => h, fun _ _ _ _ h => h, fun _ _ _ hs h => by obtain ⟨x, e1, e2, e3⟩ := h; exact ⟨x, e1, e2, hs.heap e3 (fun e => by have := HOP.out.lt _ e; omega)⟩, fun _ _ _ _ h => h, trivial⟩
  · intro b0 hN hlv
    refine ⟨?_, ?_, ?_, ?_, ?_, ?_, ?_, ?_, ?_, ?_, ?_, ?_, ?_, ?_, ?_, trivial⟩
    · intro vs p hI0 hp
      have hI := Roll.inw_pure (by decide) rfl hI0
      clear hI0
      have e0 : (Roll.putD Dsp2 vs [] b0).eval (.tmp 0) = .pointer (some ⟨g, 0, none⟩) := (Roll.eval_old rfl).trans (hlv.at 0 (0, .pointer (some ⟨g, 0, none⟩)) rfl)
      clear hp hlv hN
      unfold Roll.Goes
      simp only [Lsp2, List.getD_cons_zero, List.getD_cons_succ]
      generalize Roll.putD Dsp2 vs [] b0 = a1 at *
      refine Roll.goes_val (w' := p) (.pointer (some ⟨g, 0, none⟩)) rfl ?_ ⟨(Roll.outw_pure (by decide) rfl), rfl⟩
      (have ec : ∀ x, a1.eval (.const x) = x := fun _ => rfl); (have ef : ∀ x, a1.eval (.func x) = .func (.func x) #[] #[] := fun _ => rfl); generalize a1.eval = ρ at *
      skip
      go_simp <;> (intros; first | (exfalso; omega) | rfl)
    · intro vs p hI0 hp
      have hI := Roll.inw_pure (by decide) rfl hI0
      clear hI0
      have e0 : (Roll.putD Dsp2 vs [] b0).eval (.tmp 0) = .pointer (some ⟨g, 0, none⟩) := (Roll.eval_old rfl).trans (hlv.at 0 (0, .pointer (some ⟨g, 0, none⟩)) rfl)
      clear hp hlv hN
      unfold Roll.Goes
      simp only [Lsp2, List.getD_cons_zero, List.getD_cons_succ]
      generalize Roll.putD Dsp2 vs [] b0 = a1 at *
      refine Roll.goes_val (w' := p) (.pointer (some ⟨g, 0, none⟩)) rfl ?_ ⟨(Roll.outw_pure (by decide) rfl), rfl⟩
      (have ec : ∀ x, a1.eval (.const x) = x := fun _ => rfl); (have ef : ∀ x, a1.eval (.func x) = .func (.func x) #[] #[] := fun _ => rfl); generalize a1.eval = ρ at *
      skip
      go_simp <;> (intros; first | (exfalso; omega) | rfl)
    · intro vs p hI0 hp
      have hI := Roll.inw_pure (by decide) rfl hI0
      clear hI0
      have h1 : (vs 1) = .pointer (some ⟨g, 0, none⟩) := hp 1 (by simp [Lsp2])
      have e20 : (Roll.putD Dsp2 vs [1] b0).eval (.tmp 20) = .pointer (some ⟨g, 0, none⟩) := (Roll.eval_new 1 rfl (by decide) (by decide) (by omega)).trans h1
      clear hp hlv hN
      unfold Roll.Goes
      simp only [Lsp2, List.getD_cons_zero, List.getD_cons_succ]
      generalize Roll.putD Dsp2 vs [1] b0 = a1 at *
      refine Roll.goes_val (w' := p) (.pointer (some ⟨g, 0, none⟩)) rfl ?_ ⟨(Roll.outw_pure (by decide) rfl), rfl⟩
      (have ec : ∀ x, a1.eval (.const x) = x := fun _ => rfl); (have ef : ∀ x, a1.eval (.func x) = .func (.func x) #[] #[] := fun _ => rfl); generalize a1.eval = ρ at *
      clear h1
      go_simp <;> (intros; first | (exfalso; omega) | rfl)
    · intro vs p hI0 hp
      have hI := Roll.inw_pure (by decide) rfl hI0
      clear hI0
      have h2 : (vs 2) = .pointer (some ⟨g, 0, none⟩) := hp 2 (by simp [Lsp2])
      have e21 : (Roll.putD Dsp2 vs [2] b0).eval (.tmp 21) = .pointer (some ⟨g, 0, none⟩) := (Roll.eval_new 2 rfl (by decide) (by decide) (by omega)).trans h2
      clear hp hlv hN
      unfold Roll.Goes
      simp only [Lsp2, List.getD_cons_zero, List.getD_cons_succ]
      generalize Roll.putD Dsp2 vs [2] b0 = a1 at *
      refine Roll.goes_val (w' := p) (.pointer (some ⟨g, 0, none⟩)) rfl ?_ ⟨(Roll.outw_pure (by decide) rfl), rfl⟩
      (have ec : ∀ x, a1.eval (.const x) = x := fun _ => rfl); (have ef : ∀ x, a1.eval (.func x) = .func (.func x) #[] #[] := fun _ => rfl); generalize a1.eval = ρ at *
      clear h2
      go_simp <;> (intros; first | (exfalso; omega) | rfl)
    · intro vs p hI0 hp
      have hI := Roll.inw_pure (by decide) rfl hI0
      clear hI0
      have h3 : (vs 3) = .pointer (some ⟨g, 0, none⟩) := hp 3 (by simp [Lsp2])
      have e22 : (Roll.putD Dsp2 vs [3] b0).eval (.tmp 22) = .pointer (some ⟨g, 0, none⟩) := (Roll.eval_new 3 rfl (by decide) (by decide) (by omega)).trans h3
      clear hp hlv hN
      unfold Roll.Goes
      simp only [Lsp2, List.getD_cons_zero, List.getD_cons_succ]
      generalize Roll.putD Dsp2 vs [3] b0 = a1 at *
      have cf : p.cell? ⟨g, 0, none⟩ = some (.slice av nv cv) := (hI.cell (p := ⟨g, 0, none⟩) HGL.out ND1.out).trans C0.out
      refine Roll.goes_val (w' := p) (.slice av nv cv) rfl ?_ ⟨(Roll.outw_pure (by decide) rfl), rfl⟩
      (have ec : ∀ x, a1.eval (.const x) = x := fun _ => rfl); (have ef : ∀ x, a1.eval (.func x) = .func (.func x) #[] #[] := fun _ => rfl); generalize a1.eval = ρ at *
      clear h3
      go_simp <;> (intros; first | (exfalso; omega) | rfl)
    · intro vs p hI0 hp
      have hI := Roll.inw_pure (by decide) rfl hI0
      clear hI0
      have e1 : (Roll.putD Dsp2 vs [] b0).eval (.tmp 1) = .int .i64 (i : Int) := (Roll.eval_old rfl).trans (hlv.at 1 (1, .int .i64 (i : Int)) rfl)
      clear hp hlv hN
      unfold Roll.Goes
      simp only [Lsp2, List.getD_cons_zero, List.getD_cons_succ]
      generalize Roll.putD Dsp2 vs [] b0 = a1 at *
      refine Roll.goes_val (w' := p) (.int .i64 (i : Int)) rfl ?_ ⟨(Roll.outw_pure (by decide) rfl), rfl⟩
      (have ec : ∀ x, a1.eval (.const x) = x := fun _ => rfl); (have ef : ∀ x, a1.eval (.func x) = .func (.func x) #[] #[] := fun _ => rfl); generalize a1.eval = ρ at *
      skip
      go_simp <;> (intros; first | (exfalso; omega) | rfl)
    · intro vs p hI0 hp
      have hI := Roll.inw_pure (by decide) rfl hI0
      clear hI0
      have e4 : (Roll.putD Dsp2 vs [] b0).eval (.tmp 4) = .pointer (some ⟨tg, 0, none⟩) := (Roll.eval_old rfl).trans (hlv.at 2 (4, .pointer (some ⟨tg, 0, none⟩)) rfl)
      clear hp hlv hN
      unfold Roll.Goes
      simp only [Lsp2, List.getD_cons_zero, List.getD_cons_succ]
      generalize Roll.putD Dsp2 vs [] b0 = a1 at *
      refine Roll.goes_val (w' := p) (.pointer (some ⟨tg, 0, none⟩)) rfl ?_ ⟨(Roll.outw_pure (by decide) rfl), rfl⟩
      (have ec : ∀ x, a1.eval (.const x) = x := fun _ => rfl); (have ef : ∀ x, a1.eval (.func x) = .func (.func x) #[] #[] := fun _ => rfl); generalize a1.eval = ρ at *
      skip
      go_simp <;> (intros; first | (exfalso; omega) | rfl)
    · intro vs p hI0 hp
      have hI := Roll.inw_pure (by decide) rfl hI0
      clear hI0
      have h6 : (vs 6) = .pointer (some ⟨tg, 0, none⟩) := hp 6 (by simp [Lsp2])
      have e25 : (Roll.putD Dsp2 vs [6] b0).eval (.tmp 25) = .pointer (some ⟨tg, 0, none⟩) := (Roll.eval_new 6 rfl (by decide) (by decide) (by omega)).trans h6
      clear hp hlv hN
      unfold Roll.Goes
      simp only [Lsp2, List.getD_cons_zero, List.getD_cons_succ]
      generalize Roll.putD Dsp2 vs [6] b0 = a1 at *
      refine Roll.goes_val (w' := p) (.pointer (some ⟨tg, 0, none⟩)) rfl ?_ ⟨(Roll.outw_pure (by decide) rfl), rfl⟩
      (have ec : ∀ x, a1.eval (.const x) = x := fun _ => rfl); (have ef : ∀ x, a1.eval (.func x) = .func (.func x) #[] #[] := fun _ => rfl); generalize a1.eval = ρ at *
      clear h6
      go_simp <;> (intros; first | (exfalso; omega) | rfl)
    · intro vs p hI0 hp
      have hI := Roll.inw_pure (by decide) rfl hI0
      clear hI0
      have h7 : (vs 7) = .pointer (some ⟨tg, 0, none⟩) := hp 7 (by simp [Lsp2])
      have e26 : (Roll.putD Dsp2 vs [7] b0).eval (.tmp 26) = .pointer (some ⟨tg, 0, none⟩) := (Roll.eval_new 7 rfl (by decide) (by decide) (by omega)).trans h7
      clear hp hlv hN
      unfold Roll.Goes
      simp only [Lsp2, List.getD_cons_zero, List.getD_cons_succ]
      generalize Roll.putD Dsp2 vs [7] b0 = a1 at *
      refine Roll.goes_val (w' := p) (.pointer (some ⟨tg, 0, none⟩)) rfl ?_ ⟨(Roll.outw_pure (by decide) rfl), rfl⟩
      (have ec : ∀ x, a1.eval (.const x) = x := fun _ => rfl); (have ef : ∀ x, a1.eval (.func x) = .func (.func x) #[] #[] := fun _ => rfl); generalize a1.eval = ρ at *
      clear h7
      go_simp <;> (intros; first | (exfalso; omega) | rfl)
    · intro vs p hI0 hp
      have hI := Roll.inw_pure (by decide) rfl hI0
      clear hI0
      have h8 : (vs 8) = .pointer (some ⟨tg, 0, none⟩) := hp 8 (by simp [Lsp2])
      have e27 : (Roll.putD Dsp2 vs [8] b0).eval (.tmp 27) = .pointer (some ⟨tg, 0, none⟩) := (Roll.eval_new 8 rfl (by decide) (by decide) (by omega)).trans h8
      clear hp hlv hN
      unfold Roll.Goes
      simp only [Lsp2, List.getD_cons_zero, List.getD_cons_succ]
      generalize Roll.putD Dsp2 vs [8] b0 = a1 at *
      have cf : p.cell? ⟨tg, 0, none⟩ = some (.slice (some ⟨bt, ot, none⟩) nT cT) := (hI.cell (p := ⟨tg, 0, none⟩) HTL.out ND2.out).trans CT.out
      refine Roll.goes_val (w' := p) (.slice (some ⟨bt, ot, none⟩) nT cT) rfl ?_ ⟨(Roll.outw_pure (by decide) rfl), rfl⟩
      (have ec : ∀ x, a1.eval (.const x) = x := fun _ => rfl); (have ef : ∀ x, a1.eval (.func x) = .func (.func x) #[] #[] := fun _ => rfl); generalize a1.eval = ρ at *
      clear h8
      go_simp <;> (intros; first | (exfalso; omega) | rfl)
    · intro vs p hI0 hp
      have hI := Roll.inw_pure (by decide) rfl hI0
      clear hI0
      have e5 : (Roll.putD Dsp2 vs [] b0).eval (.tmp 5) = .int .i64 (m : Int) := (Roll.eval_old rfl).trans (hlv.at 3 (5, .int .i64 (m : Int)) rfl)
      clear hp hlv hN
      unfold Roll.Goes
      simp only [Lsp2, List.getD_cons_zero, List.getD_cons_succ]
      generalize Roll.putD Dsp2 vs [] b0 = a1 at *
      refine Roll.goes_val (w' := p) (.int .i64 (m : Int)) rfl ?_ ⟨(Roll.outw_pure (by decide) rfl), rfl⟩
      (have ec : ∀ x, a1.eval (.const x) = x := fun _ => rfl); (have ef : ∀ x, a1.eval (.func x) = .func (.func x) #[] #[] := fun _ => rfl); generalize a1.eval = ρ at *
      skip
      go_simp <;> (intros; first | (exfalso; omega) | rfl)
    · intro vs p hI0 hp
      have hI := Roll.inw_pure (by decide) rfl hI0
      clear hI0
      have h9 : (vs 9) = .slice (some ⟨bt, ot, none⟩) nT cT := hp 9 (by simp [Lsp2])
      have h10 : (vs 10) = .int .i64 (m : Int) := hp 10 (by simp [Lsp2])
      have e28 : (Roll.putD Dsp2 vs [9, 10] b0).eval (.tmp 28) = .slice (some ⟨bt, ot, none⟩) nT cT := (Roll.eval_new 9 rfl (by decide) (by decide) (by omega)).trans h9
      have e29 : (Roll.putD Dsp2 vs [9, 10] b0).eval (.tmp 29) = .int .i64 (m : Int) := (Roll.eval_new 10 rfl (by decide) (by decide) (by omega)).trans h10
      clear hp hlv hN
      unfold Roll.Goes
      simp only [Lsp2, List.getD_cons_zero, List.getD_cons_succ]
      generalize Roll.putD Dsp2 vs [9, 10] b0 = a1 at *
      refine Roll.goes_val (w' := p) (.pointer (some ⟨bt, om, none⟩)) rfl ?_ ⟨(Roll.outw_pure (by decide) rfl), rfl⟩
      (have ec : ∀ x, a1.eval (.const x) = x := fun _ => rfl); (have ef : ∀ x, a1.eval (.func x) = .func (.func x) #[] #[] := fun _ => rfl); generalize a1.eval = ρ at *
      clear h9 h10
      go_simp <;> (intros; first | (exfalso; omega) | rfl)
    · intro vs p hI0 hp
      have hI := Roll.inw_pure (by decide) rfl hI0
      clear hI0
      have h11 : (vs 11) = .pointer (some ⟨bt, om, none⟩) := hp 11 (by simp [Lsp2])
      have e30 : (Roll.putD Dsp2 vs [11] b0).eval (.tmp 30) = .pointer (some ⟨bt, om, none⟩) := (Roll.eval_new 11 rfl (by decide) (by decide) (by omega)).trans h11
      clear hp hlv hN
      unfold Roll.Goes
      simp only [Lsp2, List.getD_cons_zero, List.getD_cons_succ]
      generalize Roll.putD Dsp2 vs [11] b0 = a1 at *
      have ld0 := run_loadPair (range_kept HRM.out (by simp [KV.cells]) hI ND3.out)
      refine Roll.goes_val (w' := p) (.agg #[.string mk, .string mv]) rfl ?_ ⟨(Roll.outw_pure (by decide) rfl), rfl⟩
      (have ec : ∀ x, a1.eval (.const x) = x := fun _ => rfl); (have ef : ∀ x, a1.eval (.func x) = .func (.func x) #[] #[] := fun _ => rfl); generalize a1.eval = ρ at *
      clear h11
      go_simp <;> (intros; first | (exfalso; omega) | rfl)
    · intro vs p hI0 hp
      have hI := Roll.inw_pre (by decide) rfl hI0
      clear hI0
      have h12 : (vs 12) = .agg #[.string mk, .string mv] := hp 12 (by simp [Lsp2])
      have e31 : (Roll.putD Dsp2 vs [12] b0).eval (.tmp 31) = .agg #[.string mk, .string mv] := (Roll.eval_new 12 rfl (by decide) (by decide) (by omega)).trans h12
      clear hp hlv hN
      unfold Roll.Goes
      simp only [Lsp2, List.getD_cons_zero, List.getD_cons_succ]
      generalize Roll.putD Dsp2 vs [12] b0 = a1 at *
      have hal : Below p.heap.size p (p.alloc (.cells #[.string mk, .string mv] 65)) := (Below.refl _ _).alloc (Nat.le_refl _) _
      refine Roll.goes_val (w' := p.alloc (.cells #[.string mk, .string mv] 65)) (.slice (some ⟨p.heap.size, 0, none⟩) 1 1) rfl (by have ec : ∀ x, a1.eval (.const x) = x := fun _ => rfl; have ef : ∀ x, a1.eval (.func x) = .func (.func x) #[] #[] := fun _ => rfl; have hbs := run_bs1P; generalize a1.eval = ρ at *; go_simp <;> (intros; first | (exfalso; omega) | rfl)) ⟨Roll.outw_pre (by decide) rfl (hI.trans (hal.mono hI.size)) (Kept.of_below _ hal), p.heap.size, rfl, hI.size, heap_new rfl⟩
    · intro vs p hI0 hp
      have hI := Roll.inw_k0 rfl hI0
      clear hI0
      have h4 : (vs 4) = .slice av nv cv := hp 4 (by simp [Lsp2])
      have h5 : (vs 5) = .int .i64 (i : Int) := hp 5 (by simp [Lsp2])
      have h13 : ∃ x, (vs 13) = .slice (some ⟨x, 0, none⟩) 1 1 ∧ q.heap.size ≤ x ∧ p.heap[x]? = some (.cells #[.string mk, .string mv] 65 (0, 0)) := hp 13 (by simp [Lsp2])
      have e23 : (Roll.putD Dsp2 vs [4, 5, 13] b0).eval (.tmp 23) = .slice av nv cv := (Roll.eval_new 4 rfl (by decide) (by decide) (by omega)).trans h4
      have e24 : (Roll.putD Dsp2 vs [4, 5, 13] b0).eval (.tmp 24) = .int .i64 (i : Int) := (Roll.eval_new 5 rfl (by decide) (by decide) (by omega)).trans h5
      have e32 : (Roll.putD Dsp2 vs [4, 5, 13] b0).eval (.tmp 32) = vs 13 := (Roll.eval_new 13 rfl (by decide) (by decide) (by omega))
      clear hp hlv hN
      unfold Roll.Goes
      simp only [Lsp2, List.getD_cons_zero, List.getD_cons_succ]
      generalize Roll.putD Dsp2 vs [4, 5, 13] b0 = a1 at *
      obtain ⟨x, hvx, hxq, hhx⟩ := h13
      rw [hvx] at e32
      refine Roll.goes_call 71 #[.slice av nv cv, .int .i64 (i : Int), .slice (some ⟨x, 0, none⟩) 1 1] p rfl (by have ec : ∀ x, a1.eval (.const x) = x := fun _ => rfl; have ef : ∀ x, a1.eval (.func x) = .func (.func x) #[] #[] := fun _ => rfl; generalize a1.eval = ρ at *; go_simp) ?_
      refine (insertP_any p kp (.slice av nv cv) nv (pcells ps) [.string mk, .string mv] i x 65 (HOP.out.kept (Kept.of_below (fun _ => False) hI) (fun _ _ h => h)) rfl (pcells_one ps) (by simp [Value.oneCell']) HIN.out HNB.out hhx (fun e => by have := HOP.out.lt x e; omega)).mono ?_
      rintro y p2 ⟨k2, v2, rfl, ho, hr⟩
      exact ⟨_, rfl, Roll.outw_k0 rfl ⟨k2, ho, fun j hj => (hr.1 j hj).imp id (fun e => Nat.le_trans hI.size e), (Kept.of_below _ hI).trans hr.2 (fun _ _ h => h)⟩ hr.2, trivial⟩
  · intro vs p hI hR
    have h0 : (vs 0) = .pointer (some ⟨g, 0, none⟩) := hR 0 (by omega)
    have h1 : (vs 1) = .pointer (some ⟨g, 0, none⟩) := hR 1 (by omega)
    have h2 : (vs 2) = .pointer (some ⟨g, 0, none⟩) := hR 2 (by omega)
    have h3 : (vs 3) = .pointer (some ⟨g, 0, none⟩) := hR 3 (by omega)
    have h4 : (vs 4) = .slice av nv cv := hR 4 (by omega)
    have h5 : (vs 5) = .int .i64 (i : Int) := hR 5 (by omega)
    have h6 : (vs 6) = .pointer (some ⟨tg, 0, none⟩) := hR 6 (by omega)
    have h7 : (vs 7) = .pointer (some ⟨tg, 0, none⟩) := hR 7 (by omega)
    have h8 : (vs 8) = .pointer (some ⟨tg, 0, none⟩) := hR 8 (by omega)
    have h9 : (vs 9) = .slice (some ⟨bt, ot, none⟩) nT cT := hR 9 (by omega)
    have h10 : (vs 10) = .int .i64 (m : Int) := hR 10 (by omega)
    have h11 : (vs 11) = .pointer (some ⟨bt, om, none⟩) := hR 11 (by omega)
    have h12 : (vs 12) = .agg #[.string mk, .string mv] := hR 12 (by omega)
    have h13 : ∃ x, (vs 13) = .slice (some ⟨x, 0, none⟩) 1 1 ∧ q.heap.size ≤ x ∧ p.heap[x]? = some (.cells #[.string mk, .string mv] 65 (0, 0)) := hR 13 (by omega)
    have h14 : True := hR 14 (by omega)
    clear hR
    simp only [List.range_succ, List.range_zero, List.nil_append, List.cons_append, Roll.putD, Act.put, List.getD_cons_zero, List.getD_cons_succ, List.setIfInBounds_toArray, List.set_cons_zero, List.set_cons_succ, List.drop_succ_cons, List.drop_zero, Dsp2]
    simp only [h0, h1, h2, h3, h4, h5, h6, h7, h8, h9, h10, h11, h12]
    clear h0 h1 h2 h3 h4 h5 h6 h7 h8 h9 h10 h11 h12
    clear h13 h14
    generalize vs 13 = v13 at *; generalize vs 14 = v14 at *
    obtain ⟨k2, ho, hr⟩ := hI
    obtain ⟨a2, c2, rfl, -⟩ := id ho.sl
    have hgp := hr.2.heap HON.out.blk HON.out.d1
    have cg0 := cell_of_row p g 0 _ _ _ hgp
    have fg0 := frozen_of_row p g 0 _ _ hgp
    have HON2 : Hid (ONx D w0 (p.setCell ⟨g, 0, none⟩ (.slice a2 (nv + 1) c2)) g k2 (some jk) (.slice a2 (nv + 1) c2) (.slice (some ⟨jk, 0, none⟩) kn kc) (ps.take i ++ ⟨mk, mv⟩ :: ps.drop i) ks xs) := Lib.hid (HON.out.newP2 (by
      have e1 : (ps.take i ++ KV.mk mk mv :: ps.drop i).length = nv + 1 := by have := HNV.out; have := HIN.out; simp only [List.length_append, List.length_take, List.length_cons, List.length_drop]; omega
      rw [e1, pcells_ins ps i (by have := HNV.out; have := HIN.out; omega)]
      exact ho) hr)
    have CT3 : Hid ((p.setCell ⟨g, 0, none⟩ (.slice a2 (nv + 1) c2)).cell? ⟨tg, 0, none⟩ = some (.slice (some ⟨bt, ot, none⟩) nT cT)) := Lib.hid ((((Kept.refl (fun j => j = g) p).setCell (p := ⟨g, 0, none⟩) (fun _ => rfl) (.slice a2 (nv + 1) c2)).cell (p := ⟨tg, 0, none⟩) (Nat.lt_of_lt_of_le HTL.out hr.2.size) NTG.out).trans ((hr.2.cell (p := ⟨tg, 0, none⟩) HTL.out ND2.out).trans CT.out))
    have HTL3 : Hid (tg < (p.setCell ⟨g, 0, none⟩ (.slice a2 (nv + 1) c2)).heap.size) := Lib.hid (by rw [World.size_setCell]; exact Nat.lt_of_lt_of_le HTL.out hr.2.size)
    clear ho hr hgp
    go_upto_region 3 with fail
    obtain ⟨q3, hq3⟩ : ∃ q3, q3 = p.setCell ⟨g, 0, none⟩ (.slice a2 (nv + 1) c2) := ⟨_, rfl⟩
    rw [← hq3] at HON2 CT3 HTL3 ⊢
    clear hq3 cg0 fg0
    obtain ⟨hgl3, -, c13, -, -⟩ := HON2.out.facts
    obtain ⟨jk3, c3, e3, e4, -, -, hjl3, hck3⟩ := HON2.out.kidAt (by omega)
    cases e3
    have HGL3 := Lib.hid hgl3
    have C13 := Lib.hid c13
    have HJL3 := Lib.hid hjl3
    have ck3 := hck3 i hi
    have CK3 : Hid (q3.cell? ⟨jk, i, none⟩ = some (.pointer (some ⟨ks[i].g, 0, none⟩)) ∧ q3.frozen? ⟨jk, i, none⟩ = false) := Lib.hid ck3
    clear hgl3 c13 hjl3 hck3 ck3 e4 c3
    refine Roll.region_f 8 65 Dsp3 Lsp3 [(0, .pointer (some ⟨g, 0, none⟩)), (1, .int .i64 (i : Int)), (4, .pointer (some ⟨tg, 0, none⟩)), (5, .int .i64 (m : Int))] (fun p => Below q3.heap.size q3 p) (fun p p2 => Below p.heap.size p p2) [fun vv p => vv = .pointer (some ⟨g, 0, none⟩), fun vv p => vv = .pointer (some ⟨g, 0, none⟩), fun vv p => vv = .pointer (some ⟨g, 1, none⟩), fun vv p => vv = .slice (some ⟨jk, 0, none⟩) kn kc, fun vv p => vv = .int .i64 (i : Int), fun vv p => vv = .pointer (some ⟨tg, 0, none⟩), fun vv p => vv = .int .i64 (m : Int), fun vv p => ∃ c, vv = .pointer (some ⟨c, 0, none⟩) ∧ NdD (fun b => Off D w0.heap.size g k2 (some jk) b ∨ q3.heap.size ≤ b) p (.mk c (T.ps.take m) (T.ks.take (m + 1)))] (by kernel_rfl) (by kernel_rfl) rfl ⟨rfl, rfl, rfl, rfl, trivial⟩ ((Below.refl _ _).drew) ?_ ?_ ?_
    · exact ⟨fun _ _ _ _ h => h, fun _ _ _ _ h => h, fun _ _ _ _ h => h, fun _ _ _ _ h => h, fun _ _ _ _ h => h, fun _ _ _ _ h => h, fun _ _ _ _ h => h, fun _ _ _ hs h => by obtain ⟨c, e1, e2⟩ := h; exact ⟨c, e1, e2.under hs⟩, trivial⟩
    · intro b0 hN hlv
      refine ⟨?_, ?_, ?_, ?_, ?_, ?_, ?_, ?_, trivial⟩
      · intro vs p hI hp
        have e0 : (Roll.putD Dsp3 vs [] b0).eval (.tmp 0) = .pointer (some ⟨g, 0, none⟩) := (Roll.eval_old rfl).trans (hlv.at 0 (0, .pointer (some ⟨g, 0, none⟩)) rfl)
        clear hp hlv hN
        unfold Roll.Goes
        simp only [Lsp3, List.getD_cons_zero, List.getD_cons_succ]
        generalize Roll.putD Dsp3 vs [] b0 = a1 at *
        refine Roll.goes_val (w' := p) (.pointer (some ⟨g, 0, none⟩)) rfl ?_ ⟨hI, Below.refl _ _, rfl⟩
        (have ec : ∀ x, a1.eval (.const x) = x := fun _ => rfl); (have ef : ∀ x, a1.eval (.func x) = .func (.func x) #[] #[] := fun _ => rfl); generalize a1.eval = ρ at *
        skip
        go_simp <;> (intros; first | (exfalso; omega) | rfl)
      · intro vs p hI hp
        have h0 : (vs 0) = .pointer (some ⟨g, 0, none⟩) := hp 0 (by simp [Lsp3])
        have e36 : (Roll.putD Dsp3 vs [0] b0).eval (.tmp 36) = .pointer (some ⟨g, 0, none⟩) := (Roll.eval_new 0 rfl (by decide) (by decide) (by omega)).trans h0
        clear hp hlv hN
        unfold Roll.Goes
        simp only [Lsp3, List.getD_cons_zero, List.getD_cons_succ]
        generalize Roll.putD Dsp3 vs [0] b0 = a1 at *
        refine Roll.goes_val (w' := p) (.pointer (some ⟨g, 0, none⟩)) rfl ?_ ⟨hI, Below.refl _ _, rfl⟩
        (have ec : ∀ x, a1.eval (.const x) = x := fun _ => rfl); (have ef : ∀ x, a1.eval (.func x) = .func (.func x) #[] #[] := fun _ => rfl); generalize a1.eval = ρ at *
        clear h0
        go_simp <;> (intros; first | (exfalso; omega) | rfl)
      · intro vs p hI hp
        have h1 : (vs 1) = .pointer (some ⟨g, 0, none⟩) := hp 1 (by simp [Lsp3])
        have e37 : (Roll.putD Dsp3 vs [1] b0).eval (.tmp 37) = .pointer (some ⟨g, 0, none⟩) := (Roll.eval_new 1 rfl (by decide) (by decide) (by omega)).trans h1
        clear hp hlv hN
        unfold Roll.Goes
        simp only [Lsp3, List.getD_cons_zero, List.getD_cons_succ]
        generalize Roll.putD Dsp3 vs [1] b0 = a1 at *
        refine Roll.goes_val (w' := p) (.pointer (some ⟨g, 1, none⟩)) rfl ?_ ⟨hI, Below.refl _ _, rfl⟩
        (have ec : ∀ x, a1.eval (.const x) = x := fun _ => rfl); (have ef : ∀ x, a1.eval (.func x) = .func (.func x) #[] #[] := fun _ => rfl); generalize a1.eval = ρ at *
        clear h1
        go_simp <;> (intros; first | (exfalso; omega) | rfl)
      · intro vs p hI hp
        have h2 : (vs 2) = .pointer (some ⟨g, 1, none⟩) := hp 2 (by simp [Lsp3])
        have e38 : (Roll.putD Dsp3 vs [2] b0).eval (.tmp 38) = .pointer (some ⟨g, 1, none⟩) := (Roll.eval_new 2 rfl (by decide) (by decide) (by omega)).trans h2
        clear hp hlv hN
        unfold Roll.Goes
        simp only [Lsp3, List.getD_cons_zero, List.getD_cons_succ]
        generalize Roll.putD Dsp3 vs [2] b0 = a1 at *
        have cf : p.cell? ⟨g, 1, none⟩ = some (.slice (some ⟨jk, 0, none⟩) kn kc) := (hI.cell (p := ⟨g, 1, none⟩) HGL3.out).trans C13.out
        refine Roll.goes_val (w' := p) (.slice (some ⟨jk, 0, none⟩) kn kc) rfl ?_ ⟨hI, Below.refl _ _, rfl⟩
        (have ec : ∀ x, a1.eval (.const x) = x := fun _ => rfl); (have ef : ∀ x, a1.eval (.func x) = .func (.func x) #[] #[] := fun _ => rfl); generalize a1.eval = ρ at *
        clear h2
        go_simp <;> (intros; first | (exfalso; omega) | rfl)
      · intro vs p hI hp
        have e1 : (Roll.putD Dsp3 vs [] b0).eval (.tmp 1) = .int .i64 (i : Int) := (Roll.eval_old rfl).trans (hlv.at 1 (1, .int .i64 (i : Int)) rfl)
        clear hp hlv hN
        unfold Roll.Goes
        simp only [Lsp3, List.getD_cons_zero, List.getD_cons_succ]
        generalize Roll.putD Dsp3 vs [] b0 = a1 at *
        refine Roll.goes_val (w' := p) (.int .i64 (i : Int)) rfl ?_ ⟨hI, Below.refl _ _, rfl⟩
        (have ec : ∀ x, a1.eval (.const x) = x := fun _ => rfl); (have ef : ∀ x, a1.eval (.func x) = .func (.func x) #[] #[] := fun _ => rfl); generalize a1.eval = ρ at *
        skip
        go_simp <;> (intros; first | (exfalso; omega) | rfl)
      · intro vs p hI hp
        have e4 : (Roll.putD Dsp3 vs [] b0).eval (.tmp 4) = .pointer (some ⟨tg, 0, none⟩) := (Roll.eval_old rfl).trans (hlv.at 2 (4, .pointer (some ⟨tg, 0, none⟩)) rfl)
        clear hp hlv hN
        unfold Roll.Goes
        simp only [Lsp3, List.getD_cons_zero, List.getD_cons_succ]
        generalize Roll.putD Dsp3 vs [] b0 = a1 at *
        refine Roll.goes_val (w' := p) (.pointer (some ⟨tg, 0, none⟩)) rfl ?_ ⟨hI, Below.refl _ _, rfl⟩
        (have ec : ∀ x, a1.eval (.const x) = x := fun _ => rfl); (have ef : ∀ x, a1.eval (.func x) = .func (.func x) #[] #[] := fun _ => rfl); generalize a1.eval = ρ at *
        skip
        go_simp <;> (intros; first | (exfalso; omega) | rfl)
      · intro vs p hI hp
        have e5 : (Roll.putD Dsp3 vs [] b0).eval (.tmp 5) = .int .i64 (m : Int) := (Roll.eval_old rfl).trans (hlv.at 3 (5, .int .i64 (m : Int)) rfl)
        clear hp hlv hN
        unfold Roll.Goes
        simp only [Lsp3, List.getD_cons_zero, List.getD_cons_succ]
        generalize Roll.putD Dsp3 vs [] b0 = a1 at *
        refine Roll.goes_val (w' := p) (.int .i64 (m : Int)) rfl ?_ ⟨hI, Below.refl _ _, rfl⟩
        (have ec : ∀ x, a1.eval (.const x) = x := fun _ => rfl); (have ef : ∀ x, a1.eval (.func x) = .func (.func x) #[] #[] := fun _ => rfl); generalize a1.eval = ρ at *
        skip
        go_simp <;> (intros; first | (exfalso; omega) | rfl)
      · intro vs p hI hp
        have h5 : (vs 5) = .pointer (some ⟨tg, 0, none⟩) := hp 5 (by simp [Lsp3])
        have h6 : (vs 6) = .int .i64 (m : Int) := hp 6 (by simp [Lsp3])
        have e41 : (Roll.putD Dsp3 vs [5, 6] b0).eval (.tmp 41) = .pointer (some ⟨tg, 0, none⟩) := (Roll.eval_new 5 rfl (by decide) (by decide) (by omega)).trans h5
        have e42 : (Roll.putD Dsp3 vs [5, 6] b0).eval (.tmp 42) = .int .i64 (m : Int) := (Roll.eval_new 6 rfl (by decide) (by decide) (by omega)).trans h6
        clear hp hlv hN
        unfold Roll.Goes
        simp only [Lsp3, List.getD_cons_zero, List.getD_cons_succ]
        generalize Roll.putD Dsp3 vs [5, 6] b0 = a1 at *
        refine Roll.goes_call 70 #[.pointer (some ⟨tg, 0, none⟩), .int .i64 0, .int .i64 (m : Int)] p rfl (by have ec : ∀ x, a1.eval (.const x) = x := fun _ => rfl; have ef : ∀ x, a1.eval (.func x) = .func (.func x) #[] #[] := fun _ => rfl; generalize a1.eval = ρ at *; go_simp) ?_
        have hc := part_any ((HON2.out.kids T (List.mem_append.2 (.inl HTM.out))).under hI) HKL.out 0 m (by have := H39.out; have := HM.out; omega) (by have := HM.out; omega) (by have := H39.out; omega)
        rw [← HTG.out] at hc
        refine hc.mono ?_
        rintro y p2 ⟨c, rfl, kp', kk', vp', vk', hc2⟩
        have hb2 := hc2.below
        exact ⟨_, rfl, hI.trans (hb2.mono hI.size), hb2, c, rfl, hc2.nd.dom (fun b hb => hb.imp id (Nat.le_trans hI.size))⟩
    · intro vs p hI hR
      have h0 : (vs 0) = .pointer (some ⟨g, 0, none⟩) := hR 0 (by omega)
      have h1 : (vs 1) = .pointer (some ⟨g, 0, none⟩) := hR 1 (by omega)
      have h2 : (vs 2) = .pointer (some ⟨g, 1, none⟩) := hR 2 (by omega)
      have h3 : (vs 3) = .slice (some ⟨jk, 0, none⟩) kn kc := hR 3 (by omega)
      have h4 : (vs 4) = .int .i64 (i : Int) := hR 4 (by omega)
      have h5 : (vs 5) = .pointer (some ⟨tg, 0, none⟩) := hR 5 (by omega)
      have h6 : (vs 6) = .int .i64 (m : Int) := hR 6 (by omega)
      have h7 : ∃ c, (vs 7) = .pointer (some ⟨c, 0, none⟩) ∧ NdD (fun b => Off D w0.heap.size g k2 (some jk) b ∨ q3.heap.size ≤ b) p (.mk c (T.ps.take m) (T.ks.take (m + 1))) := hR 7 (by omega)
      clear hR
      simp only [List.range_succ, List.range_zero, List.nil_append, List.cons_append, Roll.putD, Act.put, List.getD_cons_zero, List.getD_cons_succ, List.setIfInBounds_toArray, List.set_cons_zero, List.set_cons_succ, List.drop_succ_cons, List.drop_zero, Dsp3]
      simp only [h0, h1, h2, h3, h4, h5, h6]
      clear h0 h1 h2 h3 h4 h5 h6
      generalize vs 7 = v7 at *
      obtain ⟨c, rfl, hnd⟩ := h7
      have cki := (hI.cell (p := ⟨jk, i, none⟩) HJL3.out).trans CK3.out.1
      have fki := ((Kept.of_below (fun _ => False) hI).frozen (p := ⟨jk, i, none⟩) HJL3.out (fun h => h)).trans CK3.out.2
      have HON3 : Hid (ONx D w0 (p.setCell ⟨jk, i, none⟩ (.pointer (some ⟨c, 0, none⟩))) g k2 (some jk) (.slice a2 (nv + 1) c2) (.slice (some ⟨jk, 0, none⟩) kn kc) (ps.take i ++ ⟨mk, mv⟩ :: ps.drop i) (ks.set i (.mk c (T.ps.take m) (T.ks.take (m + 1)))) (T :: xs)) := Lib.hid ((((HON2.out.sub (ys := T :: xs) (fun k hk => by
        rcases List.mem_cons.1 hk with rfl | hk
        · exact List.mem_append.2 (.inl HTM.out)
        · exact List.mem_append.2 (.inr hk))).add hI hnd).setK i hi _ (List.mem_append.2 (.inr (List.mem_cons_self ..)))).sub (fun k hk => List.mem_append.2 (.inr (List.mem_cons_of_mem _ hk))))
      have CT4 : Hid ((p.setCell ⟨jk, i, none⟩ (.pointer (some ⟨c, 0, none⟩))).cell? ⟨tg, 0, none⟩ = some (.slice (some ⟨bt, ot, none⟩) nT cT)) := Lib.hid ((((Kept.refl (fun j => j = jk) p).setCell (p := ⟨jk, i, none⟩) (fun _ => rfl) (.pointer (some ⟨c, 0, none⟩))).cell (p := ⟨tg, 0, none⟩) (Nat.lt_of_lt_of_le HTL3.out hI.size) NTJ.out).trans ((hI.cell (p := ⟨tg, 0, none⟩) HTL3.out).trans CT3.out))
      clear hnd hI
      go_upto_region 4 with fail
      obtain ⟨q4, hq4⟩ : ∃ q4, q4 = p.setCell ⟨jk, i, none⟩ (.pointer (some ⟨c, 0, none⟩)) := ⟨_, rfl⟩
      rw [← hq4] at HON3 CT4 ⊢
      clear hq4 cki fki
      obtain ⟨L, hL⟩ : ∃ L, L = BT.mk c (T.ps.take m) (T.ks.take (m + 1)) := ⟨_, rfl⟩
      rw [← hL] at HON3
      obtain ⟨ks4, hks4⟩ : ∃ ks4, ks4 = ks.set i L := ⟨_, rfl⟩
      rw [← hks4] at HON3
      have HL := Lib.hid hL
      have HKS4 := Lib.hid hks4
      have HK4L : Hid (ks4.length = kn) := Lib.hid (by rw [hks4, List.length_set, HKN.out])
      clear hL hks4
      obtain ⟨hgl4, -, c14, -, f14⟩ := HON3.out.facts
      have HGL4 := Lib.hid hgl4
      have C14 := Lib.hid c14
      have HT4 : Hid (NdD (Off D w0.heap.size g k2 (some jk)) q4 T) := Lib.hid (HON3.out.kids T (List.mem_append.2 (.inr (List.mem_cons_self ..))))
      have HTL4 : Hid (tg < q4.heap.size) := Lib.hid (by rw [HTG.out]; exact HT4.out.nd.lt)
      have HJL4 : Hid (jk < q4.heap.size) := Lib.hid (HON3.out.hk.lt jk rfl)
      clear hgl4 c14 f14
      refine Roll.region_v 18 65 Dsp4 Lsp4 [(0, .pointer (some ⟨g, 0, none⟩)), (1, .int .i64 (i : Int)), (4, .pointer (some ⟨tg, 0, none⟩)), (5, .int .i64 (m : Int))] 17 [true, true, true, true, true, true, true, true, true, true, true, true, true, true, true, false, false, false] (fun p => Below q4.heap.size q4 p) (fun vv p => ∃ k3 c, Own p 85 1 k3 vv (kn + 1) (insC (pnts (ks4.map BT.g)) [.pointer (some ⟨c, 0, none⟩)] (i + 1)) ∧ RowTo q4 p (some jk) k3 ∧ NdD (fun b => (Off D w0.heap.size g k2 (some jk) b ∨ q4.heap.size ≤ b) ∧ k3 ≠ some b) p (.mk c (T.ps.drop (m + 1)) (T.ks.drop (m + 1)))) (fun p => Kept (fun j => some jk = some j) q4 p) (fun p p2 => Kept (fun j => some jk = some j) p p2) [fun vv p => (vv 0) = .pointer (some ⟨g, 0, none⟩), fun vv p => (vv 1) = .pointer (some ⟨g, 0, none⟩), fun vv p => (vv 2) = .pointer (some ⟨g, 0, none⟩), fun vv p => (vv 3) = .pointer (some ⟨g, 1, none⟩), fun vv p => (vv 4) = .slice (some ⟨jk, 0, none⟩) kn kc, fun vv p => (vv 5) = .int .i64 (i : Int), fun vv p => (vv 6) = .int .i64 ((i : Int) + 1), fun vv p => (vv 7) = .pointer (some ⟨tg, 0, none⟩), fun vv p => (vv 8) = .int .i64 (m : Int), fun vv p => (vv 9) = .int .i64 ((m : Int) + 1), fun vv p => (vv 10) = .pointer (some ⟨tg, 0, none⟩), fun vv p => (vv 11) = .pointer (some ⟨tg, 0, none⟩), fun vv p => (vv 12) = .pointer (some ⟨tg, 0, none⟩), fun vv p => (vv 13) = .slice (some ⟨bt, ot, none⟩) nT cT, fun vv p => (vv 14) = .int .i64 (nT : Int), fun vv p => ∃ c, (vv 15) = .pointer (some ⟨c, 0, none⟩) ∧ NdD (fun b => Off D w0.heap.size g k2 (some jk) b ∨ q4.heap.size ≤ b) p (.mk c (T.ps.drop (m + 1)) (T.ks.drop (m + 1))), fun vv p => ∃ x, (vv 16) = .slice (some ⟨x, 0, none⟩) 1 1 ∧ q4.heap.size ≤ x ∧ ∃ c, p.heap[x]? = some (.cells #[.pointer (some ⟨c, 0, none⟩)] 85 (0, 0)) ∧ NdD (fun b => Off D w0.heap.size g k2 (some jk) b ∨ q4.heap.size ≤ b) p (.mk c (T.ps.drop (m + 1)) (T.ks.drop (m + 1))), fun vv p => True] (by kernel_rfl) (by kernel_rfl) rfl ⟨rfl, rfl, rfl, rfl, trivial⟩ ((Below.refl _ _).drew) (by decide) (by kernel_rfl) (fun _ h => Kept.of_below _ h) (fun _ _ h => by obtain ⟨_, _, _, h, _⟩ := h; exact h.2) (fun _ => Kept.refl _ _) ?_ ?_ ?_
      · exact ⟨fun _ _ _ _ h => h, fun _ _ _ _ h => h, fun _ _ _ _ h => h, fun _ _ _ _ h => h, fun _ _ _ _ h => h, fun _ _ _ _ h => h, fun _ _ _ _ h => h, fun _ _ _ _ h => h, fun _ _ _ _ h => h, fun _ _ _ _ h => h, fun _ _ _ _ h => h, fun _ _ _ _ h => h, fun _ _ _ _ h => h, fun _ _ _ _ h => h, fun _ _ _ _ h => h, fun _ _ _ hs h => by obtain ⟨c, e1, e2⟩ := h; exact ⟨c, e1, e2.kept hs (fun b _ hb e => by rcases hb with h | h; exact h.2.2.2 e; cases e; have := HJL4.out; omega)⟩, fun _ _ _ hs h => by obtain ⟨x, e1, e2, c, e3, e5⟩ := h; exact ⟨x, e1, e2, c, hs.heap e3 (fun e => by cases e; have := HJL4.out; omega), e5.kept hs (fun b _ hb e => by rcases hb with h | h; exact h.2.2.2 e; cases e; have := HJL4.out; omega)⟩, fun _ _ _ _ h => h, trivial⟩
      · intro b0 hN hlv
        refine ⟨?_, ?_, ?_, ?_, ?_, ?_, ?_, ?_, ?_, ?_, ?_, ?_, ?_, ?_, ?_, ?_, ?_, ?_, trivial⟩
        · intro vs p hI0 hp
          have hI := Roll.inw_pure (by decide) rfl hI0
          clear hI0
          have e0 : (Roll.putD Dsp4 vs [] b0).eval (.tmp 0) = .pointer (some ⟨g, 0, none⟩) := (Roll.eval_old rfl).trans (hlv.at 0 (0, .pointer (some ⟨g, 0, none⟩)) rfl)
          clear hp hlv hN
          unfold Roll.Goes
          simp only [Lsp4, List.getD_cons_zero, List.getD_cons_succ]
          generalize Roll.putD Dsp4 vs [] b0 = a1 at *
          refine Roll.goes_val (w' := p) (.pointer (some ⟨g, 0, none⟩)) rfl ?_ ⟨(Roll.outw_pure (by decide) rfl), rfl⟩
          (have ec : ∀ x, a1.eval (.const x) = x := fun _ => rfl); (have ef : ∀ x, a1.eval (.func x) = .func (.func x) #[] #[] := fun _ => rfl); generalize a1.eval = ρ at *
          skip
          go_simp <;> (intros; first | (exfalso; omega) | rfl)
        · intro vs p hI0 hp
          have hI := Roll.inw_pure (by decide) rfl hI0
          clear hI0
          have e0 : (Roll.putD Dsp4 vs [] b0).eval (.tmp 0) = .pointer (some ⟨g, 0, none⟩) := (Roll.eval_old rfl).trans (hlv.at 0 (0, .pointer (some ⟨g, 0, none⟩)) rfl)
          clear hp hlv hN
          unfold Roll.Goes
          simp only [Lsp4, List.getD_cons_zero, List.getD_cons_succ]
          generalize Roll.putD Dsp4 vs [] b0 = a1 at *
          refine Roll.goes_val (w' := p) (.pointer (some ⟨g, 0, none⟩)) rfl ?_ ⟨(Roll.outw_pure (by decide) rfl), rfl⟩
          (have ec : ∀ x, a1.eval (.const x) = x := fun _ => rfl); (have ef : ∀ x, a1.eval (.func x) = .func (.func x) #[] #[] := fun _ => rfl); generalize a1.eval = ρ at *
          skip
          go_simp <;> (intros; first | (exfalso; omega) | rfl)
        · intro vs p hI0 hp
          have hI := Roll.inw_pure (by decide) rfl hI0
          clear hI0
          have h1 : (vs 1) = .pointer (some ⟨g, 0, none⟩) := hp 1 (by simp [Lsp4])
          have e46 : (Roll.putD Dsp4 vs [1] b0).eval (.tmp 46) = .pointer (some ⟨g, 0, none⟩) := (Roll.eval_new 1 rfl (by decide) (by decide) (by omega)).trans h1
          clear hp hlv hN
          unfold Roll.Goes
          simp only [Lsp4, List.getD_cons_zero, List.getD_cons_succ]
          generalize Roll.putD Dsp4 vs [1] b0 = a1 at *
          refine Roll.goes_val (w' := p) (.pointer (some ⟨g, 0, none⟩)) rfl ?_ ⟨(Roll.outw_pure (by decide) rfl), rfl⟩
          (have ec : ∀ x, a1.eval (.const x) = x := fun _ => rfl); (have ef : ∀ x, a1.eval (.func x) = .func (.func x) #[] #[] := fun _ => rfl); generalize a1.eval = ρ at *
          clear h1
          go_simp <;> (intros; first | (exfalso; omega) | rfl)
        · intro vs p hI0 hp
          have hI := Roll.inw_pure (by decide) rfl hI0
          clear hI0
          have h2 : (vs 2) = .pointer (some ⟨g, 0, none⟩) := hp 2 (by simp [Lsp4])
          have e47 : (Roll.putD Dsp4 vs [2] b0).eval (.tmp 47) = .pointer (some ⟨g, 0, none⟩) := (Roll.eval_new 2 rfl (by decide) (by decide) (by omega)).trans h2
          clear hp hlv hN
          unfold Roll.Goes
          simp only [Lsp4, List.getD_cons_zero, List.getD_cons_succ]
          generalize Roll.putD Dsp4 vs [2] b0 = a1 at *
          refine Roll.goes_val (w' := p) (.pointer (some ⟨g, 1, none⟩)) rfl ?_ ⟨(Roll.outw_pure (by decide) rfl), rfl⟩
          (have ec : ∀ x, a1.eval (.const x) = x := fun _ => rfl); (have ef : ∀ x, a1.eval (.func x) = .func (.func x) #[] #[] := fun _ => rfl); generalize a1.eval = ρ at *
          clear h2
          go_simp <;> (intros; first | (exfalso; omega) | rfl)
        · intro vs p hI0 hp
          have hI := Roll.inw_pure (by decide) rfl hI0
          clear hI0
          have h3 : (vs 3) = .pointer (some ⟨g, 1, none⟩) := hp 3 (by simp [Lsp4])
          have e48 : (Roll.putD Dsp4 vs [3] b0).eval (.tmp 48) = .pointer (some ⟨g, 1, none⟩) := (Roll.eval_new 3 rfl (by decide) (by decide) (by omega)).trans h3
          clear hp hlv hN
          unfold Roll.Goes
          simp only [Lsp4, List.getD_cons_zero, List.getD_cons_succ]
          generalize Roll.putD Dsp4 vs [3] b0 = a1 at *
          have cf : p.cell? ⟨g, 1, none⟩ = some (.slice (some ⟨jk, 0, none⟩) kn kc) := (hI.cell (p := ⟨g, 1, none⟩) HGL4.out NDG.out).trans C14.out
          refine Roll.goes_val (w' := p) (.slice (some ⟨jk, 0, none⟩) kn kc) rfl ?_ ⟨(Roll.outw_pure (by decide) rfl), rfl⟩
          (have ec : ∀ x, a1.eval (.const x) = x := fun _ => rfl); (have ef : ∀ x, a1.eval (.func x) = .func (.func x) #[] #[] := fun _ => rfl); generalize a1.eval = ρ at *
          clear h3
          go_simp <;> (intros; first | (exfalso; omega) | rfl)
        · intro vs p hI0 hp
          have hI := Roll.inw_pure (by decide) rfl hI0
          clear hI0
          have e1 : (Roll.putD Dsp4 vs [] b0).eval (.tmp 1) = .int .i64 (i : Int) := (Roll.eval_old rfl).trans (hlv.at 1 (1, .int .i64 (i : Int)) rfl)
          clear hp hlv hN
          unfold Roll.Goes
          simp only [Lsp4, List.getD_cons_zero, List.getD_cons_succ]
          generalize Roll.putD Dsp4 vs [] b0 = a1 at *
          refine Roll.goes_val (w' := p) (.int .i64 (i : Int)) rfl ?_ ⟨(Roll.outw_pure (by decide) rfl), rfl⟩
          (have ec : ∀ x, a1.eval (.const x) = x := fun _ => rfl); (have ef : ∀ x, a1.eval (.func x) = .func (.func x) #[] #[] := fun _ => rfl); generalize a1.eval = ρ at *
          skip
          go_simp <;> (intros; first | (exfalso; omega) | rfl)
        · intro vs p hI0 hp
          have hI := Roll.inw_pure (by decide) rfl hI0
          clear hI0
          have h5 : (vs 5) = .int .i64 (i : Int) := hp 5 (by simp [Lsp4])
          have e50 : (Roll.putD Dsp4 vs [5] b0).eval (.tmp 50) = .int .i64 (i : Int) := (Roll.eval_new 5 rfl (by decide) (by decide) (by omega)).trans h5
          clear hp hlv hN
          unfold Roll.Goes
          simp only [Lsp4, List.getD_cons_zero, List.getD_cons_succ]
          generalize Roll.putD Dsp4 vs [5] b0 = a1 at *
          refine Roll.goes_val (w' := p) (.int .i64 ((i : Int) + 1)) rfl ?_ ⟨(Roll.outw_pure (by decide) rfl), rfl⟩
          (have ec : ∀ x, a1.eval (.const x) = x := fun _ => rfl); (have ef : ∀ x, a1.eval (.func x) = .func (.func x) #[] #[] := fun _ => rfl); generalize a1.eval = ρ at *
          clear h5
          go_simp <;> (intros; first | (exfalso; omega) | rfl)
        · intro vs p hI0 hp
          have hI := Roll.inw_pure (by decide) rfl hI0
          clear hI0
          have e4 : (Roll.putD Dsp4 vs [] b0).eval (.tmp 4) = .pointer (some ⟨tg, 0, none⟩) := (Roll.eval_old rfl).trans (hlv.at 2 (4, .pointer (some ⟨tg, 0, none⟩)) rfl)
          clear hp hlv hN
          unfold Roll.Goes
          simp only [Lsp4, List.getD_cons_zero, List.getD_cons_succ]
          generalize Roll.putD Dsp4 vs [] b0 = a1 at *
          refine Roll.goes_val (w' := p) (.pointer (some ⟨tg, 0, none⟩)) rfl ?_ ⟨(Roll.outw_pure (by decide) rfl), rfl⟩
          (have ec : ∀ x, a1.eval (.const x) = x := fun _ => rfl); (have ef : ∀ x, a1.eval (.func x) = .func (.func x) #[] #[] := fun _ => rfl); generalize a1.eval = ρ at *
          skip
          go_simp <;> (intros; first | (exfalso; omega) | rfl)
        · intro vs p hI0 hp
          have hI := Roll.inw_pure (by decide) rfl hI0
          clear hI0
          have e5 : (Roll.putD Dsp4 vs [] b0).eval (.tmp 5) = .int .i64 (m : Int) := (Roll.eval_old rfl).trans (hlv.at 3 (5, .int .i64 (m : Int)) rfl)
          clear hp hlv hN
          unfold Roll.Goes
          simp only [Lsp4, List.getD_cons_zero, List.getD_cons_succ]
          generalize Roll.putD Dsp4 vs [] b0 = a1 at *
          refine Roll.goes_val (w' := p) (.int .i64 (m : Int)) rfl ?_ ⟨(Roll.outw_pure (by decide) rfl), rfl⟩
          (have ec : ∀ x, a1.eval (.const x) = x := fun _ => rfl); (have ef : ∀ x, a1.eval (.func x) = .func (.func x) #[] #[] := fun _ => rfl); generalize a1.eval = ρ at *
          skip
          go_simp <;> (intros; first | (exfalso; omega) | rfl)
        · intro vs p hI0 hp
          have hI := Roll.inw_pure (by decide) rfl hI0
          clear hI0
          have h8 : (vs 8) = .int .i64 (m : Int) := hp 8 (by simp [Lsp4])
          have e53 : (Roll.putD Dsp4 vs [8] b0).eval (.tmp 53) = .int .i64 (m : Int) := (Roll.eval_new 8 rfl (by decide) (by decide) (by omega)).trans h8
          clear hp hlv hN
          unfold Roll.Goes
          simp only [Lsp4, List.getD_cons_zero, List.getD_cons_succ]
          generalize Roll.putD Dsp4 vs [8] b0 = a1 at *
          refine Roll.goes_val (w' := p) (.int .i64 ((m : Int) + 1)) rfl ?_ ⟨(Roll.outw_pure (by decide) rfl), rfl⟩
          (have ec : ∀ x, a1.eval (.const x) = x := fun _ => rfl); (have ef : ∀ x, a1.eval (.func x) = .func (.func x) #[] #[] := fun _ => rfl); generalize a1.eval = ρ at *
          clear h8
          go_simp <;> (intros; first | (exfalso; omega) | rfl)
        · intro vs p hI0 hp
          have hI := Roll.inw_pure (by decide) rfl hI0
          clear hI0
          have e4 : (Roll.putD Dsp4 vs [] b0).eval (.tmp 4) = .pointer (some ⟨tg, 0, none⟩) := (Roll.eval_old rfl).trans (hlv.at 2 (4, .pointer (some ⟨tg, 0, none⟩)) rfl)
          clear hp hlv hN
          unfold Roll.Goes
          simp only [Lsp4, List.getD_cons_zero, List.getD_cons_succ]
          generalize Roll.putD Dsp4 vs [] b0 = a1 at *
          refine Roll.goes_val (w' := p) (.pointer (some ⟨tg, 0, none⟩)) rfl ?_ ⟨(Roll.outw_pure (by decide) rfl), rfl⟩
          (have ec : ∀ x, a1.eval (.const x) = x := fun _ => rfl); (have ef : ∀ x, a1.eval (.func x) = .func (.func x) #[] #[] := fun _ => rfl); generalize a1.eval = ρ at *
          skip
          go_simp <;> (intros; first | (exfalso; omega) | rfl)
        · intro vs p hI0 hp
          have hI := Roll.inw_pure (by decide) rfl hI0
          clear hI0
          have h10 : (vs 10) = .pointer (some ⟨tg, 0, none⟩) := hp 10 (by simp [Lsp4])
          have e55 : (Roll.putD Dsp4 vs [10] b0).eval (.tmp 55) = .pointer (some ⟨tg, 0, none⟩) := (Roll.eval_new 10 rfl (by decide) (by decide) (by omega)).trans h10
          clear hp hlv hN
          unfold Roll.Goes
          simp only [Lsp4, List.getD_cons_zero, List.getD_cons_succ]
          generalize Roll.putD Dsp4 vs [10] b0 = a1 at *
          refine Roll.goes_val (w' := p) (.pointer (some ⟨tg, 0, none⟩)) rfl ?_ ⟨(Roll.outw_pure (by decide) rfl), rfl⟩
          (have ec : ∀ x, a1.eval (.const x) = x := fun _ => rfl); (have ef : ∀ x, a1.eval (.func x) = .func (.func x) #[] #[] := fun _ => rfl); generalize a1.eval = ρ at *
          clear h10
          go_simp <;> (intros; first | (exfalso; omega) | rfl)
        · intro vs p hI0 hp
          have hI := Roll.inw_pure (by decide) rfl hI0
          clear hI0
          have h11 : (vs 11) = .pointer (some ⟨tg, 0, none⟩) := hp 11 (by simp [Lsp4])
          have e56 : (Roll.putD Dsp4 vs [11] b0).eval (.tmp 56) = .pointer (some ⟨tg, 0, none⟩) := (Roll.eval_new 11 rfl (by decide) (by decide) (by omega)).trans h11
          clear hp hlv hN
          unfold Roll.Goes
          simp only [Lsp4, List.getD_cons_zero, List.getD_cons_succ]
          generalize Roll.putD Dsp4 vs [11] b0 = a1 at *
          refine Roll.goes_val (w' := p) (.pointer (some ⟨tg, 0, none⟩)) rfl ?_ ⟨(Roll.outw_pure (by decide) rfl), rfl⟩
          (have ec : ∀ x, a1.eval (.const x) = x := fun _ => rfl); (have ef : ∀ x, a1.eval (.func x) = .func (.func x) #[] #[] := fun _ => rfl); generalize a1.eval = ρ at *
          clear h11
          go_simp <;> (intros; first | (exfalso; omega) | rfl)
        · intro vs p hI0 hp
          have hI := Roll.inw_pure (by decide) rfl hI0
          clear hI0
          have h12 : (vs 12) = .pointer (some ⟨tg, 0, none⟩) := hp 12 (by simp [Lsp4])
          have e57 : (Roll.putD Dsp4 vs [12] b0).eval (.tmp 57) = .pointer (some ⟨tg, 0, none⟩) := (Roll.eval_new 12 rfl (by decide) (by decide) (by omega)).trans h12
          clear hp hlv hN
          unfold Roll.Goes
          simp only [Lsp4, List.getD_cons_zero, List.getD_cons_succ]
          generalize Roll.putD Dsp4 vs [12] b0 = a1 at *
          have cf : p.cell? ⟨tg, 0, none⟩ = some (.slice (some ⟨bt, ot, none⟩) nT cT) := (hI.cell (p := ⟨tg, 0, none⟩) HTL4.out NDT.out).trans CT4.out
          refine Roll.goes_val (w' := p) (.slice (some ⟨bt, ot, none⟩) nT cT) rfl ?_ ⟨(Roll.outw_pure (by decide) rfl), rfl⟩
          (have ec : ∀ x, a1.eval (.const x) = x := fun _ => rfl); (have ef : ∀ x, a1.eval (.func x) = .func (.func x) #[] #[] := fun _ => rfl); generalize a1.eval = ρ at *
          clear h12
          go_simp <;> (intros; first | (exfalso; omega) | rfl)
        · intro vs p hI0 hp
          have hI := Roll.inw_pure (by decide) rfl hI0
          clear hI0
          have h13 : (vs 13) = .slice (some ⟨bt, ot, none⟩) nT cT := hp 13 (by simp [Lsp4])
          have e58 : (Roll.putD Dsp4 vs [13] b0).eval (.tmp 58) = .slice (some ⟨bt, ot, none⟩) nT cT := (Roll.eval_new 13 rfl (by decide) (by decide) (by omega)).trans h13
          clear hp hlv hN
          unfold Roll.Goes
          simp only [Lsp4, List.getD_cons_zero, List.getD_cons_succ]
          generalize Roll.putD Dsp4 vs [13] b0 = a1 at *
          refine Roll.goes_val (w' := p) (.int .i64 (nT : Int)) rfl ?_ ⟨(Roll.outw_pure (by decide) rfl), rfl⟩
          (have ec : ∀ x, a1.eval (.const x) = x := fun _ => rfl); (have ef : ∀ x, a1.eval (.func x) = .func (.func x) #[] #[] := fun _ => rfl); generalize a1.eval = ρ at *
          clear h13
          go_simp <;> (intros; first | (exfalso; omega) | rfl)
        · intro vs p hI0 hp
          have hI := Roll.inw_pre (by decide) rfl hI0
          clear hI0
          have h7 : (vs 7) = .pointer (some ⟨tg, 0, none⟩) := hp 7 (by simp [Lsp4])
          have h9 : (vs 9) = .int .i64 ((m : Int) + 1) := hp 9 (by simp [Lsp4])
          have h14 : (vs 14) = .int .i64 (nT : Int) := hp 14 (by simp [Lsp4])
          have e52 : (Roll.putD Dsp4 vs [7, 9, 14] b0).eval (.tmp 52) = .pointer (some ⟨tg, 0, none⟩) := (Roll.eval_new 7 rfl (by decide) (by decide) (by omega)).trans h7
          have e54 : (Roll.putD Dsp4 vs [7, 9, 14] b0).eval (.tmp 54) = .int .i64 ((m : Int) + 1) := (Roll.eval_new 9 rfl (by decide) (by decide) (by omega)).trans h9
          have e59 : (Roll.putD Dsp4 vs [7, 9, 14] b0).eval (.tmp 59) = .int .i64 (nT : Int) := (Roll.eval_new 14 rfl (by decide) (by decide) (by omega)).trans h14
          clear hp hlv hN
          unfold Roll.Goes
          simp only [Lsp4, List.getD_cons_zero, List.getD_cons_succ]
          generalize Roll.putD Dsp4 vs [7, 9, 14] b0 = a1 at *
          refine Roll.goes_call 70 #[.pointer (some ⟨tg, 0, none⟩), .int .i64 ((m : Int) + 1), .int .i64 (nT : Int)] p rfl (by have ec : ∀ x, a1.eval (.const x) = x := fun _ => rfl; have ef : ∀ x, a1.eval (.func x) = .func (.func x) #[] #[] := fun _ => rfl; generalize a1.eval = ρ at *; go_simp) ?_
          have hc := part_any (HT4.out.under hI) HKL.out (m + 1) T.ps.length (by have := H39.out; have := HM.out; omega) (Nat.le_refl _) (by have := H39.out; omega)
          rw [← HTG.out] at hc
          have e1 : (T.ps.take T.ps.length).drop (m + 1) = T.ps.drop (m + 1) := by rw [List.take_length]
          have e2 : (T.ks.take (T.ps.length + 1)).drop (m + 1) = T.ks.drop (m + 1) := by
            rcases HKL.out with h | h
            · rw [h]; simp
            · rw [← h, List.take_length]
          rw [e1, e2, HNT.out] at hc
          refine hc.mono ?_
          rintro y p2 ⟨c, rfl, kp', kk', vp', vk', hc2⟩
          have hb2 := hc2.below
          exact ⟨_, rfl, Roll.outw_pre (by decide) rfl (hI.trans (hb2.mono hI.size)) (Kept.of_below _ hb2), c, rfl, hc2.nd.dom (fun b hb => hb.imp id (Nat.le_trans hI.size))⟩
        · intro vs p hI0 hp
          have hI := Roll.inw_pre (by decide) rfl hI0
          clear hI0
          have h15 : ∃ c, (vs 15) = .pointer (some ⟨c, 0, none⟩) ∧ NdD (fun b => Off D w0.heap.size g k2 (some jk) b ∨ q4.heap.size ≤ b) p (.mk c (T.ps.drop (m + 1)) (T.ks.drop (m + 1))) := hp 15 (by simp [Lsp4])
          have e60 : (Roll.putD Dsp4 vs [15] b0).eval (.tmp 60) = vs 15 := (Roll.eval_new 15 rfl (by decide) (by decide) (by omega))
          clear hp hlv hN
          unfold Roll.Goes
          simp only [Lsp4, List.getD_cons_zero, List.getD_cons_succ]
          generalize Roll.putD Dsp4 vs [15] b0 = a1 at *
          obtain ⟨c, hvc, hnc⟩ := h15
          rw [hvc] at e60
          have hal : Below p.heap.size p (p.alloc (.cells #[.pointer (some ⟨c, 0, none⟩)] 85)) := (Below.refl _ _).alloc (Nat.le_refl _) _
          refine Roll.goes_val (w' := p.alloc (.cells #[.pointer (some ⟨c, 0, none⟩)] 85)) (.slice (some ⟨p.heap.size, 0, none⟩) 1 1) rfl (by have ec : ∀ x, a1.eval (.const x) = x := fun _ => rfl; have ef : ∀ x, a1.eval (.func x) = .func (.func x) #[] #[] := fun _ => rfl; have hbs := run_bs1N; generalize a1.eval = ρ at *; go_simp <;> (intros; first | (exfalso; omega) | rfl)) ⟨Roll.outw_pre (by decide) rfl (hI.trans (hal.mono hI.size)) (Kept.of_below _ hal), p.heap.size, rfl, hI.size, c, heap_new rfl, hnc.under hal⟩
        · intro vs p hI0 hp
          have hI := Roll.inw_k0 rfl hI0
          clear hI0
          have h4 : (vs 4) = .slice (some ⟨jk, 0, none⟩) kn kc := hp 4 (by simp [Lsp4])
          have h6 : (vs 6) = .int .i64 ((i : Int) + 1) := hp 6 (by simp [Lsp4])
          have h16 : ∃ x, (vs 16) = .slice (some ⟨x, 0, none⟩) 1 1 ∧ q4.heap.size ≤ x ∧ ∃ c, p.heap[x]? = some (.cells #[.pointer (some ⟨c, 0, none⟩)] 85 (0, 0)) ∧ NdD (fun b => Off D w0.heap.size g k2 (some jk) b ∨ q4.heap.size ≤ b) p (.mk c (T.ps.drop (m + 1)) (T.ks.drop (m + 1))) := hp 16 (by simp [Lsp4])
          have e49 : (Roll.putD Dsp4 vs [4, 6, 16] b0).eval (.tmp 49) = .slice (some ⟨jk, 0, none⟩) kn kc := (Roll.eval_new 4 rfl (by decide) (by decide) (by omega)).trans h4
          have e51 : (Roll.putD Dsp4 vs [4, 6, 16] b0).eval (.tmp 51) = .int .i64 ((i : Int) + 1) := (Roll.eval_new 6 rfl (by decide) (by decide) (by omega)).trans h6
          have e61 : (Roll.putD Dsp4 vs [4, 6, 16] b0).eval (.tmp 61) = vs 16 := (Roll.eval_new 16 rfl (by decide) (by decide) (by omega))
          clear hp hlv hN
          unfold Roll.Goes
          simp only [Lsp4, List.getD_cons_zero, List.getD_cons_succ]
          generalize Roll.putD Dsp4 vs [4, 6, 16] b0 = a1 at *
          obtain ⟨x, hvx, hxq, c, hhx, hnc⟩ := h16
          rw [hvx] at e61
          refine Roll.goes_call 73 #[.slice (some ⟨jk, 0, none⟩) kn kc, .int .i64 ((i : Int) + 1), .slice (some ⟨x, 0, none⟩) 1 1] p rfl (by have ec : ∀ x, a1.eval (.const x) = x := fun _ => rfl; have ef : ∀ x, a1.eval (.func x) = .func (.func x) #[] #[] := fun _ => rfl; generalize a1.eval = ρ at *; go_simp) ?_
          have hok : Own p 85 1 (some jk) (.slice (some ⟨jk, 0, none⟩) kn kc) kn (pnts (ks4.map BT.g)) := by have := HON3.out.hk.kept (Kept.of_below (fun _ => False) hI) (fun _ _ h => h); rwa [HK4L.out] at this
          refine (insertN_any p (some jk) (.slice (some ⟨jk, 0, none⟩) kn kc) kn (pnts (ks4.map BT.g)) [.pointer (some ⟨c, 0, none⟩)] (i + 1) x 85 hok rfl (pnts_one _) (by simp [Value.oneCell']) (by have := HKN.out; omega) HKB.out hhx (fun e => by have := HJL4.out; cases e; omega)).mono ?_
          rintro y p2 ⟨k3, v3, rfl, ho, hr⟩
          exact ⟨_, rfl, Roll.outw_k0 rfl ⟨k3, c, ho, ⟨fun j hj => (hr.1 j hj).imp id (fun e => Nat.le_trans hI.size e), (Kept.of_below _ hI).trans hr.2 (fun _ _ h => h)⟩, ((hnc.in).kept hr.2 (fun b _ hb e => by
            rcases hb.1 with h | h
            · exact h.2.2.2 e
            · cases e; have := HJL4.out; omega)).dom (fun b hb => ⟨hb.1, fun e => by
            rcases hr.1 b e with h | h
            · cases h
              rcases hb.1 with h | h
              · exact h.2.2.2 rfl
              · have := HJL4.out; omega
            · have := hb.2; omega⟩)⟩ hr.2, trivial⟩
      · intro vs p hI hR
        have h0 : (vs 0) = .pointer (some ⟨g, 0, none⟩) := hR 0 (by omega)
        have h1 : (vs 1) = .pointer (some ⟨g, 0, none⟩) := hR 1 (by omega)
        have h2 : (vs 2) = .pointer (some ⟨g, 0, none⟩) := hR 2 (by omega)
        have h3 : (vs 3) = .pointer (some ⟨g, 1, none⟩) := hR 3 (by omega)
        have h4 : (vs 4) = .slice (some ⟨jk, 0, none⟩) kn kc := hR 4 (by omega)
        have h5 : (vs 5) = .int .i64 (i : Int) := hR 5 (by omega)
        have h6 : (vs 6) = .int .i64 ((i : Int) + 1) := hR 6 (by omega)
        have h7 : (vs 7) = .pointer (some ⟨tg, 0, none⟩) := hR 7 (by omega)
        have h8 : (vs 8) = .int .i64 (m : Int) := hR 8 (by omega)
        have h9 : (vs 9) = .int .i64 ((m : Int) + 1) := hR 9 (by omega)
        have h10 : (vs 10) = .pointer (some ⟨tg, 0, none⟩) := hR 10 (by omega)
        have h11 : (vs 11) = .pointer (some ⟨tg, 0, none⟩) := hR 11 (by omega)
        have h12 : (vs 12) = .pointer (some ⟨tg, 0, none⟩) := hR 12 (by omega)
        have h13 : (vs 13) = .slice (some ⟨bt, ot, none⟩) nT cT := hR 13 (by omega)
        have h14 : (vs 14) = .int .i64 (nT : Int) := hR 14 (by omega)
        have h15 : ∃ c, (vs 15) = .pointer (some ⟨c, 0, none⟩) ∧ NdD (fun b => Off D w0.heap.size g k2 (some jk) b ∨ q4.heap.size ≤ b) p (.mk c (T.ps.drop (m + 1)) (T.ks.drop (m + 1))) := hR 15 (by omega)
        have h16 : ∃ x, (vs 16) = .slice (some ⟨x, 0, none⟩) 1 1 ∧ q4.heap.size ≤ x ∧ ∃ c, p.heap[x]? = some (.cells #[.pointer (some ⟨c, 0, none⟩)] 85 (0, 0)) ∧ NdD (fun b => Off D w0.heap.size g k2 (some jk) b ∨ q4.heap.size ≤ b) p (.mk c (T.ps.drop (m + 1)) (T.ks.drop (m + 1))) := hR 16 (by omega)
        have h17 : True := hR 17 (by omega)
        clear hR
        simp only [List.range_succ, List.range_zero, List.nil_append, List.cons_append, Roll.putD, Act.put, List.getD_cons_zero, List.getD_cons_succ, List.setIfInBounds_toArray, List.set_cons_zero, List.set_cons_succ, List.drop_succ_cons, List.drop_zero, Dsp4]
        simp only [h0, h1, h2, h3, h4, h5, h6, h7, h8, h9, h10, h11, h12, h13, h14]
        clear h0 h1 h2 h3 h4 h5 h6 h7 h8 h9 h10 h11 h12 h13 h14
        clear h15 h16 h17
        generalize vs 15 = v15 at *; generalize vs 16 = v16 at *; generalize vs 17 = v17 at *
        obtain ⟨k3, cR, ho, hr, hnd⟩ := hI
        obtain ⟨a3, c3, rfl, -⟩ := id ho.sl
        have hgp := hr.2.heap HON3.out.blk HON3.out.d2
        have cg1 := cell_of_row p g 1 _ _ _ hgp
        have fg1 := frozen_of_row p g 1 _ _ hgp
        obtain ⟨RR, hRR⟩ : ∃ RR, RR = BT.mk cR (T.ps.drop (m + 1)) (T.ks.drop (m + 1)) := ⟨_, rfl⟩
        rw [← hRR] at hnd
        have HON5 : Hid (ONx D w0 (p.setCell ⟨g, 1, none⟩ (.slice a3 (kn + 1) c3)) g k2 k3 (.slice a2 (nv + 1) c2) (.slice a3 (kn + 1) c3) (ps.take i ++ ⟨mk, mv⟩ :: ps.drop i) (ks4.take (i + 1) ++ RR :: ks4.drop (i + 1)) (T :: xs)) := Lib.hid (HON3.out.newK2 (by
          have e1 : (ks4.take (i + 1) ++ RR :: ks4.drop (i + 1)).length = kn + 1 := by have := HK4L.out; simp only [List.length_append, List.length_take, List.length_cons, List.length_drop]; omega
          rw [e1, pnts_ins ks4 (i + 1) RR, hRR]
          exact ho) hr (fun k hk => by
          rcases List.mem_append.1 hk with h | h
          · exact .inl (List.mem_append.2 (.inl (List.mem_of_mem_take h)))
          · rcases List.mem_cons.1 h with rfl | h
            · exact .inr hnd
            · exact .inl (List.mem_append.2 (.inl (List.mem_of_mem_drop h)))))
        have HRR := Lib.hid hRR
        clear ho hr hgp hnd hRR
        go_wp2_with fail
        go_end0
        refine ⟨rfl, L, RR, ?_, by rw [HL.out]; rfl, by rw [HL.out]; rfl, by rw [HRR.out]; rfl, by rw [HRR.out]; rfl⟩
        have e1 : ks4.take (i + 1) ++ RR :: ks4.drop (i + 1) = ks.take i ++ L :: RR :: ks.drop (i + 1) := by
          rw [HKS4.out, List.drop_set_of_lt (by omega), List.take_set, List.set_eq_take_append_cons_drop, if_pos (by rw [List.length_take]; omega), List.take_take, show min i (i + 1) = i by omega, List.drop_eq_nil_of_le (by rw [List.length_take]; omega)]
          simp
        rw [← e1]
        exact ⟨_, _, _, _, HON5.out.sub (fun k hk => List.mem_append.2 (.inr (List.mem_cons_of_mem _ hk)))⟩
end Go.Proofs.Ytfgmhidgkemfoaa
namespace Go.Proofs.Ytfgmhidgkemfoaa
open Go.RowKit
set_option linter.unusedSimpArgs false
set_option linter.unusedVariables false
attribute [local go_sem ↓] exec_loadPair exec_at_zeroP exec_at_succP Go.wp_at_zero Go.wp_at_succ
def Djn1 : List (Option Tmp) := [some 21, some 22, some 23, some 24, some 25, some 26, some 27, some 28, some 29, some 30, some 31, some 32, some 33, some 34, some 35, some 36, some 37, some 38, some 39, some 40, some 41, some 42, some 43, some 44, some 45, some 46, some 47, some 48, some 49, some 50, some 51, some 52, some 53, some 54, some 55, some 56, none]
def Ljn1 : List (List Nat) := [[], [0], [1], [2], [], [], [5], [6], [7], [], [9], [10], [11], [], [], [14], [12, 13, 15], [], [17], [18], [19], [8, 16, 20], [21], [], [23], [24], [25], [], [27], [28], [29], [26, 30], [31], [22, 32], [33], [3, 4], [35, 34]]
theorem run_bs3P (a1 : Option Addr) (n1 c1 : Nat) (a2 : Option Addr) (n2 c2 : Nat) (a3 : Option Addr) (n3 c3 : Nat) (W : World) : (Instr.buildSlice 50 3 #[(0, .slice a1 n1 c1), (1, .slice a2 n2 c2), (2, .slice a3 n3 c3)]).run Try.prog W = .ok (.slice (some ⟨W.heap.size, 0, none⟩) 3 3) (W.alloc (.cells #[.slice a1 n1 c1, .slice a2 n2 c2, .slice a3 n3 c3] 26)) := by kernel_rfl
theorem run_bs2N (a1 : Option Addr) (n1 c1 : Nat) (a2 : Option Addr) (n2 c2 : Nat) (W : World) : (Instr.buildSlice 141 2 #[(0, .slice a1 n1 c1), (1, .slice a2 n2 c2)]).run Try.prog W = .ok (.slice (some ⟨W.heap.size, 0, none⟩) 2 2) (W.alloc (.cells #[.slice a1 n1 c1, .slice a2 n2 c2] 92)) := by kernel_rfl
theorem run_bld94 (a1 : Option Addr) (n1 c1 : Nat) (a2 : Option Addr) (n2 c2 : Nat) (W : World) : (Instr.build 94 #[(0, .slice a1 n1 c1), (1, .slice a2 n2 c2)]).run Try.prog W = .ok (.agg #[.slice a1 n1 c1, .slice a2 n2 c2]) W := by kernel_rfl
theorem run_box94 (a1 : Option Addr) (n1 c1 : Nat) (a2 : Option Addr) (n2 c2 : Nat) (W : World) : (Instr.box 94 (.agg #[.slice a1 n1 c1, .slice a2 n2 c2])).run Try.prog W = .ok (.pointer (some ⟨W.heap.size, 0, none⟩)) (W.alloc (.cells #[.slice a1 n1 c1, .slice a2 n2 c2] 94)) := by kernel_rfl
set_option maxRecDepth 100000 in
set_option maxHeartbeats 4000000 in
theorem join_any {D : Nat → Prop} {w0 w : World} {g : Nat} {ps : List KV} {ks xs : List BT} (h : ON D w0 w g ps ks xs) (i : Nat) (hi : i < ps.length) (hl : ks.length = ps.length + 1) (hn : ps.length ≤ 900) (hs : (ks[i]'(by omega)).ps.length ≤ 900 ∧ (ks[i + 1]'(by omega)).ps.length ≤ 900 ∧ (ks[i]'(by omega)).ks.length ≤ 900 ∧ (ks[i + 1]'(by omega)).ks.length ≤ 900) :
    Calls Try.prog 85 #[.pointer (some ⟨g, 0, none⟩), .int .i64 (i : Int)] w fun e w' => e = .returned (.tuple #[]) ∧ ∃ J, ON D w0 w' g (ps.take i ++ ps.drop (i + 1)) (ks.take i ++ J :: ks.drop (i + 2)) xs ∧ J.ps = (ks[i]'(by omega)).ps ++ ps[i] :: (ks[i + 1]'(by omega)).ps ∧ J.ks = (ks[i]'(by omega)).ks ++ (ks[i + 1]'(by omega)).ks := by
  obtain ⟨kp, kk, vp, vk, hon⟩ := h
  have hi0 : i < ks.length := by omega
  have hi1 : i + 1 < ks.length := by omega
  obtain ⟨L, hL⟩ : ∃ L, L = ks[i]'hi0 := ⟨_, rfl⟩
  obtain ⟨R, hR⟩ : ∃ R, R = ks[i + 1]'hi1 := ⟨_, rfl⟩
  obtain ⟨M, hM⟩ : ∃ M, M = ps[i]'hi := ⟨_, rfl⟩
  have hLm : L ∈ ks := by rw [hL]; exact List.getElem_mem hi0
  have hRm : R ∈ ks := by rw [hR]; exact List.getElem_mem hi1
  rw [← hL, ← hR] at hs
  rw [← hL, ← hR, ← hM]
  obtain ⟨jk, kc, rfl, rfl, hkc, hkm, hjl, hcell⟩ := hon.kidAt (by omega)
  obtain ⟨jp, cv, rfl, rfl, hcv, hcm, hjpl⟩ := hon.pairAt (by omega)
  have hLD := hon.kids L (List.mem_append.2 (.inl hLm))
  have hRD := hon.kids R (List.mem_append.2 (.inl hRm))
  obtain ⟨aL, nL, cL, bL, mL, eL, -, hlb, cl0, cl1, hlp, hlk, hlkd⟩ := hLD.facts
  obtain ⟨aR, nR, cR, bR, mR, eR, -, hrb, cr0, cr1, hrp, hrk, hrkd⟩ := hRD.facts
  have hll : L.g < w.heap.size := (Array.getElem?_eq_some_iff.1 hlb).1
  have hrl : R.g < w.heap.size := (Array.getElem?_eq_some_iff.1 hrb).1
  obtain ⟨hgl, c0, c1, -, -⟩ := hon.facts
  obtain ⟨ci, fi⟩ := hcell i hi0
  obtain ⟨ci1, -⟩ := hcell (i + 1) hi1
  rw [← hL] at ci
  rw [← hR] at ci1
  obtain ⟨lg, hlg⟩ : ∃ lg, lg = L.g := ⟨_, rfl⟩
  obtain ⟨rg, hrg⟩ : ∃ rg, rg = R.g := ⟨_, rfl⟩
  rw [← hlg] at ci hll cl0 cl1
  rw [← hrg] at ci1 hrl cr0 cr1
  have hkc2 : kc ≤ 9223372036854775807 := hkm
  have hcv2 : cv ≤ 9223372036854775807 := hcm
  have hmp : Ps (fun _ => True) w (some ⟨jp, 0, none⟩) ps.length cv ps := by
    obtain ⟨a', c', e1, h2⟩ := hon.hp.sl
    cases e1
    exact ⟨rfl, h2.dom (fun _ _ => trivial)⟩
  obtain ⟨a', e1, hmp⟩ := hmp.part i (i + 1) (by omega) (by omega)
  have e2 : (ps.take (i + 1)).drop i = [M] := by
    rw [hM, List.take_succ_eq_append_getElem hi, List.drop_append, List.drop_eq_nil_of_le (by rw [List.length_take]; omega), List.length_take, show i - min i ps.length = 0 by omega]
    rfl
  rw [e1, e2] at hmp
  have HMP : Hid (Ps (fun _ => True) w (some ⟨jp, i * 2, none⟩) 1 (cv - i) [M]) := Lib.hid (by
    have h := hmp
    simp only [Option.map_some, Nat.zero_add, Nat.add_sub_cancel_left] at h
    exact h)
  clear hmp e1 e2 a'
  obtain ⟨kn, hkn⟩ : ∃ kn, kn = ks.length := ⟨_, rfl⟩
  obtain ⟨nv, hnv⟩ : ∃ nv, ps.length = nv + 1 := ⟨ps.length - 1, by omega⟩
  simp only [← hkn] at hon c1 hkc
  rw [hnv] at c0 hcv
  have hon : ONx D w0 w g (some jp) (some jk) (.slice (some ⟨jp, 0, none⟩) (nv + 1) cv) (.slice (some ⟨jk, 0, none⟩) kn kc) ps ks xs := by rw [hnv] at hon; exact hon
  obtain ⟨JP, hJP⟩ : ∃ JP, JP = L.ps ++ M :: R.ps := ⟨_, rfl⟩
  obtain ⟨JK, hJK⟩ : ∃ JK, JK = L.ks ++ R.ks := ⟨_, rfl⟩
  rw [← hJP, ← hJK]
  have HJP := Lib.hid hJP
  have HJK := Lib.hid hJK
  have HON := Lib.hid hon
  have HKD : Hid (∀ k, k ∈ JK → NdD (Off D w0.heap.size g (some jp) (some jk)) w k) := Lib.hid (fun k hk => by
    rw [hJK] at hk
    rcases List.mem_append.1 hk with h | h
    · exact hlkd k h
    · exact hrkd k h)
  have HLP : Hid (Ps (fun _ => True) w aL nL cL L.ps) := Lib.hid (hlp.dom (fun _ _ => trivial))
  have HRP : Hid (Ps (fun _ => True) w aR nR cR R.ps) := Lib.hid (hrp.dom (fun _ _ => trivial))
  have HLK : Hid (Ks (fun _ => True) w bL mL eL (L.ks.map BT.g)) := Lib.hid (hlk.dom (fun _ _ => trivial))
  have HRK : Hid (Ks (fun _ => True) w bR mR eR (R.ks.map BT.g)) := Lib.hid (hrk.dom (fun _ _ => trivial))
  have HSZ : Hid (nL = L.ps.length ∧ nR = R.ps.length ∧ mL = L.ks.length ∧ mR = R.ks.length ∧ nL ≤ 900 ∧ nR ≤ 900 ∧ mL ≤ 900 ∧ mR ≤ 900 ∧ nv ≤ 899) := Lib.hid (by
    have e1 := hlp.1
    have e2 := hrp.1
    have e3 := hlk.1
    have e4 := hrk.1
    rw [List.length_map] at e3 e4
    obtain ⟨h1, h2, h3, h4⟩ := hs
    omega)
  have HGL := Lib.hid hgl
  have HLL := Lib.hid hll
  have HRL := Lib.hid hrl
  have HJL := Lib.hid hjl
  have C0 := Lib.hid c0
  have C1 := Lib.hid c1
  have CL0 := Lib.hid cl0
  have CL1 := Lib.hid cl1
  have CR0 := Lib.hid cr0
  have CR1 := Lib.hid cr1
  have CK : Hid (w.cell? ⟨jk, i, none⟩ = some (.pointer (some ⟨lg, 0, none⟩)) ∧ w.frozen? ⟨jk, i, none⟩ = false) := Lib.hid ⟨ci, fi⟩
  have HIN : Hid (i ≤ nv) := Lib.hid (by omega)
  have HNV := Lib.hid hnv
  have HKN := Lib.hid hkn
  have HKV : Hid (kn = nv + 1 + 1) := Lib.hid (by omega)
  have hik : (i : Int) < (kn : Int) := by omega
  have hik1 : (i : Int) + 1 < (kn : Int) := by omega
  have hcvi : ¬ cv = i := by omega
  have hi2 : (i : Int) ≤ (i : Int) + 1 := by omega
  have hi3 : (i : Int) + 1 ≤ (cv : Int) := by omega
  have hi4 : (0 : Int) ≤ (i : Int) + 1 := by omega
  have hit : ((i : Int) + 1).toNat = i + 1 := by omega
  have hii : i + 1 - i = 1 := by omega
  have hiw : IntKind.i64.wrap ((i : Int) + 1) = (i : Int) + 1 := i64_id _ (by omega) (by omega)
  have hiw2 : IntKind.i64.wrap ((i : Int) + 2) = (i : Int) + 2 := i64_id _ (by omega) (by omega)
  have mixed : Try.prog.follows .mixedOrders = true := by kernel_rfl
  clear hon hcell hLD hRD hlb hrb hlp hrp hlk hrk hlkd hrkd hLm hRm hlg hrg hkm hcm hL hR hM hnv hkn hJP hJK hs hl hn hi hi0 hi1 hjpl fi
  go_enter Try.func85, Try.ntmps85
  go_upto_region 0 with fail
  go_quiet (fail)
  go_upto_region 1 with fail
  have hbq : Below w.heap.size w (w.drewN nq) := below_drewN (Below.refl _ _) nq
  obtain ⟨q, hq⟩ : ∃ q, q = w.drewN nq := ⟨_, rfl⟩
  rw [← hq] at hbq ⊢
  clear hq
  have HLL := Lib.hid (Nat.lt_of_lt_of_le HLL.out hbq.size)
  have HRL := Lib.hid (Nat.lt_of_lt_of_le HRL.out hbq.size)
  have CL0 := Lib.hid ((hbq.cell (p := ⟨lg, 0, none⟩) hll).trans CL0.out)
  have CL1 := Lib.hid ((hbq.cell (p := ⟨lg, 1, none⟩) hll).trans CL1.out)
  have CR0 := Lib.hid ((hbq.cell (p := ⟨rg, 0, none⟩) hrl).trans CR0.out)
  have CR1 := Lib.hid ((hbq.cell (p := ⟨rg, 1, none⟩) hrl).trans CR1.out)
  have C0 := Lib.hid ((hbq.cell (p := ⟨g, 0, none⟩) hgl).trans C0.out)
  have C1 := Lib.hid ((hbq.cell (p := ⟨g, 1, none⟩) hgl).trans C1.out)
  have CK : Hid (q.cell? ⟨jk, i, none⟩ = some (.pointer (some ⟨lg, 0, none⟩)) ∧ q.frozen? ⟨jk, i, none⟩ = false) := Lib.hid ⟨(hbq.cell (p := ⟨jk, i, none⟩) hjl).trans CK.out.1, ((Kept.of_below (fun _ => False) hbq).frozen (p := ⟨jk, i, none⟩) hjl (fun h => h)).trans CK.out.2⟩
  have HGL := Lib.hid (Nat.lt_of_lt_of_le HGL.out hbq.size)
  have HJL := Lib.hid (Nat.lt_of_lt_of_le HJL.out hbq.size)
  have HON := Lib.hid (HON.out.under hbq)
  have HKD : Hid (∀ k, k ∈ JK → NdD (Off D w0.heap.size g (some jp) (some jk)) q k) := Lib.hid (fun k hk => (HKD.out k hk).under hbq)
  have HLP := Lib.hid (HLP.out.below hbq)
  have HRP := Lib.hid (HRP.out.below hbq)
  have HLK := Lib.hid (HLK.out.below hbq)
  have HRK := Lib.hid (HRK.out.below hbq)
  have HMP := Lib.hid (HMP.out.below hbq)
  clear hbq hll hrl hgl hjl c0 c1 cl0 cl1 cr0 cr1 ci ci1
  refine Roll.region_f 35 80 Djn1 Ljn1 [(0, .pointer (some ⟨g, 0, none⟩)), (1, .int .i64 (i : Int)), (4, .pointer (some ⟨lg, 0, none⟩)), (5, .pointer (some ⟨rg, 0, none⟩))] (fun p => Below q.heap.size q p) (fun p p2 => Below p.heap.size p p2) [fun vv p => vv = .pointer (some ⟨g, 0, none⟩), fun vv p => vv = .pointer (some ⟨g, 0, none⟩), fun vv p => vv = .pointer (some ⟨g, 1, none⟩), fun vv p => vv = .slice (some ⟨jk, 0, none⟩) kn kc, fun vv p => vv = .int .i64 (i : Int), fun vv p => vv = .pointer (some ⟨lg, 0, none⟩), fun vv p => vv = .pointer (some ⟨lg, 0, none⟩), fun vv p => vv = .pointer (some ⟨lg, 0, none⟩), fun vv p => vv = .slice aL nL cL, fun vv p => vv = .pointer (some ⟨g, 0, none⟩), fun vv p => vv = .pointer (some ⟨g, 0, none⟩), fun vv p => vv = .pointer (some ⟨g, 0, none⟩), fun vv p => vv = .slice (some ⟨jp, 0, none⟩) (nv + 1) cv, fun vv p => vv = .int .i64 (i : Int), fun vv p => vv = .int .i64 (i : Int), fun vv p => vv = .int .i64 ((i : Int) + 1), fun vv p => vv = .slice (some ⟨jp, i * 2, none⟩) 1 (cv - i), fun vv p => vv = .pointer (some ⟨rg, 0, none⟩), fun vv p => vv = .pointer (some ⟨rg, 0, none⟩), fun vv p => vv = .pointer (some ⟨rg, 0, none⟩), fun vv p => vv = .slice aR nR cR, fun vv p => ∃ x, vv = .slice (some ⟨x, 0, none⟩) 3 3 ∧ x < p.heap.size ∧ p.heap[x]? = some (.cells #[.slice aL nL cL, .slice (some ⟨jp, i * 2, none⟩) 1 (cv - i), .slice aR nR cR] 26 (0, 0)), fun vv p => ∃ k a c, vv = .slice a JP.length c ∧ Own p 65 2 k (.slice a JP.length c) JP.length (pcells JP) ∧ (∀ j, k = some j → q.heap.size ≤ j), fun vv p => vv = .pointer (some ⟨lg, 0, none⟩), fun vv p => vv = .pointer (some ⟨lg, 0, none⟩), fun vv p => vv = .pointer (some ⟨lg, 1, none⟩), fun vv p => vv = .slice bL mL eL, fun vv p => vv = .pointer (some ⟨rg, 0, none⟩), fun vv p => vv = .pointer (some ⟨rg, 0, none⟩), fun vv p => vv = .pointer (some ⟨rg, 1, none⟩), fun vv p => vv = .slice bR mR eR, fun vv p => ∃ x, vv = .slice (some ⟨x, 0, none⟩) 2 2 ∧ x < p.heap.size ∧ p.heap[x]? = some (.cells #[.slice bL mL eL, .slice bR mR eR] 92 (0, 0)), fun vv p => ∃ k a c, vv = .slice a JK.length c ∧ Own p 85 1 k (.slice a JK.length c) JK.length (pnts (JK.map BT.g)) ∧ (∀ j, k = some j → q.heap.size ≤ j), fun vv p => ∃ k1 a1 c1 k2 a2 c2, vv = .agg #[.slice a1 JP.length c1, .slice a2 JK.length c2] ∧ Own p 65 2 k1 (.slice a1 JP.length c1) JP.length (pcells JP) ∧ (∀ j, k1 = some j → q.heap.size ≤ j) ∧ Own p 85 1 k2 (.slice a2 JK.length c2) JK.length (pnts (JK.map BT.g)) ∧ (∀ j, k2 = some j → q.heap.size ≤ j), fun vv p => ∃ gj, vv = .pointer (some ⟨gj, 0, none⟩) ∧ NdD (fun b => Off D w0.heap.size g (some jp) (some jk) b ∨ q.heap.size ≤ b) p (.mk gj JP JK)] (by kernel_rfl) (by kernel_rfl) rfl ⟨rfl, rfl, rfl, rfl, trivial⟩ ((Below.refl _ _).drew) ?_ ?_ ?_
  · exact ⟨fun _ _ _ _ h => h, fun _ _ _ _ h => h, fun _ _ _ _ h => h, fun _ _ _ _ h => h, fun _ _ _ _ h => h, fun _ _ _ _ h => h, fun _ _ _ _ h => h, fun _ _ _ _ h => h, fun _ _ _ _ h => h, fun _ _ _ _ h => h, fun _ _ _ _ h => h, fun _ _ _ _ h => h, fun _ _ _ _ h => h, fun _ _ _ _ h => h, fun _ _ _ _ h => h, fun _ _ _ _ h => h, fun _ _ _ _ h => h, fun _ _ _ _ h => h, fun _ _ _ _ h => h, fun _ _ _ _ h => h, fun _ _ _ _ h => h, fun _ _ _ hs h => by obtain ⟨x, e1, e2, e3⟩ := h; exact ⟨x, e1, Nat.lt_of_lt_of_le e2 hs.size, (hs.block x e2).trans e3⟩, fun _ _ _ hs h => by obtain ⟨k, a, c, e1, e2, e3⟩ := h; exact ⟨k, a, c, e1, e2.kept (Kept.of_below (fun _ => False) hs) (fun _ _ h => h), e3⟩, fun _ _ _ _ h => h, fun _ _ _ _ h => h, fun _ _ _ _ h => h, fun _ _ _ _ h => h, fun _ _ _ _ h => h, fun _ _ _ _ h => h, fun _ _ _ _ h => h, fun _ _ _ _ h => h, fun _ _ _ hs h => by obtain ⟨x, e1, e2, e3⟩ := h; exact ⟨x, e1, Nat.lt_of_lt_of_le e2 hs.size, (hs.block x e2).trans e3⟩, fun _ _ _ hs h => by obtain ⟨k, a, c, e1, e2, e3⟩ := h; exact ⟨k, a, c, e1, e2.kept (Kept.of_below (fun _ => False) hs) (fun _ _ h => h), e3⟩, fun _ _ _ hs h => by obtain ⟨k1, a1, c1, k2, a2, c2, e1, e2, e3, e4, e5⟩ := h; exact ⟨k1, a1, c1, k2, a2, c2, e1, e2.kept (Kept.of_below (fun _ => False) hs) (fun _ _ h => h), e3, e4.kept (Kept.of_below (fun _ => False) hs) (fun _ _ h => h), e5⟩, fun _ _ _ hs h => by obtain ⟨c, e1, e2⟩ := h; exact ⟨c, e1, e2.under hs⟩, trivial⟩
  · intro b0 hN hlv
    refine ⟨?_, ?_, ?_, ?_, ?_, ?_, ?_, ?_, ?_, ?_, ?_, ?_, ?_, ?_, ?_, ?_, ?_, ?_, ?_, ?_, ?_, ?_, ?_, ?_, ?_, ?_, ?_, ?_, ?_, ?_, ?_, ?_, ?_, ?_, ?_, trivial⟩
    · intro vs p hI hp
      have e0 : (Roll.putD Djn1 vs [] b0).eval (.tmp 0) = .pointer (some ⟨g, 0, none⟩) := (Roll.eval_old rfl).trans (hlv.at 0 (0, .pointer (some ⟨g, 0, none⟩)) rfl)
      clear hp hlv hN
      unfold Roll.Goes
      simp only [Ljn1, List.getD_cons_zero, List.getD_cons_succ]
      generalize Roll.putD Djn1 vs [] b0 = a1 at *
      refine Roll.goes_val (w' := p) (.pointer (some ⟨g, 0, none⟩)) rfl ?_ ⟨hI, Below.refl _ _, rfl⟩
      (have ec : ∀ x, a1.eval (.const x) = x := fun _ => rfl); (have ef : ∀ x, a1.eval (.func x) = .func (.func x) #[] #[] := fun _ => rfl); generalize a1.eval = ρ at *
      skip
      go_simp <;> (intros; first | (exfalso; omega) | rfl)
    · intro vs p hI hp
      have h0 : (vs 0) = .pointer (some ⟨g, 0, none⟩) := hp 0 (by simp [Ljn1])
      have e21 : (Roll.putD Djn1 vs [0] b0).eval (.tmp 21) = .pointer (some ⟨g, 0, none⟩) := (Roll.eval_new 0 rfl (by decide) (by decide) (by omega)).trans h0
      clear hp hlv hN
      unfold Roll.Goes
      simp only [Ljn1, List.getD_cons_zero, List.getD_cons_succ]
      generalize Roll.putD Djn1 vs [0] b0 = a1 at *
      refine Roll.goes_val (w' := p) (.pointer (some ⟨g, 0, none⟩)) rfl ?_ ⟨hI, Below.refl _ _, rfl⟩
      (have ec : ∀ x, a1.eval (.const x) = x := fun _ => rfl); (have ef : ∀ x, a1.eval (.func x) = .func (.func x) #[] #[] := fun _ => rfl); generalize a1.eval = ρ at *
      clear h0
      go_simp <;> (intros; first | (exfalso; omega) | rfl)
    · intro vs p hI hp
      have h1 : (vs 1) = .pointer (some ⟨g, 0, none⟩) := hp 1 (by simp [Ljn1])
      have e22 : (Roll.putD Djn1 vs [1] b0).eval (.tmp 22) = .pointer (some ⟨g, 0, none⟩) := (Roll.eval_new 1 rfl (by decide) (by decide) (by omega)).trans h1
      clear hp hlv hN
      unfold Roll.Goes
      simp only [Ljn1, List.getD_cons_zero, List.getD_cons_succ]
      generalize Roll.putD Djn1 vs [1] b0 = a1 at *
      refine Roll.goes_val (w' := p) (.pointer (some ⟨g, 1, none⟩)) rfl ?_ ⟨hI, Below.refl _ _, rfl⟩
      (have ec : ∀ x, a1.eval (.const x) = x := fun _ => rfl); (have ef : ∀ x, a1.eval (.func x) = .func (.func x) #[] #[] := fun _ => rfl); generalize a1.eval = ρ at *
      clear h1
      go_simp <;> (intros; first | (exfalso; omega) | rfl)
    · intro vs p hI hp
      have h2 : (vs 2) = .pointer (some ⟨g, 1, none⟩) := hp 2 (by simp [Ljn1])
      have e23 : (Roll.putD Djn1 vs [2] b0).eval (.tmp 23) = .pointer (some ⟨g, 1, none⟩) := (Roll.eval_new 2 rfl (by decide) (by decide) (by omega)).trans h2
      clear hp hlv hN
      unfold Roll.Goes
      simp only [Ljn1, List.getD_cons_zero, List.getD_cons_succ]
      generalize Roll.putD Djn1 vs [2] b0 = a1 at *
      have cf : p.cell? ⟨g, 1, none⟩ = some (.slice (some ⟨jk, 0, none⟩) kn kc) := (hI.cell (p := ⟨g, 1, none⟩) HGL.out).trans C1.out
      refine Roll.goes_val (w' := p) (.slice (some ⟨jk, 0, none⟩) kn kc) rfl ?_ ⟨hI, Below.refl _ _, rfl⟩
      (have ec : ∀ x, a1.eval (.const x) = x := fun _ => rfl); (have ef : ∀ x, a1.eval (.func x) = .func (.func x) #[] #[] := fun _ => rfl); generalize a1.eval = ρ at *
      clear h2
      go_simp <;> (intros; first | (exfalso; omega) | rfl)
    · intro vs p hI hp
      have e1 : (Roll.putD Djn1 vs [] b0).eval (.tmp 1) = .int .i64 (i : Int) := (Roll.eval_old rfl).trans (hlv.at 1 (1, .int .i64 (i : Int)) rfl)
      clear hp hlv hN
      unfold Roll.Goes
      simp only [Ljn1, List.getD_cons_zero, List.getD_cons_succ]
      generalize Roll.putD Djn1 vs [] b0 = a1 at *
      refine Roll.goes_val (w' := p) (.int .i64 (i : Int)) rfl ?_ ⟨hI, Below.refl _ _, rfl⟩
      (have ec : ∀ x, a1.eval (.const x) = x := fun _ => rfl); (have ef : ∀ x, a1.eval (.func x) = .func (.func x) #[] #[] := fun _ => rfl); generalize a1.eval = ρ at *
      skip
      go_simp <;> (intros; first | (exfalso; omega) | rfl)
    · intro vs p hI hp
      have e4 : (Roll.putD Djn1 vs [] b0).eval (.tmp 4) = .pointer (some ⟨lg, 0, none⟩) := (Roll.eval_old rfl).trans (hlv.at 2 (4, .pointer (some ⟨lg, 0, none⟩)) rfl)
      clear hp hlv hN
      unfold Roll.Goes
      simp only [Ljn1, List.getD_cons_zero, List.getD_cons_succ]
      generalize Roll.putD Djn1 vs [] b0 = a1 at *
      refine Roll.goes_val (w' := p) (.pointer (some ⟨lg, 0, none⟩)) rfl ?_ ⟨hI, Below.refl _ _, rfl⟩
      (have ec : ∀ x, a1.eval (.const x) = x := fun _ => rfl); (have ef : ∀ x, a1.eval (.func x) = .func (.func x) #[] #[] := fun _ => rfl); generalize a1.eval = ρ at *
      skip
      go_simp <;> (intros; first | (exfalso; omega) | rfl)
    · intro vs p hI hp
      have h5 : (vs 5) = .pointer (some ⟨lg, 0, none⟩) := hp 5 (by simp [Ljn1])
      have e26 : (Roll.putD Djn1 vs [5] b0).eval (.tmp 26) = .pointer (some ⟨lg, 0, none⟩) := (Roll.eval_new 5 rfl (by decide) (by decide) (by omega)).trans h5
      clear hp hlv hN
      unfold Roll.Goes
      simp only [Ljn1, List.getD_cons_zero, List.getD_cons_succ]
      generalize Roll.putD Djn1 vs [5] b0 = a1 at *
      refine Roll.goes_val (w' := p) (.pointer (some ⟨lg, 0, none⟩)) rfl ?_ ⟨hI, Below.refl _ _, rfl⟩
      (have ec : ∀ x, a1.eval (.const x) = x := fun _ => rfl); (have ef : ∀ x, a1.eval (.func x) = .func (.func x) #[] #[] := fun _ => rfl); generalize a1.eval = ρ at *
      clear h5
      go_simp <;> (intros; first | (exfalso; omega) | rfl)
    · intro vs p hI hp
      have h6 : (vs 6) = .pointer (some ⟨lg, 0, none⟩) := hp 6 (by simp [Ljn1])
      have e27 : (Roll.putD Djn1 vs [6] b0).eval (.tmp 27) = .pointer (some ⟨lg, 0, none⟩) := (Roll.eval_new 6 rfl (by decide) (by decide) (by omega)).trans h6
      clear hp hlv hN
      unfold Roll.Goes
      simp only [Ljn1, List.getD_cons_zero, List.getD_cons_succ]
      generalize Roll.putD Djn1 vs [6] b0 = a1 at *
      refine Roll.goes_val (w' := p) (.pointer (some ⟨lg, 0, none⟩)) rfl ?_ ⟨hI, Below.refl _ _, rfl⟩
      (have ec : ∀ x, a1.eval (.const x) = x := fun _ => rfl); (have ef : ∀ x, a1.eval (.func x) = .func (.func x) #[] #[] := fun _ => rfl); generalize a1.eval = ρ at *
      clear h6
      go_simp <;> (intros; first | (exfalso; omega) | rfl)
    · intro vs p hI hp
      have h7 : (vs 7) = .pointer (some ⟨lg, 0, none⟩) := hp 7 (by simp [Ljn1])
      have e28 : (Roll.putD Djn1 vs [7] b0).eval (.tmp 28) = .pointer (some ⟨lg, 0, none⟩) := (Roll.eval_new 7 rfl (by decide) (by decide) (by omega)).trans h7
      clear hp hlv hN
      unfold Roll.Goes
      simp only [Ljn1, List.getD_cons_zero, List.getD_cons_succ]
      generalize Roll.putD Djn1 vs [7] b0 = a1 at *
      have cf : p.cell? ⟨lg, 0, none⟩ = some (.slice aL nL cL) := (hI.cell (p := ⟨lg, 0, none⟩) HLL.out).trans CL0.out
      refine Roll.goes_val (w' := p) (.slice aL nL cL) rfl ?_ ⟨hI, Below.refl _ _, rfl⟩
      (have ec : ∀ x, a1.eval (.const x) = x := fun _ => rfl); (have ef : ∀ x, a1.eval (.func x) = .func (.func x) #[] #[] := fun _ => rfl); generalize a1.eval = ρ at *
      clear h7
      go_simp <;> (intros; first | (exfalso; omega) | rfl)
    · intro vs p hI hp
      have e0 : (Roll.putD Djn1 vs [] b0).eval (.tmp 0) = .pointer (some ⟨g, 0, none⟩) := (Roll.eval_old rfl).trans (hlv.at 0 (0, .pointer (some ⟨g, 0, none⟩)) rfl)
      clear hp hlv hN
      unfold Roll.Goes
      simp only [Ljn1, List.getD_cons_zero, List.getD_cons_succ]
      generalize Roll.putD Djn1 vs [] b0 = a1 at *
      refine Roll.goes_val (w' := p) (.pointer (some ⟨g, 0, none⟩)) rfl ?_ ⟨hI, Below.refl _ _, rfl⟩
      (have ec : ∀ x, a1.eval (.const x) = x := fun _ => rfl); (have ef : ∀ x, a1.eval (.func x) = .func (.func x) #[] #[] := fun _ => rfl); generalize a1.eval = ρ at *
      skip
      go_simp <;> (intros; first | (exfalso; omega) | rfl)
    · intro vs p hI hp
      have h9 : (vs 9) = .pointer (some ⟨g, 0, none⟩) := hp 9 (by simp [Ljn1])
      have e30 : (Roll.putD Djn1 vs [9] b0).eval (.tmp 30) = .pointer (some ⟨g, 0, none⟩) := (Roll.eval_new 9 rfl (by decide) (by decide) (by omega)).trans h9
      clear hp hlv hN
      unfold Roll.Goes
      simp only [Ljn1, List.getD_cons_zero, List.getD_cons_succ]
      generalize Roll.putD Djn1 vs [9] b0 = a1 at *
      refine Roll.goes_val (w' := p) (.pointer (some ⟨g, 0, none⟩)) rfl ?_ ⟨hI, Below.refl _ _, rfl⟩
      (have ec : ∀ x, a1.eval (.const x) = x := fun _ => rfl); (have ef : ∀ x, a1.eval (.func x) = .func (.func x) #[] #[] := fun _ => rfl); generalize a1.eval = ρ at *
      clear h9
      go_simp <;> (intros; first | (exfalso; omega) | rfl)
    · intro vs p hI hp
      have h10 : (vs 10) = .pointer (some ⟨g, 0, none⟩) := hp 10 (by simp [Ljn1])
      have e31 : (Roll.putD Djn1 vs [10] b0).eval (.tmp 31) = .pointer (some ⟨g, 0, none⟩) := (Roll.eval_new 10 rfl (by decide) (by decide) (by omega)).trans h10
      clear hp hlv hN
      unfold Roll.Goes
      simp only [Ljn1, List.getD_cons_zero, List.getD_cons_succ]
      generalize Roll.putD Djn1 vs [10] b0 = a1 at *
      refine Roll.goes_val (w' := p) (.pointer (some ⟨g, 0, none⟩)) rfl ?_ ⟨hI, Below.refl _ _, rfl⟩
      (have ec : ∀ x, a1.eval (.const x) = x := fun _ => rfl); (have ef : ∀ x, a1.eval (.func x) = .func (.func x) #[] #[] := fun _ => rfl); generalize a1.eval = ρ at *
      clear h10
      go_simp <;> (intros; first | (exfalso; omega) | rfl)
    · intro vs p hI hp
      have h11 : (vs 11) = .pointer (some ⟨g, 0, none⟩) := hp 11 (by simp [Ljn1])
      have e32 : (Roll.putD Djn1 vs [11] b0).eval (.tmp 32) = .pointer (some ⟨g, 0, none⟩) := (Roll.eval_new 11 rfl (by decide) (by decide) (by omega)).trans h11
      clear hp hlv hN
      unfold Roll.Goes
      simp only [Ljn1, List.getD_cons_zero, List.getD_cons_succ]
      generalize Roll.putD Djn1 vs [11] b0 = a1 at *
      have cf : p.cell? ⟨g, 0, none⟩ = some (.slice (some ⟨jp, 0, none⟩) (nv + 1) cv) := (hI.cell (p := ⟨g, 0, none⟩) HGL.out).trans C0.out
      refine Roll.goes_val (w' := p) (.slice (some ⟨jp, 0, none⟩) (nv + 1) cv) rfl ?_ ⟨hI, Below.refl _ _, rfl⟩
      (have ec : ∀ x, a1.eval (.const x) = x := fun _ => rfl); (have ef : ∀ x, a1.eval (.func x) = .func (.func x) #[] #[] := fun _ => rfl); generalize a1.eval = ρ at *
      clear h11
      go_simp <;> (intros; first | (exfalso; omega) | rfl)
    · intro vs p hI hp
      have e1 : (Roll.putD Djn1 vs [] b0).eval (.tmp 1) = .int .i64 (i : Int) := (Roll.eval_old rfl).trans (hlv.at 1 (1, .int .i64 (i : Int)) rfl)
      clear hp hlv hN
      unfold Roll.Goes
      simp only [Ljn1, List.getD_cons_zero, List.getD_cons_succ]
      generalize Roll.putD Djn1 vs [] b0 = a1 at *
      refine Roll.goes_val (w' := p) (.int .i64 (i : Int)) rfl ?_ ⟨hI, Below.refl _ _, rfl⟩
      (have ec : ∀ x, a1.eval (.const x) = x := fun _ => rfl); (have ef : ∀ x, a1.eval (.func x) = .func (.func x) #[] #[] := fun _ => rfl); generalize a1.eval = ρ at *
      skip
      go_simp <;> (intros; first | (exfalso; omega) | rfl)
    · intro vs p hI hp
      have e1 : (Roll.putD Djn1 vs [] b0).eval (.tmp 1) = .int .i64 (i : Int) := (Roll.eval_old rfl).trans (hlv.at 1 (1, .int .i64 (i : Int)) rfl)
      clear hp hlv hN
      unfold Roll.Goes
      simp only [Ljn1, List.getD_cons_zero, List.getD_cons_succ]
      generalize Roll.putD Djn1 vs [] b0 = a1 at *
      refine Roll.goes_val (w' := p) (.int .i64 (i : Int)) rfl ?_ ⟨hI, Below.refl _ _, rfl⟩
      (have ec : ∀ x, a1.eval (.const x) = x := fun _ => rfl); (have ef : ∀ x, a1.eval (.func x) = .func (.func x) #[] #[] := fun _ => rfl); generalize a1.eval = ρ at *
      skip
      go_simp <;> (intros; first | (exfalso; omega) | rfl)
    · intro vs p hI hp
      have h14 : (vs 14) = .int .i64 (i : Int) := hp 14 (by simp [Ljn1])
      have e35 : (Roll.putD Djn1 vs [14] b0).eval (.tmp 35) = .int .i64 (i : Int) := (Roll.eval_new 14 rfl (by decide) (by decide) (by omega)).trans h14
      clear hp hlv hN
      unfold Roll.Goes
      simp only [Ljn1, List.getD_cons_zero, List.getD_cons_succ]
      generalize Roll.putD Djn1 vs [14] b0 = a1 at *
      refine Roll.goes_val (w' := p) (.int .i64 ((i : Int) + 1)) rfl ?_ ⟨hI, Below.refl _ _, rfl⟩
      (have ec : ∀ x, a1.eval (.const x) = x := fun _ => rfl); (have ef : ∀ x, a1.eval (.func x) = .func (.func x) #[] #[] := fun _ => rfl); generalize a1.eval = ρ at *
      clear h14
      go_simp <;> (intros; first | (exfalso; omega) | rfl)
    · intro vs p hI hp
      have h12 : (vs 12) = .slice (some ⟨jp, 0, none⟩) (nv + 1) cv := hp 12 (by simp [Ljn1])
      have h13 : (vs 13) = .int .i64 (i : Int) := hp 13 (by simp [Ljn1])
      have h15 : (vs 15) = .int .i64 ((i : Int) + 1) := hp 15 (by simp [Ljn1])
      have e33 : (Roll.putD Djn1 vs [12, 13, 15] b0).eval (.tmp 33) = .slice (some ⟨jp, 0, none⟩) (nv + 1) cv := (Roll.eval_new 12 rfl (by decide) (by decide) (by omega)).trans h12
      have e34 : (Roll.putD Djn1 vs [12, 13, 15] b0).eval (.tmp 34) = .int .i64 (i : Int) := (Roll.eval_new 13 rfl (by decide) (by decide) (by omega)).trans h13
      have e36 : (Roll.putD Djn1 vs [12, 13, 15] b0).eval (.tmp 36) = .int .i64 ((i : Int) + 1) := (Roll.eval_new 15 rfl (by decide) (by decide) (by omega)).trans h15
      clear hp hlv hN
      unfold Roll.Goes
      simp only [Ljn1, List.getD_cons_zero, List.getD_cons_succ]
      generalize Roll.putD Djn1 vs [12, 13, 15] b0 = a1 at *
      refine Roll.goes_val (w' := p) (.slice (some ⟨jp, i * 2, none⟩) 1 (cv - i)) rfl ?_ ⟨hI, Below.refl _ _, rfl⟩
      (have ec : ∀ x, a1.eval (.const x) = x := fun _ => rfl); (have ef : ∀ x, a1.eval (.func x) = .func (.func x) #[] #[] := fun _ => rfl); generalize a1.eval = ρ at *
      clear h12 h13 h15
      go_simp <;> (intros; first | (exfalso; omega) | rfl)
    · intro vs p hI hp
      have e5 : (Roll.putD Djn1 vs [] b0).eval (.tmp 5) = .pointer (some ⟨rg, 0, none⟩) := (Roll.eval_old rfl).trans (hlv.at 3 (5, .pointer (some ⟨rg, 0, none⟩)) rfl)
      clear hp hlv hN
      unfold Roll.Goes
      simp only [Ljn1, List.getD_cons_zero, List.getD_cons_succ]
      generalize Roll.putD Djn1 vs [] b0 = a1 at *
      refine Roll.goes_val (w' := p) (.pointer (some ⟨rg, 0, none⟩)) rfl ?_ ⟨hI, Below.refl _ _, rfl⟩
      (have ec : ∀ x, a1.eval (.const x) = x := fun _ => rfl); (have ef : ∀ x, a1.eval (.func x) = .func (.func x) #[] #[] := fun _ => rfl); generalize a1.eval = ρ at *
      skip
      go_simp <;> (intros; first | (exfalso; omega) | rfl)
    · intro vs p hI hp
      have h17 : (vs 17) = .pointer (some ⟨rg, 0, none⟩) := hp 17 (by simp [Ljn1])
      have e38 : (Roll.putD Djn1 vs [17] b0).eval (.tmp 38) = .pointer (some ⟨rg, 0, none⟩) := (Roll.eval_new 17 rfl (by decide) (by decide) (by omega)).trans h17
      clear hp hlv hN
      unfold Roll.Goes
      simp only [Ljn1, List.getD_cons_zero, List.getD_cons_succ]
      generalize Roll.putD Djn1 vs [17] b0 = a1 at *
      refine Roll.goes_val (w' := p) (.pointer (some ⟨rg, 0, none⟩)) rfl ?_ ⟨hI, Below.refl _ _, rfl⟩
      (have ec : ∀ x, a1.eval (.const x) = x := fun _ => rfl); (have ef : ∀ x, a1.eval (.func x) = .func (.func x) #[] #[] := fun _ => rfl); generalize a1.eval = ρ at *
      clear h17
      go_simp <;> (intros; first | (exfalso; omega) | rfl)
    · intro vs p hI hp
      have h18 : (vs 18) = .pointer (some ⟨rg, 0, none⟩) := hp 18 (by simp [Ljn1])
      have e39 : (Roll.putD Djn1 vs [18] b0).eval (.tmp 39) = .pointer (some ⟨rg, 0, none⟩) := (Roll.eval_new 18 rfl (by decide) (by decide) (by omega)).trans h18
      clear hp hlv hN
      unfold Roll.Goes
      simp only [Ljn1, List.getD_cons_zero, List.getD_cons_succ]
      generalize Roll.putD Djn1 vs [18] b0 = a1 at *
      refine Roll.goes_val (w' := p) (.pointer (some ⟨rg, 0, none⟩)) rfl ?_ ⟨hI, Below.refl _ _, rfl⟩
      (have ec : ∀ x, a1.eval (.const x) = x := fun _ => rfl); (have ef : ∀ x, a1.eval (.func x) = .func (.func x) #[] #[] := fun _ => rfl); generalize a1.eval = ρ at *
      clear h18
      go_simp <;> (intros; first | (exfalso; omega) | rfl)
    · intro vs p hI hp
      have h19 : (vs 19) = .pointer (some ⟨rg, 0, none⟩) := hp 19 (by simp [Ljn1])
      have e40 : (Roll.putD Djn1 vs [19] b0).eval (.tmp 40) = .pointer (some ⟨rg, 0, none⟩) := (Roll.eval_new 19 rfl (by decide) (by decide) (by omega)).trans h19
      clear hp hlv hN
      unfold Roll.Goes
      simp only [Ljn1, List.getD_cons_zero, List.getD_cons_succ]
      generalize Roll.putD Djn1 vs [19] b0 = a1 at *
      have cf : p.cell? ⟨rg, 0, none⟩ = some (.slice aR nR cR) := (hI.cell (p := ⟨rg, 0, none⟩) HRL.out).trans CR0.out
      refine Roll.goes_val (w' := p) (.slice aR nR cR) rfl ?_ ⟨hI, Below.refl _ _, rfl⟩
      (have ec : ∀ x, a1.eval (.const x) = x := fun _ => rfl); (have ef : ∀ x, a1.eval (.func x) = .func (.func x) #[] #[] := fun _ => rfl); generalize a1.eval = ρ at *
      clear h19
      go_simp <;> (intros; first | (exfalso; omega) | rfl)
    · intro vs p hI hp
      have h8 : (vs 8) = .slice aL nL cL := hp 8 (by simp [Ljn1])
      have h16 : (vs 16) = .slice (some ⟨jp, i * 2, none⟩) 1 (cv - i) := hp 16 (by simp [Ljn1])
      have h20 : (vs 20) = .slice aR nR cR := hp 20 (by simp [Ljn1])
      have e29 : (Roll.putD Djn1 vs [8, 16, 20] b0).eval (.tmp 29) = .slice aL nL cL := (Roll.eval_new 8 rfl (by decide) (by decide) (by omega)).trans h8
      have e37 : (Roll.putD Djn1 vs [8, 16, 20] b0).eval (.tmp 37) = .slice (some ⟨jp, i * 2, none⟩) 1 (cv - i) := (Roll.eval_new 16 rfl (by decide) (by decide) (by omega)).trans h16
      have e41 : (Roll.putD Djn1 vs [8, 16, 20] b0).eval (.tmp 41) = .slice aR nR cR := (Roll.eval_new 20 rfl (by decide) (by decide) (by omega)).trans h20
      clear hp hlv hN
      unfold Roll.Goes
      simp only [Ljn1, List.getD_cons_zero, List.getD_cons_succ]
      generalize Roll.putD Djn1 vs [8, 16, 20] b0 = a1 at *
      have hal : Below p.heap.size p (p.alloc (.cells #[.slice aL nL cL, .slice (some ⟨jp, i * 2, none⟩) 1 (cv - i), .slice aR nR cR] 26)) := (Below.refl _ _).alloc (Nat.le_refl _) _
      refine Roll.goes_val (w' := p.alloc (.cells #[.slice aL nL cL, .slice (some ⟨jp, i * 2, none⟩) 1 (cv - i), .slice aR nR cR] 26)) (.slice (some ⟨p.heap.size, 0, none⟩) 3 3) rfl (by have ec : ∀ x, a1.eval (.const x) = x := fun _ => rfl; have ef : ∀ x, a1.eval (.func x) = .func (.func x) #[] #[] := fun _ => rfl; have hbs := run_bs3P; generalize a1.eval = ρ at *; go_simp <;> (intros; first | (exfalso; omega) | rfl)) ⟨hI.trans (hal.mono hI.size), hal, p.heap.size, rfl, by simp, heap_new rfl⟩
    · intro vs p hI hp
      have h21 : ∃ x, (vs 21) = .slice (some ⟨x, 0, none⟩) 3 3 ∧ x < p.heap.size ∧ p.heap[x]? = some (.cells #[.slice aL nL cL, .slice (some ⟨jp, i * 2, none⟩) 1 (cv - i), .slice aR nR cR] 26 (0, 0)) := hp 21 (by simp [Ljn1])
      have e42 : (Roll.putD Djn1 vs [21] b0).eval (.tmp 42) = vs 21 := (Roll.eval_new 21 rfl (by decide) (by decide) (by omega))
      clear hp hlv hN
      unfold Roll.Goes
      simp only [Ljn1, List.getD_cons_zero, List.getD_cons_succ]
      generalize Roll.putD Djn1 vs [21] b0 = a1 at *
      obtain ⟨x, hvx, hxl, hhx⟩ := h21
      rw [hvx] at e42
      refine Roll.goes_call 90 #[.slice (some ⟨x, 0, none⟩) 3 3] p rfl (by have ec : ∀ x, a1.eval (.const x) = x := fun _ => rfl; have ef : ∀ x, a1.eval (.func x) = .func (.func x) #[] #[] := fun _ => rfl; generalize a1.eval = ρ at *; go_simp) ?_
      refine (concatP_any [⟨aL, nL, cL, pcells L.ps⟩, ⟨some ⟨jp, i * 2, none⟩, 1, cv - i, M.cells⟩, ⟨aR, nR, cR, pcells R.ps⟩] x p ⟨fun j hj => ?_, fun y hy => ?_⟩ hxl (by simp) (by have := HSZ.out; simp [pceN]; omega)).mono ?_
      · have : j = 0 ∨ j = 1 ∨ j = 2 := by simp at hj; omega
        rcases this with rfl | rfl | rfl <;> rw [cell_of_row p x _ _ _ _ hhx] <;> rfl
      · have hy : y = ⟨aL, nL, cL, pcells L.ps⟩ ∨ y = ⟨some ⟨jp, i * 2, none⟩, 1, cv - i, M.cells⟩ ∨ y = ⟨aR, nR, cR, pcells R.ps⟩ := by simpa using hy
        rcases hy with rfl | rfl | rfl
        · exact ⟨(HLP.out.below hI).2, pcells_one L.ps⟩
        · exact ⟨by have := (HMP.out.below hI).2; simpa [pcells] using this, fun u hu => by simp [KV.cells] at hu; rcases hu with rfl | rfl <;> rfl⟩
        · exact ⟨(HRP.out.below hI).2, pcells_one R.ps⟩
      · rintro y p2 ⟨v, rfl, k, ho, hnw, hb⟩
        have e1 : pceN [⟨aL, nL, cL, pcells L.ps⟩, ⟨some ⟨jp, i * 2, none⟩, 1, cv - i, M.cells⟩, ⟨aR, nR, cR, pcells R.ps⟩] = JP.length := by rw [HJP.out]; have := HSZ.out; simp [pceN]; omega
        have e2 : pceL [⟨aL, nL, cL, pcells L.ps⟩, ⟨some ⟨jp, i * 2, none⟩, 1, cv - i, M.cells⟩, ⟨aR, nR, cR, pcells R.ps⟩] = pcells JP := by rw [HJP.out, pcells_app, pcells_cons]; simp [pceL]
        rw [e1, e2] at ho
        obtain ⟨a, c, rfl, -⟩ := id ho.sl
        exact ⟨_, rfl, hI.trans (hb.mono hI.size), hb, k, a, c, rfl, ho, fun j hj => Nat.le_trans hI.size (hnw j hj)⟩
    · intro vs p hI hp
      have e4 : (Roll.putD Djn1 vs [] b0).eval (.tmp 4) = .pointer (some ⟨lg, 0, none⟩) := (Roll.eval_old rfl).trans (hlv.at 2 (4, .pointer (some ⟨lg, 0, none⟩)) rfl)
      clear hp hlv hN
      unfold Roll.Goes
      simp only [Ljn1, List.getD_cons_zero, List.getD_cons_succ]
      generalize Roll.putD Djn1 vs [] b0 = a1 at *
      refine Roll.goes_val (w' := p) (.pointer (some ⟨lg, 0, none⟩)) rfl ?_ ⟨hI, Below.refl _ _, rfl⟩
      (have ec : ∀ x, a1.eval (.const x) = x := fun _ => rfl); (have ef : ∀ x, a1.eval (.func x) = .func (.func x) #[] #[] := fun _ => rfl); generalize a1.eval = ρ at *
      skip
      go_simp <;> (intros; first | (exfalso; omega) | rfl)
    · intro vs p hI hp
      have h23 : (vs 23) = .pointer (some ⟨lg, 0, none⟩) := hp 23 (by simp [Ljn1])
      have e44 : (Roll.putD Djn1 vs [23] b0).eval (.tmp 44) = .pointer (some ⟨lg, 0, none⟩) := (Roll.eval_new 23 rfl (by decide) (by decide) (by omega)).trans h23
      clear hp hlv hN
      unfold Roll.Goes
      simp only [Ljn1, List.getD_cons_zero, List.getD_cons_succ]
      generalize Roll.putD Djn1 vs [23] b0 = a1 at *
      refine Roll.goes_val (w' := p) (.pointer (some ⟨lg, 0, none⟩)) rfl ?_ ⟨hI, Below.refl _ _, rfl⟩
      (have ec : ∀ x, a1.eval (.const x) = x := fun _ => rfl); (have ef : ∀ x, a1.eval (.func x) = .func (.func x) #[] #[] := fun _ => rfl); generalize a1.eval = ρ at *
      clear h23
      go_simp <;> (intros; first | (exfalso; omega) | rfl)
    · intro vs p hI hp
      have h24 : (vs 24) = .pointer (some ⟨lg, 0, none⟩) := hp 24 (by simp [Ljn1])
      have e45 : (Roll.putD Djn1 vs [24] b0).eval (.tmp 45) = .pointer (some ⟨lg, 0, none⟩) := (Roll.eval_new 24 rfl (by decide) (by decide) (by omega)).trans h24
      clear hp hlv hN
      unfold Roll.Goes
      simp only [Ljn1, List.getD_cons_zero, List.getD_cons_succ]
      generalize Roll.putD Djn1 vs [24] b0 = a1 at *
      refine Roll.goes_val (w' := p) (.pointer (some ⟨lg, 1, none⟩)) rfl ?_ ⟨hI, Below.refl _ _, rfl⟩
      (have ec : ∀ x, a1.eval (.const x) = x := fun _ => rfl); (have ef : ∀ x, a1.eval (.func x) = .func (.func x) #[] #[] := fun _ => rfl); generalize a1.eval = ρ at *
      clear h24
      go_simp <;> (intros; first | (exfalso; omega) | rfl)
    · intro vs p hI hp
      have h25 : (vs 25) = .pointer (some ⟨lg, 1, none⟩) := hp 25 (by simp [Ljn1])
      have e46 : (Roll.putD Djn1 vs [25] b0).eval (.tmp 46) = .pointer (some ⟨lg, 1, none⟩) := (Roll.eval_new 25 rfl (by decide) (by decide) (by omega)).trans h25
      clear hp hlv hN
      unfold Roll.Goes
      simp only [Ljn1, List.getD_cons_zero, List.getD_cons_succ]
      generalize Roll.putD Djn1 vs [25] b0 = a1 at *
      have cf : p.cell? ⟨lg, 1, none⟩ = some (.slice bL mL eL) := (hI.cell (p := ⟨lg, 1, none⟩) HLL.out).trans CL1.out
      refine Roll.goes_val (w' := p) (.slice bL mL eL) rfl ?_ ⟨hI, Below.refl _ _, rfl⟩
      (have ec : ∀ x, a1.eval (.const x) = x := fun _ => rfl); (have ef : ∀ x, a1.eval (.func x) = .func (.func x) #[] #[] := fun _ => rfl); generalize a1.eval = ρ at *
      clear h25
      go_simp <;> (intros; first | (exfalso; omega) | rfl)
    · intro vs p hI hp
      have e5 : (Roll.putD Djn1 vs [] b0).eval (.tmp 5) = .pointer (some ⟨rg, 0, none⟩) := (Roll.eval_old rfl).trans (hlv.at 3 (5, .pointer (some ⟨rg, 0, none⟩)) rfl)
      clear hp hlv hN
      unfold Roll.Goes
      simp only [Ljn1, List.getD_cons_zero, List.getD_cons_succ]
      generalize Roll.putD Djn1 vs [] b0 = a1 at *
      refine Roll.goes_val (w' := p) (.pointer (some ⟨rg, 0, none⟩)) rfl ?_ ⟨hI, Below.refl _ _, rfl⟩
      (have ec : ∀ x, a1.eval (.const x) = x := fun _ => rfl); (have ef : ∀ x, a1.eval (.func x) = .func (.func x) #[] #[] := fun _ => rfl); generalize a1.eval = ρ at *
      skip
      go_simp <;> (intros; first | (exfalso; omega) | rfl)
    · intro vs p hI hp
      have h27 : (vs 27) = .pointer (some ⟨rg, 0, none⟩) := hp 27 (by simp [Ljn1])
      have e48 : (Roll.putD Djn1 vs [27] b0).eval (.tmp 48) = .pointer (some ⟨rg, 0, none⟩) := (Roll.eval_new 27 rfl (by decide) (by decide) (by omega)).trans h27
      clear hp hlv hN
      unfold Roll.Goes
      simp only [Ljn1, List.getD_cons_zero, List.getD_cons_succ]
      generalize Roll.putD Djn1 vs [27] b0 = a1 at *
      refine Roll.goes_val (w' := p) (.pointer (some ⟨rg, 0, none⟩)) rfl ?_ ⟨hI, Below.refl _ _, rfl⟩
      (have ec : ∀ x, a1.eval (.const x) = x := fun _ => rfl); (have ef : ∀ x, a1.eval (.func x) = .func (.func x) #[] #[] := fun _ => rfl); generalize a1.eval = ρ at *
      clear h27
      go_simp <;> (intros; first | (exfalso; omega) | rfl)
    · intro vs p hI hp
      have h28 : (vs 28) = .pointer (some ⟨rg, 0, none⟩) := hp 28 (by simp [Ljn1])
      have e49 : (Roll.putD Djn1 vs [28] b0).eval (.tmp 49) = .pointer (some ⟨rg, 0, none⟩) := (Roll.eval_new 28 rfl (by decide) (by decide) (by omega)).trans h28
      clear hp hlv hN
      unfold Roll.Goes
      simp only [Ljn1, List.getD_cons_zero, List.getD_cons_succ]
      generalize Roll.putD Djn1 vs [28] b0 = a1 at *
      refine Roll.goes_val (w' := p) (.pointer (some ⟨rg, 1, none⟩)) rfl ?_ ⟨hI, Below.refl _ _, rfl⟩
      (have ec : ∀ x, a1.eval (.const x) = x := fun _ => rfl); (have ef : ∀ x, a1.eval (.func x) = .func (.func x) #[] #[] := fun _ => rfl); generalize a1.eval = ρ at *
      clear h28
      go_simp <;> (intros; first | (exfalso; omega) | rfl)
    · intro vs p hI hp
      have h29 : (vs 29) = .pointer (some ⟨rg, 1, none⟩) := hp 29 (by simp [Ljn1])
      have e50 : (Roll.putD Djn1 vs [29] b0).eval (.tmp 50) = .pointer (some ⟨rg, 1, none⟩) := (Roll.eval_new 29 rfl (by decide) (by decide) (by omega)).trans h29
      clear hp hlv hN
      unfold Roll.Goes
      simp only [Ljn1, List.getD_cons_zero, List.getD_cons_succ]
      generalize Roll.putD Djn1 vs [29] b0 = a1 at *
      have cf : p.cell? ⟨rg, 1, none⟩ = some (.slice bR mR eR) := (hI.cell (p := ⟨rg, 1, none⟩) HRL.out).trans CR1.out
      refine Roll.goes_val (w' := p) (.slice bR mR eR) rfl ?_ ⟨hI, Below.refl _ _, rfl⟩
      (have ec : ∀ x, a1.eval (.const x) = x := fun _ => rfl); (have ef : ∀ x, a1.eval (.func x) = .func (.func x) #[] #[] := fun _ => rfl); generalize a1.eval = ρ at *
      clear h29
      go_simp <;> (intros; first | (exfalso; omega) | rfl)
    · intro vs p hI hp
      have h26 : (vs 26) = .slice bL mL eL := hp 26 (by simp [Ljn1])
      have h30 : (vs 30) = .slice bR mR eR := hp 30 (by simp [Ljn1])
      have e47 : (Roll.putD Djn1 vs [26, 30] b0).eval (.tmp 47) = .slice bL mL eL := (Roll.eval_new 26 rfl (by decide) (by decide) (by omega)).trans h26
      have e51 : (Roll.putD Djn1 vs [26, 30] b0).eval (.tmp 51) = .slice bR mR eR := (Roll.eval_new 30 rfl (by decide) (by decide) (by omega)).trans h30
      clear hp hlv hN
      unfold Roll.Goes
      simp only [Ljn1, List.getD_cons_zero, List.getD_cons_succ]
      generalize Roll.putD Djn1 vs [26, 30] b0 = a1 at *
      have hal : Below p.heap.size p (p.alloc (.cells #[.slice bL mL eL, .slice bR mR eR] 92)) := (Below.refl _ _).alloc (Nat.le_refl _) _
      refine Roll.goes_val (w' := p.alloc (.cells #[.slice bL mL eL, .slice bR mR eR] 92)) (.slice (some ⟨p.heap.size, 0, none⟩) 2 2) rfl (by have ec : ∀ x, a1.eval (.const x) = x := fun _ => rfl; have ef : ∀ x, a1.eval (.func x) = .func (.func x) #[] #[] := fun _ => rfl; have hbs := run_bs2N; generalize a1.eval = ρ at *; go_simp <;> (intros; first | (exfalso; omega) | rfl)) ⟨hI.trans (hal.mono hI.size), hal, p.heap.size, rfl, by simp, heap_new rfl⟩
    · intro vs p hI hp
      have h31 : ∃ x, (vs 31) = .slice (some ⟨x, 0, none⟩) 2 2 ∧ x < p.heap.size ∧ p.heap[x]? = some (.cells #[.slice bL mL eL, .slice bR mR eR] 92 (0, 0)) := hp 31 (by simp [Ljn1])
      have e52 : (Roll.putD Djn1 vs [31] b0).eval (.tmp 52) = vs 31 := (Roll.eval_new 31 rfl (by decide) (by decide) (by omega))
      clear hp hlv hN
      unfold Roll.Goes
      simp only [Ljn1, List.getD_cons_zero, List.getD_cons_succ]
      generalize Roll.putD Djn1 vs [31] b0 = a1 at *
      obtain ⟨x, hvx, hxl, hhx⟩ := h31
      rw [hvx] at e52
      refine Roll.goes_call 91 #[.slice (some ⟨x, 0, none⟩) 2 2] p rfl (by have ec : ∀ x, a1.eval (.const x) = x := fun _ => rfl; have ef : ∀ x, a1.eval (.func x) = .func (.func x) #[] #[] := fun _ => rfl; generalize a1.eval = ρ at *; go_simp) ?_
      refine (concatN_any [⟨bL, mL, eL, pnts (L.ks.map BT.g)⟩, ⟨bR, mR, eR, pnts (R.ks.map BT.g)⟩] x p ⟨fun j hj => ?_, fun y hy => ?_⟩ hxl (by simp) (by have := HSZ.out; simp [pceN]; omega)).mono ?_
      · have : j = 0 ∨ j = 1 := by simp at hj; omega
        rcases this with rfl | rfl <;> rw [cell_of_row p x _ _ _ _ hhx] <;> rfl
      · have hy : y = ⟨bL, mL, eL, pnts (L.ks.map BT.g)⟩ ∨ y = ⟨bR, mR, eR, pnts (R.ks.map BT.g)⟩ := by simpa using hy
        rcases hy with rfl | rfl
        · exact ⟨(HLK.out.below hI).2, pnts_one _⟩
        · exact ⟨(HRK.out.below hI).2, pnts_one _⟩
      · rintro y p2 ⟨v, rfl, k, ho, hnw, hb⟩
        have e1 : pceN [⟨bL, mL, eL, pnts (L.ks.map BT.g)⟩, ⟨bR, mR, eR, pnts (R.ks.map BT.g)⟩] = JK.length := by rw [HJK.out]; have := HSZ.out; simp [pceN]; omega
        have e2 : pceL [⟨bL, mL, eL, pnts (L.ks.map BT.g)⟩, ⟨bR, mR, eR, pnts (R.ks.map BT.g)⟩] = pnts (JK.map BT.g) := by rw [HJK.out]; simp [pceL, pnts]
        rw [e1, e2] at ho
        obtain ⟨a, c, rfl, -⟩ := id ho.sl
        exact ⟨_, rfl, hI.trans (hb.mono hI.size), hb, k, a, c, rfl, ho, fun j hj => Nat.le_trans hI.size (hnw j hj)⟩
    · intro vs p hI hp
      have h22 : ∃ k a c, (vs 22) = .slice a JP.length c ∧ Own p 65 2 k (.slice a JP.length c) JP.length (pcells JP) ∧ (∀ j, k = some j → q.heap.size ≤ j) := hp 22 (by simp [Ljn1])
      have h32 : ∃ k a c, (vs 32) = .slice a JK.length c ∧ Own p 85 1 k (.slice a JK.length c) JK.length (pnts (JK.map BT.g)) ∧ (∀ j, k = some j → q.heap.size ≤ j) := hp 32 (by simp [Ljn1])
      have e43 : (Roll.putD Djn1 vs [22, 32] b0).eval (.tmp 43) = vs 22 := (Roll.eval_new 22 rfl (by decide) (by decide) (by omega))
      have e53 : (Roll.putD Djn1 vs [22, 32] b0).eval (.tmp 53) = vs 32 := (Roll.eval_new 32 rfl (by decide) (by decide) (by omega))
      clear hp hlv hN
      unfold Roll.Goes
      simp only [Ljn1, List.getD_cons_zero, List.getD_cons_succ]
      generalize Roll.putD Djn1 vs [22, 32] b0 = a1 at *
      obtain ⟨k1, a2, c2, hv1, ho1, hn1⟩ := h22
      obtain ⟨k2, a3, c3, hv2, ho2, hn2⟩ := h32
      rw [hv1] at e43
      rw [hv2] at e53
      refine Roll.goes_val (w' := p) (.agg #[.slice a2 JP.length c2, .slice a3 JK.length c3]) rfl (by have ec : ∀ x, a1.eval (.const x) = x := fun _ => rfl; have ef : ∀ x, a1.eval (.func x) = .func (.func x) #[] #[] := fun _ => rfl; have hbs := run_bld94; generalize a1.eval = ρ at *; go_simp <;> (intros; first | (exfalso; omega) | rfl)) ⟨hI, Below.refl _ _, k1, a2, c2, k2, a3, c3, rfl, ho1, hn1, ho2, hn2⟩
    · intro vs p hI hp
      have h33 : ∃ k1 a1 c1 k2 a2 c2, (vs 33) = .agg #[.slice a1 JP.length c1, .slice a2 JK.length c2] ∧ Own p 65 2 k1 (.slice a1 JP.length c1) JP.length (pcells JP) ∧ (∀ j, k1 = some j → q.heap.size ≤ j) ∧ Own p 85 1 k2 (.slice a2 JK.length c2) JK.length (pnts (JK.map BT.g)) ∧ (∀ j, k2 = some j → q.heap.size ≤ j) := hp 33 (by simp [Ljn1])
      have e54 : (Roll.putD Djn1 vs [33] b0).eval (.tmp 54) = vs 33 := (Roll.eval_new 33 rfl (by decide) (by decide) (by omega))
      clear hp hlv hN
      unfold Roll.Goes
      simp only [Ljn1, List.getD_cons_zero, List.getD_cons_succ]
      generalize Roll.putD Djn1 vs [33] b0 = a1 at *
      obtain ⟨k1, a2, c2, k2, a3, c3, hv, ho1, hn1, ho2, hn2⟩ := h33
      rw [hv] at e54
      have hal : Below p.heap.size p (p.alloc (.cells #[.slice a2 JP.length c2, .slice a3 JK.length c3] 94)) := (Below.refl _ _).alloc (Nat.le_refl _) _
      have hs1 := ho1.kept ((Kept.refl (fun _ => False) p).alloc (.cells #[.slice a2 JP.length c2, .slice a3 JK.length c3] 94)) (fun _ _ h => h)
      have hs2 := ho2.kept ((Kept.refl (fun _ => False) p).alloc (.cells #[.slice a2 JP.length c2, .slice a3 JK.length c3] 94)) (fun _ _ h => h)
      obtain ⟨a4, c4, e4, hs1⟩ := hs1.sl
      cases e4
      obtain ⟨a5, c5, e5, hs2⟩ := hs2.sl
      cases e5
      refine Roll.goes_val (w' := p.alloc (.cells #[.slice a2 JP.length c2, .slice a3 JK.length c3] 94)) (.pointer (some ⟨p.heap.size, 0, none⟩)) rfl (by have ec : ∀ x, a1.eval (.const x) = x := fun _ => rfl; have ef : ∀ x, a1.eval (.func x) = .func (.func x) #[] #[] := fun _ => rfl; have hbs := run_box94; generalize a1.eval = ρ at *; go_simp <;> (intros; first | (exfalso; omega) | rfl)) ⟨hI.trans (hal.mono hI.size), hal, p.heap.size, rfl, .mk (.inr hI.size) (heap_new rfl) ⟨rfl, hs1.dom (fun b hb => .inr (hn1 b hb))⟩ ⟨by simp, hs2.dom (fun b hb => .inr (hn2 b hb))⟩ (fun k hk => ((HKD.out k hk).under (hI.trans (hal.mono hI.size))).dom (fun b hb => .inl hb))⟩
  · intro vs p hI hR
    have h0 : (vs 0) = .pointer (some ⟨g, 0, none⟩) := hR 0 (by omega)
    have h1 : (vs 1) = .pointer (some ⟨g, 0, none⟩) := hR 1 (by omega)
    have h2 : (vs 2) = .pointer (some ⟨g, 1, none⟩) := hR 2 (by omega)
    have h3 : (vs 3) = .slice (some ⟨jk, 0, none⟩) kn kc := hR 3 (by omega)
    have h4 : (vs 4) = .int .i64 (i : Int) := hR 4 (by omega)
    have h5 : (vs 5) = .pointer (some ⟨lg, 0, none⟩) := hR 5 (by omega)
    have h6 : (vs 6) = .pointer (some ⟨lg, 0, none⟩) := hR 6 (by omega)
    have h7 : (vs 7) = .pointer (some ⟨lg, 0, none⟩) := hR 7 (by omega)
    have h8 : (vs 8) = .slice aL nL cL := hR 8 (by omega)
    have h9 : (vs 9) = .pointer (some ⟨g, 0, none⟩) := hR 9 (by omega)
    have h10 : (vs 10) = .pointer (some ⟨g, 0, none⟩) := hR 10 (by omega)
    have h11 : (vs 11) = .pointer (some ⟨g, 0, none⟩) := hR 11 (by omega)
    have h12 : (vs 12) = .slice (some ⟨jp, 0, none⟩) (nv + 1) cv := hR 12 (by omega)
    have h13 : (vs 13) = .int .i64 (i : Int) := hR 13 (by omega)
    have h14 : (vs 14) = .int .i64 (i : Int) := hR 14 (by omega)
    have h15 : (vs 15) = .int .i64 ((i : Int) + 1) := hR 15 (by omega)
    have h16 : (vs 16) = .slice (some ⟨jp, i * 2, none⟩) 1 (cv - i) := hR 16 (by omega)
    have h17 : (vs 17) = .pointer (some ⟨rg, 0, none⟩) := hR 17 (by omega)
    have h18 : (vs 18) = .pointer (some ⟨rg, 0, none⟩) := hR 18 (by omega)
    have h19 : (vs 19) = .pointer (some ⟨rg, 0, none⟩) := hR 19 (by omega)
    have h20 : (vs 20) = .slice aR nR cR := hR 20 (by omega)
    have h21 : ∃ x, (vs 21) = .slice (some ⟨x, 0, none⟩) 3 3 ∧ x < p.heap.size ∧ p.heap[x]? = some (.cells #[.slice aL nL cL, .slice (some ⟨jp, i * 2, none⟩) 1 (cv - i), .slice aR nR cR] 26 (0, 0)) := hR 21 (by omega)
    have h22 : ∃ k a c, (vs 22) = .slice a JP.length c ∧ Own p 65 2 k (.slice a JP.length c) JP.length (pcells JP) ∧ (∀ j, k = some j → q.heap.size ≤ j) := hR 22 (by omega)
    have h23 : (vs 23) = .pointer (some ⟨lg, 0, none⟩) := hR 23 (by omega)
    have h24 : (vs 24) = .pointer (some ⟨lg, 0, none⟩) := hR 24 (by omega)
    have h25 : (vs 25) = .pointer (some ⟨lg, 1, none⟩) := hR 25 (by omega)
    have h26 : (vs 26) = .slice bL mL eL := hR 26 (by omega)
    have h27 : (vs 27) = .pointer (some ⟨rg, 0, none⟩) := hR 27 (by omega)
    have h28 : (vs 28) = .pointer (some ⟨rg, 0, none⟩) := hR 28 (by omega)
    have h29 : (vs 29) = .pointer (some ⟨rg, 1, none⟩) := hR 29 (by omega)
    have h30 : (vs 30) = .slice bR mR eR := hR 30 (by omega)
    have h31 : ∃ x, (vs 31) = .slice (some ⟨x, 0, none⟩) 2 2 ∧ x < p.heap.size ∧ p.heap[x]? = some (.cells #[.slice bL mL eL, .slice bR mR eR] 92 (0, 0)) := hR 31 (by omega)
    have h32 : ∃ k a c, (vs 32) = .slice a JK.length c ∧ Own p 85 1 k (.slice a JK.length c) JK.length (pnts (JK.map BT.g)) ∧ (∀ j, k = some j → q.heap.size ≤ j) := hR 32 (by omega)
    have h33 : ∃ k1 a1 c1 k2 a2 c2, (vs 33) = .agg #[.slice a1 JP.length c1, .slice a2 JK.length c2] ∧ Own p 65 2 k1 (.slice a1 JP.length c1) JP.length (pcells JP) ∧ (∀ j, k1 = some j → q.heap.size ≤ j) ∧ Own p 85 1 k2 (.slice a2 JK.length c2) JK.length (pnts (JK.map BT.g)) ∧ (∀ j, k2 = some j → q.heap.size ≤ j) := hR 33 (by omega)
    have h34 : ∃ gj, (vs 34) = .pointer (some ⟨gj, 0, none⟩) ∧ NdD (fun b => Off D w0.heap.size g (some jp) (some jk) b ∨ q.heap.size ≤ b) p (.mk gj JP JK) := hR 34 (by omega)
    clear hR
    simp only [List.range_succ, List.range_zero, List.nil_append, List.cons_append, Roll.putD, Act.put, List.getD_cons_zero, List.getD_cons_succ, List.setIfInBounds_toArray, List.set_cons_zero, List.set_cons_succ, List.drop_succ_cons, List.drop_zero, Djn1]
    simp only [h0, h1, h2, h3, h4, h5, h6, h7, h8, h9, h10, h11, h12, h13, h14, h15, h16, h17, h18, h19, h20, h23, h24, h25, h26, h27, h28, h29, h30]
    clear h0 h1 h2 h3 h4 h5 h6 h7 h8 h9 h10 h11 h12 h13 h14 h15 h16 h17 h18 h19 h20 h23 h24 h25 h26 h27 h28 h29 h30
    clear h21 h22 h31 h32 h33
    generalize vs 21 = v21 at *; generalize vs 22 = v22 at *; generalize vs 31 = v31 at *; generalize vs 32 = v32 at *; generalize vs 33 = v33 at *; generalize vs 34 = v34 at *
    obtain ⟨gj, rfl, hnd⟩ := h34
    have cki := (hI.cell (p := ⟨jk, i, none⟩) HJL.out).trans CK.out.1
    have fki := ((Kept.of_below (fun _ => False) hI).frozen (p := ⟨jk, i, none⟩) HJL.out (fun h => h)).trans CK.out.2
    have HON1 : Hid (ONx D w0 (p.setCell ⟨jk, i, none⟩ (.pointer (some ⟨gj, 0, none⟩))) g (some jp) (some jk) (.slice (some ⟨jp, 0, none⟩) (nv + 1) cv) (.slice (some ⟨jk, 0, none⟩) kn kc) ps (ks.set i (.mk gj JP JK)) xs) := Lib.hid (((HON.out.add hI hnd).setK i (by have := HKN.out; omega) _ (List.mem_append.2 (.inr (List.mem_cons_self ..)))).sub (fun k hk => List.mem_append.2 (.inr (List.mem_cons_of_mem _ hk))))
    clear hnd hI
    go_upto_region 2 with fail
    obtain ⟨q2, hq2⟩ : ∃ q2, q2 = p.setCell ⟨jk, i, none⟩ (.pointer (some ⟨gj, 0, none⟩)) := ⟨_, rfl⟩
    rw [← hq2] at HON1 ⊢
    clear hq2 cki fki
    obtain ⟨J, hJ⟩ : ∃ J, J = BT.mk gj JP JK := ⟨_, rfl⟩
    rw [← hJ] at HON1
    have HJ := Lib.hid hJ
    obtain ⟨-, c02, -, -, -⟩ := HON1.out.facts
    have HDP := Lib.hid (fun y hy => deleteP_any q2 jp (.slice (some ⟨jp, 0, none⟩) (nv + 1) cv) nv (pcells ps) i (i : Int) y rfl hy (by have := HON1.out.hp; rwa [HNV.out] at this) (pcells_one ps) HIN.out (by have := HSZ.out; omega))
    clear hJ
    go_upto_region 3 with (go_at_call 74; refine (HDP.out _ (by first | rfl | omega)).mono ?_; rintro e q3 ⟨v3, rfl, ho, hr⟩; obtain ⟨a3, c3, rfl, -⟩ := id ho.sl; have hgp := hr.2.heap HON1.out.blk HON1.out.d1; have cg0 := cell_of_row q3 g 0 _ _ _ hgp; have fg0 := frozen_of_row q3 g 0 _ _ hgp; have HO3 := Lib.hid ho; have HR3 := Lib.hid hr; clear ho hr hgp)
    have HON2 : Hid (ONx D w0 (q3.setCell ⟨g, 0, none⟩ (.slice a3 nv c3)) g (some jp) (some jk) (.slice a3 nv c3) (.slice (some ⟨jk, 0, none⟩) kn kc) (ps.take i ++ ps.drop (i + 1)) (ks.set i J) xs) := Lib.hid (HON1.out.newP2 (by
      have e1 : (ps.take i ++ ps.drop (i + 1)).length = nv := by have := HNV.out; have := HIN.out; simp only [List.length_append, List.length_take, List.length_drop]; omega
      rw [e1, pcells_del ps i (by have := HNV.out; have := HIN.out; omega)]
      exact HO3.out) HR3.out)
    obtain ⟨q4, hq4⟩ : ∃ q4, q4 = q3.setCell ⟨g, 0, none⟩ (.slice a3 nv c3) := ⟨_, rfl⟩
    rw [← hq4] at HON2 ⊢
    clear hq4 cg0 fg0 HO3 HR3 c02
    obtain ⟨-, -, c12, -, -⟩ := HON2.out.facts
    obtain ⟨ks4, hks4⟩ : ∃ ks4, ks4 = ks.set i J := ⟨_, rfl⟩
    rw [← hks4] at HON2
    have HKS4 := Lib.hid hks4
    have HK4L : Hid (ks4.length = kn) := Lib.hid (by rw [hks4, List.length_set, HKN.out])
    clear hks4
    have HDK := Lib.hid (fun x y hx hy => deleteN_any q4 jk (.slice (some ⟨jk, 0, none⟩) kn kc) (nv + 1) (pnts (ks4.map BT.g)) (i + 1) x y hx hy (by have := HON2.out.hk; rw [HK4L.out] at this; have e := HKV.out; rw [e] at this ⊢; exact this) (pnts_one _) (by have := HIN.out; omega) (by have := HSZ.out; omega))
    go_wp2_with (go_at_call 92; refine (HDK.out _ _ (by first | rfl | omega) (by first | rfl | omega)).mono ?_; rintro e q5 ⟨v5, rfl, ho, hr⟩; obtain ⟨a5, c5, rfl, -⟩ := id ho.sl; have hgp := hr.2.heap HON2.out.blk HON2.out.d2; have cg1 := cell_of_row q5 g 1 _ _ _ hgp; have fg1 := frozen_of_row q5 g 1 _ _ hgp; have HO5 := Lib.hid ho; have HR5 := Lib.hid hr; clear ho hr hgp)
    have HON3 : Hid (ONx D w0 (q5.setCell ⟨g, 1, none⟩ (.slice a5 (nv + 1) c5)) g (some jp) (some jk) (.slice a3 nv c3) (.slice a5 (nv + 1) c5) (ps.take i ++ ps.drop (i + 1)) (ks4.take (i + 1) ++ ks4.drop (i + 2)) xs) := Lib.hid (HON2.out.newK2 (by
      have e1 : (ks4.take (i + 1) ++ ks4.drop (i + 2)).length = nv + 1 := by have := HK4L.out; have := HKV.out; have := HIN.out; simp only [List.length_append, List.length_take, List.length_drop]; omega
      rw [e1, pnts_del ks4 (i + 1)]
      exact HO5.out) HR5.out (fun k hk => .inl (List.mem_append.2 (.inl (by
        rcases List.mem_append.1 hk with h | h
        · exact List.mem_of_mem_take h
        · exact List.mem_of_mem_drop h)))))
    go_end0
    refine ⟨rfl, J, ?_, by rw [HJ.out]; rfl, by rw [HJ.out]; rfl⟩
    have e1 : ks4.take (i + 1) ++ ks4.drop (i + 2) = ks.take i ++ J :: ks.drop (i + 2) := by
      have := HKN.out
      have := HIN.out
      have := HKV.out
      rw [HKS4.out, List.drop_set_of_lt (by omega), List.take_set, List.set_eq_take_append_cons_drop, if_pos (by rw [List.length_take]; omega), List.take_take, show min i (i + 1) = i by omega, List.drop_eq_nil_of_le (by rw [List.length_take]; omega)]
      simp
    rw [← e1]
    exact ⟨_, _, _, _, HON3.out⟩
end Go.Proofs.Ytfgmhidgkemfoaa
namespace Go.Proofs.Ytfgmhidgkemfoaa
open Go.RowKit
set_option linter.unusedSimpArgs false
set_option linter.unusedVariables false
/-- the children of a node whose children have height k -/
def BT.Sh (k : Nat) (t : BT) : Prop := (k = 0 ∧ t.ks = []) ∨ (k ≠ 0 ∧ t.ks.length = t.ps.length + 1 ∧ ∀ x ∈ t.ks, x.Wf k ∧ 3 ≤ x.ps.length)
theorem wf_iff (k : Nat) (t : BT) : t.Wf (k + 1) ↔ t.ps.length ≤ 8 ∧ t.Sh k := by
  rw [BT.Wf]
  rfl
theorem BT.Sh.lens {k : Nat} {t : BT} (h : t.Sh k) : t.ks = [] ∨ t.ks.length = t.ps.length + 1 := by
  rcases h with ⟨-, h⟩ | ⟨-, h, -⟩
  · exact .inl h
  · exact .inr h
/-- a node in two -/
theorem split_math {k : Nat} {T L R : BT} {m : Nat} (hm : m = T.ps.length / 2) (hT : T.Sh k) (h7 : 7 ≤ T.ps.length) (h11 : T.ps.length ≤ 16) (l1 : L.ps = T.ps.take m) (l2 : L.ks = T.ks.take (m + 1)) (r1 : R.ps = T.ps.drop (m + 1)) (r2 : R.ks = T.ks.drop (m + 1)) :
    (L.Wf (k + 1) ∧ 3 ≤ L.ps.length) ∧ (R.Wf (k + 1) ∧ 3 ≤ R.ps.length) ∧ T.toL = L.toL ++ T.ps[m]'(by omega) :: R.toL ∧ ∀ P, L.cnt P + R.cnt P ≤ cntL P T.ks + 2 := by
  have hLl : L.ps.length = m := by rw [l1, List.length_take]; omega
  have hRl : R.ps.length = T.ps.length - (m + 1) := by rw [r1, List.length_drop]
  have hsp : T.ps = T.ps.take m ++ T.ps[m]'(by omega) :: T.ps.drop (m + 1) := at_split T.ps m (by omega)
  have hc : ∀ P, L.cnt P + R.cnt P ≤ cntL P T.ks + 2 := fun P => by
    rw [cnt_eq, cnt_eq, l2, r2]
    have h1 := cntL_app P (T.ks.take (m + 1)) (T.ks.drop (m + 1))
    rw [List.take_append_drop] at h1
    have := toNat_le (P L.g)
    have := toNat_le (P R.g)
    omega
  rcases hT with ⟨hk, h0⟩ | ⟨hk, h1, h2⟩
  · refine ⟨⟨(wf_iff _ _).2 ⟨by omega, .inl ⟨hk, by rw [l2, h0]; rfl⟩⟩, by omega⟩, ⟨(wf_iff _ _).2 ⟨by omega, .inl ⟨hk, by rw [r2, h0]; simp⟩⟩, by omega⟩, ?_, hc⟩
    rw [toL_eq, toL_eq L, toL_eq R, l1, l2, r1, r2, h0, List.take_nil, List.drop_nil, toLs_leaf, toLs_leaf, toLs_leaf]
    exact hsp
  · refine ⟨⟨(wf_iff _ _).2 ⟨by omega, .inr ⟨hk, by rw [l2, hLl, List.length_take]; omega, fun x hx => h2 x (by rw [l2] at hx; exact List.mem_of_mem_take hx)⟩⟩, by omega⟩, ⟨(wf_iff _ _).2 ⟨by omega, .inr ⟨hk, by rw [r2, hRl, List.length_drop]; omega, fun x hx => h2 x (by rw [r2] at hx; exact List.mem_of_mem_drop hx)⟩⟩, by omega⟩, ?_, hc⟩
    rw [toL_eq, toL_eq L, toL_eq R, l1, l2, r1, r2]
    have h3 := toLs_app (T.ps.take m) (T.ks.take (m + 1)) (T.ps[m]'(by omega)) (T.ps.drop (m + 1)) (T.ks.drop (m + 1)) (by rw [List.length_take, List.length_take]; omega)
    rw [List.take_append_drop, ← hsp] at h3
    exact h3
/-- two nodes in one -/
theorem join_math {k : Nat} {L R J : BT} {M : KV} (hL : L.Sh k) (hR : R.Sh k) (j1 : J.ps = L.ps ++ M :: R.ps) (j2 : J.ks = L.ks ++ R.ks) :
    J.Sh k ∧ J.ps.length = L.ps.length + R.ps.length + 1 ∧ J.toL = L.toL ++ M :: R.toL ∧ ∀ P, J.cnt P ≤ 1 + (cntL P L.ks + cntL P R.ks) := by
  have hl : J.ps.length = L.ps.length + R.ps.length + 1 := by rw [j1]; simp; omega
  have hc : ∀ P, J.cnt P ≤ 1 + (cntL P L.ks + cntL P R.ks) := fun P => by
    rw [cnt_eq, j2, cntL_app]
    have := toNat_le (P J.g)
    omega
  rcases hL with ⟨hk, h0⟩ | ⟨hk, h1, h2⟩
  · rcases hR with ⟨-, h3⟩ | ⟨h3, -⟩
    · refine ⟨.inl ⟨hk, by rw [j2, h0, h3]; rfl⟩, hl, ?_, hc⟩
      rw [toL_eq, toL_eq L, toL_eq R, j1, j2, h0, h3, toLs_leaf, toLs_leaf, List.append_nil, toLs_leaf]
    · exact absurd hk h3
  · rcases hR with ⟨h3, -⟩ | ⟨-, h3, h4⟩
    · exact absurd h3 hk
    · refine ⟨.inr ⟨hk, by rw [j2, List.length_append, hl]; omega, fun x hx => ?_⟩, hl, ?_, hc⟩
      · rw [j2] at hx
        rcases List.mem_append.1 hx with h | h
        · exact h2 x h
        · exact h4 x h
      · rw [toL_eq, toL_eq L, toL_eq R, j1, j2]
        exact toLs_app _ _ _ _ _ h1
/-- what mend makes of pairs and children -/
structure Mended (k : Nat) (c : Nat) (ps : List KV) (ks : List BT) (ps' : List KV) (ks' : List BT) : Prop where
  list : toLs ps' ks' = toLs ps ks
  lens : ks'.length = ps'.length + 1
  kids : ∀ x ∈ ks', x.Wf (k + 1) ∧ 3 ≤ x.ps.length
  low : ps.length ≤ ps'.length + 1
  high : ps'.length ≤ ps.length + 1
  low2 : 3 ≤ c → ps.length ≤ ps'.length
  high2 : c ≤ 8 → ps'.length ≤ ps.length
  cnt : ∀ P, cntL P ks' ≤ cntL P ks + 2
theorem cntL_at (P : Nat → Bool) (ks : List BT) (i : Nat) (hi : i < ks.length) : cntL P ks = cntL P (ks.take i) + (ks[i].cnt P + cntL P (ks.drop (i + 1))) := by
  conv => lhs; rw [at_split ks i hi, cntL_app, cntL_cons]
theorem mem_take2 {α : Type} {l : List α} {i : Nat} {x : α} (hx : x ∈ l.take i) : ∃ j, ∃ h : j < l.length, j < i ∧ l[j] = x := by
  obtain ⟨j, hj, rfl⟩ := List.mem_iff_getElem.1 hx
  rw [List.length_take] at hj
  exact ⟨j, by omega, by omega, by rw [List.getElem_take]⟩
theorem mem_drop2 {α : Type} {l : List α} {i : Nat} {x : α} (hx : x ∈ l.drop i) : ∃ j, ∃ h : j < l.length, i ≤ j ∧ l[j] = x := by
  obtain ⟨j, hj, rfl⟩ := List.mem_iff_getElem.1 hx
  rw [List.length_drop] at hj
  exact ⟨i + j, by omega, by omega, by rw [List.getElem_drop]⟩
/-- the children but one keep the rules -/
def But (k i : Nat) (ks : List BT) : Prop := ∀ j (h : j < ks.length), j ≠ i → ks[j].Wf (k + 1) ∧ 3 ≤ ks[j].ps.length
theorem mended_none {k i : Nat} {ps : List KV} {ks : List BT} (hb : But k i ks) (hi : i < ks.length) (hl : ks.length = ps.length + 1) (hs : ks[i].Sh k) (h3 : 3 ≤ ks[i].ps.length) (h8 : ks[i].ps.length ≤ 8) : Mended k ks[i].ps.length ps ks ps ks :=
  ⟨rfl, hl, fun x hx => by
    obtain ⟨j, hj, rfl⟩ := List.mem_iff_getElem.1 hx
    by_cases e : j = i
    · subst e; exact ⟨(wf_iff _ _).2 ⟨h8, hs⟩, h3⟩
    · exact hb j hj e, by omega, by omega, fun _ => Nat.le_refl _, fun _ => Nat.le_refl _, fun P => by omega⟩
theorem mended_split {k i : Nat} {ps : List KV} {ks : List BT} {L R : BT} (hb : But k i ks) (hi : i < ks.length) (hl : ks.length = ps.length + 1) (hs : ks[i].Sh k) (h9 : 8 < ks[i].ps.length) (h16 : ks[i].ps.length ≤ 16) (l1 : L.ps = ks[i].ps.take (ks[i].ps.length / 2)) (l2 : L.ks = ks[i].ks.take (ks[i].ps.length / 2 + 1)) (r1 : R.ps = ks[i].ps.drop (ks[i].ps.length / 2 + 1)) (r2 : R.ks = ks[i].ks.drop (ks[i].ps.length / 2 + 1)) :
    toLs (ps.take i ++ ks[i].ps[ks[i].ps.length / 2]'(by omega) :: ps.drop i) (ks.take i ++ L :: R :: ks.drop (i + 1)) = toLs ps ks ∧ (ks.take i ++ L :: R :: ks.drop (i + 1)).length = (ps.take i ++ ks[i].ps[ks[i].ps.length / 2]'(by omega) :: ps.drop i).length + 1 ∧ (∀ x ∈ ks.take i ++ L :: R :: ks.drop (i + 1), x.Wf (k + 1) ∧ 3 ≤ x.ps.length) ∧ (ps.take i ++ ks[i].ps[ks[i].ps.length / 2]'(by omega) :: ps.drop i).length = ps.length + 1 ∧ ∀ P, cntL P (ks.take i ++ L :: R :: ks.drop (i + 1)) + (P ks[i].g).toNat ≤ cntL P ks + 2 := by
  obtain ⟨m1, m2, m3, m4⟩ := split_math rfl hs (by omega) h16 l1 l2 r1 r2
  refine ⟨toLs_split1 _ L R ps ks i hi hl m3, by simp only [List.length_append, List.length_take, List.length_cons, List.length_drop]; omega, fun x hx => ?_, by simp only [List.length_append, List.length_take, List.length_cons, List.length_drop]; omega, fun P => ?_⟩
  · rcases List.mem_append.1 hx with h | h
    · obtain ⟨j, hj, hji, rfl⟩ := mem_take2 h
      exact hb j hj (by omega)
    · rcases List.mem_cons.1 h with rfl | h
      · exact m1
      · rcases List.mem_cons.1 h with rfl | h
        · exact m2
        · obtain ⟨j, hj, hji, rfl⟩ := mem_drop2 h
          exact hb j hj (by omega)
  · have h1 := m4 P
    have h2 := cntL_at P ks i hi
    rw [cnt_eq] at h2
    rw [cntL_app, cntL_cons, cntL_cons]
    omega
theorem mended_join {k i : Nat} {ps : List KV} {ks : List BT} {J : BT} (hi : i < ps.length) (hl : ks.length = ps.length + 1) (hL : (ks[i]'(by omega)).Sh k) (hR : (ks[i + 1]'(by omega)).Sh k) (hb : ∀ j (h : j < ks.length), j ≠ i → j ≠ i + 1 → ks[j].Wf (k + 1) ∧ 3 ≤ ks[j].ps.length) (j1 : J.ps = (ks[i]'(by omega)).ps ++ ps[i] :: (ks[i + 1]'(by omega)).ps) (j2 : J.ks = (ks[i]'(by omega)).ks ++ (ks[i + 1]'(by omega)).ks) :
    toLs (ps.take i ++ ps.drop (i + 1)) (ks.take i ++ J :: ks.drop (i + 2)) = toLs ps ks ∧ (ks.take i ++ J :: ks.drop (i + 2)).length = (ps.take i ++ ps.drop (i + 1)).length + 1 ∧ But k i (ks.take i ++ J :: ks.drop (i + 2)) ∧ (ps.take i ++ ps.drop (i + 1)).length + 1 = ps.length ∧ (∀ h : i < (ks.take i ++ J :: ks.drop (i + 2)).length, (ks.take i ++ J :: ks.drop (i + 2))[i] = J) ∧ J.Sh k ∧ J.ps.length = (ks[i]'(by omega)).ps.length + (ks[i + 1]'(by omega)).ps.length + 1 ∧ ∀ P, cntL P (ks.take i ++ J :: ks.drop (i + 2)) ≤ cntL P ks + (P J.g).toNat := by
  obtain ⟨m1, m2, m3, m4⟩ := join_math hL hR j1 j2
  have hg : ∀ h : i < (ks.take i ++ J :: ks.drop (i + 2)).length, (ks.take i ++ J :: ks.drop (i + 2))[i] = J := fun h => by
    rw [List.getElem_append_right (by rw [List.length_take]; omega)]
    simp [show i - min i ks.length = 0 by omega]
  refine ⟨toLs_join J ps ks i hi hl m3, by simp only [List.length_append, List.length_take, List.length_cons, List.length_drop]; omega, fun j hj hji => ?_, by simp only [List.length_append, List.length_take, List.length_drop]; omega, hg, m1, m2, fun P => ?_⟩
  · simp only [List.length_append, List.length_take, List.length_cons, List.length_drop] at hj
    by_cases h1 : j < i
    · rw [List.getElem_append_left (by rw [List.length_take]; omega), List.getElem_take]
      exact hb j (by omega) hji (by omega)
    · rw [List.getElem_append_right (by rw [List.length_take]; omega)]
      obtain ⟨t, ht⟩ : ∃ t, j = i + 1 + t := ⟨j - i - 1, by omega⟩
      subst ht
      have e : i + 1 + t - (ks.take i).length = t + 1 := by rw [List.length_take]; omega
      simp only [e, List.getElem_cons_succ, List.getElem_drop]
      exact hb (i + 2 + t) (by omega) (by omega) (by omega)
  · have h2 := cntL_at P ks i (by omega)
    have h3 := cntL_at P (ks.drop (i + 1)) 0 (by rw [List.length_drop]; omega)
    rw [List.take_zero, cntL_nil, List.drop_drop] at h3
    simp only [List.getElem_drop, Nat.add_zero, Nat.zero_add] at h3
    rw [cnt_eq] at h2 h3
    rw [cntL_app, cntL_cons, cnt_eq, j2, cntL_app]
    simp only [show i + (1 + 1) = i + 2 by omega, show i + 1 + 1 = i + 2 by omega] at *
    omega
/-- what is read of a child -/
theorem ON.kidFacts {D : Nat → Prop} {w0 w : World} {g : Nat} {ps : List KV} {ks xs : List BT} (h : ON D w0 w g ps ks xs) (i : Nat) (hi : i < ks.length) : ∃ jk kc tg aT cT, w.cell? ⟨g, 1, none⟩ = some (.slice (some ⟨jk, 0, none⟩) ks.length kc) ∧ w.cell? ⟨jk, i, none⟩ = some (.pointer (some ⟨tg, 0, none⟩)) ∧ w.cell? ⟨tg, 0, none⟩ = some (.slice aT ks[i].ps.length cT) ∧ ks.length ≤ kc ∧ kc ≤ 9223372036854775807 ∧ ks[i].ps.length ≤ cT ∧ cT ≤ 9223372036854775807 := by
  obtain ⟨kp, kk, vp, vk, hon⟩ := h
  obtain ⟨jk, kc, rfl, rfl, h1, h2, -, h3⟩ := hon.kidAt (by omega)
  obtain ⟨-, -, c1, -, -⟩ := hon.facts
  obtain ⟨c2, -⟩ := h3 i hi
  obtain ⟨aT, nT, cT, bT, mT, eT, -, -, c3, -, hp, -, -⟩ := (hon.kids ks[i] (List.mem_append.2 (.inl (List.getElem_mem hi)))).facts
  have hn := hp.1
  subst hn
  exact ⟨jk, kc, _, aT, cT, c1, c2, c3, h1, h2, hp.2.2.1, hp.2.2.2.1⟩
end Go.Proofs.Ytfgmhidgkemfoaa
namespace Go.Proofs.Ytfgmhidgkemfoaa
open Go.RowKit
set_option linter.unusedSimpArgs false
set_option linter.unusedVariables false
theorem But.sh {k i : Nat} {ks : List BT} (hb : But k i ks) (hi : i < ks.length) (hs : ks[i].Sh k) (h9 : ks[i].ps.length ≤ 9) (j : Nat) (hj : j < ks.length) : ks[j].Sh k ∧ ks[j].ps.length ≤ 9 := by
  by_cases e : j = i
  · subst e; exact ⟨hs, h9⟩
  · have := (wf_iff _ _).1 (hb j hj e).1
    exact ⟨this.2, by omega⟩
theorem BT.Sh.klen {k : Nat} {t : BT} (h : t.Sh k) : t.ks.length ≤ t.ps.length + 1 := by
  rcases h.lens with h | h
  · rw [h]; simp
  · omega
set_option maxRecDepth 100000 in
set_option maxHeartbeats 4000000 in
theorem mend_any {D : Nat → Prop} {w0 w : World} {g : Nat} {ps : List KV} {ks xs : List BT} (h : ON D w0 w g ps ks xs) (k i : Nat) (hi : i < ks.length) (hl : ks.length = ps.length + 1) (hn : ps.length ≤ 20) (h1 : 1 ≤ ps.length) (hb : But k i ks) (hs : ks[i].Sh k) (h2 : 2 ≤ ks[i].ps.length) (h9 : ks[i].ps.length ≤ 9) :
    Calls Try.prog 72 #[.pointer (some ⟨g, 0, none⟩), .int .i64 (i : Int)] w fun e w' => e = .returned (.tuple #[]) ∧ ∃ ps' ks', ON D w0 w' g ps' ks' xs ∧ Mended k ks[i].ps.length ps ks ps' ks' := by
  obtain ⟨jk, kc, tg, aT, cT, c1, c2, c3, b1, b2, b3, b4⟩ := h.kidFacts i hi
  obtain ⟨n, hnn⟩ : ∃ n, n = ks[i].ps.length := ⟨_, rfl⟩
  rw [← hnn] at c3 b3 h2 h9 ⊢
  obtain ⟨kn, hkn⟩ : ∃ kn, kn = ks.length := ⟨_, rfl⟩
  rw [← hkn] at c1 b1
  have hik : (i : Int) < (kn : Int) := by omega
  have H := Lib.hid h
  have HNN := Lib.hid hnn
  have HKN := Lib.hid hkn
  by_cases hn3 : n < 3
  · have hn3' : (n : Int) < 3 := by omega
    obtain rfl : n = 2 := by omega
    have H0 : Hid (∃ i', i' < ps.length ∧ (i = 0 ∧ i' = 0 ∨ i = i' + 1)) := Lib.hid (by
      by_cases e : i = 0
      · exact ⟨0, by omega, .inl ⟨e, rfl⟩⟩
      · exact ⟨i - 1, by omega, .inr (by omega)⟩)
    obtain ⟨i', hi', hii⟩ := H0.out
    have hmx : max ((i : Int) - 1) 0 = (i' : Int) := by omega
    have HL0 := Lib.hid hl
    have hi0 : i' < ks.length := by omega
    have hi1 : i' + 1 < ks.length := by omega
    have hsl := hb.sh hi hs (by omega) i' hi0
    have hsr := hb.sh hi hs (by omega) (i' + 1) hi1
    have HSL := Lib.hid hsl
    have HSR := Lib.hid hsr
    have HBB : Hid (∀ j (h : j < ks.length), j ≠ i' → j ≠ i' + 1 → ks[j].Wf (k + 1) ∧ 3 ≤ ks[j].ps.length) := Lib.hid (fun j hj e1 e2 => hb j hj (by omega))
    have HSUM : Hid (6 ≤ (ks[i']'hi0).ps.length + (ks[i' + 1]'hi1).ps.length + 1 ∧ (ks[i']'hi0).ps.length + (ks[i' + 1]'hi1).ps.length + 1 ≤ 11) := Lib.hid (by
      have hsib : ∀ j (hj : j < ks.length), j ≠ i → 3 ≤ ks[j].ps.length ∧ ks[j].ps.length ≤ 8 := fun j hj e => ⟨(hb j hj e).2, ((wf_iff _ _).1 (hb j hj e).1).1⟩
      rcases hii with ⟨rfl, rfl⟩ | rfl
      · have := hsib 1 (by omega) (by omega)
        simp only [Nat.zero_add]
        omega
      · have := hsib i' (by omega) (by omega)
        omega)
    have HC := Lib.hid (join_any h i' hi' hl (by omega) ⟨by omega, by omega, by have := hsl.1.klen; omega, by have := hsr.1.klen; omega⟩)
    have hwi : IntKind.i64.wrap ((i : Int) - 1) = (i : Int) - 1 := i64_id _ (by omega) (by omega)
    clear h hnn hkn hsl hsr H0
    go_enter Try.func72, Try.ntmps72
    go_upto_region 2 with fail
    go_upto_region 3 with (go_at_call 85; refine HC.out.mono ?_; rintro e w2 ⟨rfl, J, hon, j1, j2⟩; have HON := Lib.hid hon; have HJ1 := Lib.hid j1; have HJ2 := Lib.hid j2; clear hon j1 j2)
    obtain ⟨m1, m2, m3, m4, m5, m6, m7, m8⟩ := mended_join hi' HL0.out HSL.out.1 HSR.out.1 HBB.out HJ1.out HJ2.out
    have hik2 : i' < (ks.take i' ++ J :: ks.drop (i' + 2)).length := by have := HL0.out; omega
    obtain ⟨jk2, kc2, tg2, aT2, cT2, c12, c22, c32, b12, b22, b32, b42⟩ := HON.out.kidFacts i' hik2
    rw [m5 hik2] at c32 b32
    have hkl2 : (ks.take i' ++ J :: ks.drop (i' + 2)).length = ps.length := by omega
    rw [hkl2] at c12 b12
    have HJ7 : Hid (6 ≤ J.ps.length ∧ J.ps.length ≤ 11) := Lib.hid (by
      have h3 := HSUM.out
      omega)
    obtain ⟨jn, hjn⟩ : ∃ jn, jn = J.ps.length := ⟨_, rfl⟩
    rw [← hjn] at c32 b32
    have HJN := Lib.hid hjn
    have hik3 : (i' : Int) < (ps.length : Int) := by omega
    have M := Lib.hid (⟨m1, m2, m3, m4, m5, m6, m7, m8⟩ : _ ∧ _ ∧ _ ∧ _ ∧ _ ∧ _ ∧ _ ∧ _)
    clear m1 m2 m3 m4 m5 m6 m7 m8 c1 c2 c3
    by_cases hj8 : 8 < jn
    · have hj8' : (8 : Int) < (jn : Int) := by omega
      have g3 : 3 ≤ (ks.take i' ++ J :: ks.drop (i' + 2))[i'].ps.length := by rw [M.out.2.2.2.2.1 hik2]; have := HJ7.out; omega
      have g9 : (ks.take i' ++ J :: ks.drop (i' + 2))[i'].ps.length ≤ 900 := by rw [M.out.2.2.2.2.1 hik2]; have := HJ7.out; omega
      have gm : (ks.take i' ++ J :: ks.drop (i' + 2))[i'].ps.length / 2 < (ks.take i' ++ J :: ks.drop (i' + 2))[i'].ps.length := by omega
      have HC2 := Lib.hid (split_any HON.out i' hik2 (by have := M.out.2.1; have := M.out.2.2.2.1; omega) (by have := M.out.2.2.2.1; omega) (by rw [M.out.2.2.2.2.1 hik2]; exact M.out.2.2.2.2.2.1.lens) g3 g9)
      have HM : Hid (∀ L R : BT, L.ps = (ks.take i' ++ J :: ks.drop (i' + 2))[i'].ps.take ((ks.take i' ++ J :: ks.drop (i' + 2))[i'].ps.length / 2) → L.ks = (ks.take i' ++ J :: ks.drop (i' + 2))[i'].ks.take ((ks.take i' ++ J :: ks.drop (i' + 2))[i'].ps.length / 2 + 1) → R.ps = (ks.take i' ++ J :: ks.drop (i' + 2))[i'].ps.drop ((ks.take i' ++ J :: ks.drop (i' + 2))[i'].ps.length / 2 + 1) → R.ks = (ks.take i' ++ J :: ks.drop (i' + 2))[i'].ks.drop ((ks.take i' ++ J :: ks.drop (i' + 2))[i'].ps.length / 2 + 1) → Mended k 2 ps ks ((ps.take i' ++ ps.drop (i' + 1)).take i' ++ (ks.take i' ++ J :: ks.drop (i' + 2))[i'].ps[(ks.take i' ++ J :: ks.drop (i' + 2))[i'].ps.length / 2]'gm :: (ps.take i' ++ ps.drop (i' + 1)).drop i') ((ks.take i' ++ J :: ks.drop (i' + 2)).take i' ++ L :: R :: (ks.take i' ++ J :: ks.drop (i' + 2)).drop (i' + 1))) := Lib.hid (fun L R l1 l2 r1 r2 => by
        obtain ⟨m1, m2, m3, m4, m5, m6, m7, m8⟩ := M.out
        obtain ⟨p1, p2, p3, p4, p5⟩ := mended_split m3 hik2 (by omega) (by rw [m5 hik2]; exact m6) (by rw [m5 hik2]; have := HJN.out; omega) (by rw [m5 hik2]; have := HJ7.out; omega) l1 l2 r1 r2
        exact ⟨p1.trans m1, p2, p3, by omega, by omega, fun h => by omega, fun _ => by omega, fun P => by have h1 := p5 P; have h2 := m8 P; rw [m5 hik2] at h1; omega⟩)
      clear hjn hkl2
      go_wp2_with (go_at_call 51; refine HC2.out.mono ?_; rintro e w3 ⟨rfl, L, R, hon, l1, l2, r1, r2⟩; have HON3 := Lib.hid hon; have HM2 := Lib.hid (HM.out L R l1 l2 r1 r2); clear hon l1 l2 r1 r2)
      go_end0
      exact ⟨rfl, _, _, HON3.out, HM2.out⟩
    · have hj8' : ¬ (8 : Int) < (jn : Int) := by omega
      have HM : Hid (Mended k 2 ps ks (ps.take i' ++ ps.drop (i' + 1)) (ks.take i' ++ J :: ks.drop (i' + 2))) := Lib.hid (by
        obtain ⟨m1, m2, m3, m4, m5, m6, m7, m8⟩ := M.out
        refine ⟨m1, m2, fun x hx => ?_, by omega, by omega, fun h => by omega, fun _ => by omega, fun P => by have := m8 P; have := toNat_le (P J.g); omega⟩
        obtain ⟨j, hj, rfl⟩ := List.mem_iff_getElem.1 hx
        by_cases e : j = i'
        · subst e
          rw [m5 hj]
          have := HJ7.out
          have := HJN.out
          exact ⟨(wf_iff _ _).2 ⟨by omega, m6⟩, by omega⟩
        · exact m3 j hj e)
      clear hjn hkl2
      go_wp2_with fail
      go_end0
      exact ⟨rfl, _, _, HON.out, HM.out⟩
  · have hn3' : ¬ (n : Int) < 3 := by omega
    by_cases hn8 : 8 < n
    · have hn8' : (8 : Int) < (n : Int) := by omega
      have g3 : 3 ≤ ks[i].ps.length := by omega
      have g9 : ks[i].ps.length ≤ 900 := by omega
      have gm : ks[i].ps.length / 2 < ks[i].ps.length := by omega
      have HC := Lib.hid (split_any h i hi hl (by omega) hs.lens g3 g9)
      have HM : Hid (∀ L R : BT, L.ps = ks[i].ps.take (ks[i].ps.length / 2) → L.ks = ks[i].ks.take (ks[i].ps.length / 2 + 1) → R.ps = ks[i].ps.drop (ks[i].ps.length / 2 + 1) → R.ks = ks[i].ks.drop (ks[i].ps.length / 2 + 1) → Mended k n ps ks (ps.take i ++ ks[i].ps[ks[i].ps.length / 2]'gm :: ps.drop i) (ks.take i ++ L :: R :: ks.drop (i + 1))) := Lib.hid (fun L R l1 l2 r1 r2 => by
        obtain ⟨m1, m2, m3, m4, m5⟩ := mended_split hb hi hl hs (by omega) (by omega) l1 l2 r1 r2
        exact ⟨m1, m2, m3, by omega, by omega, fun _ => by omega, fun h => by omega, fun P => by have := m5 P; omega⟩)
      clear h hnn hkn
      go_enter Try.func72, Try.ntmps72
      go_wp2_with (go_at_call 51; refine HC.out.mono ?_; rintro e w2 ⟨rfl, L, R, hon, l1, l2, r1, r2⟩; have HON := Lib.hid hon; have HM2 := Lib.hid (HM.out L R l1 l2 r1 r2); clear hon l1 l2 r1 r2)
      go_end0
      exact ⟨rfl, _, _, HON.out, HM2.out⟩
    · have hn8' : ¬ (8 : Int) < (n : Int) := by omega
      have HM := Lib.hid (mended_none hb hi hl hs (by omega) (by omega))
      clear h hnn hkn
      go_enter Try.func72, Try.ntmps72
      go_wp2_with fail
      go_end0
      refine ⟨rfl, _, _, H.out, ?_⟩
      rw [HNN.out]
      exact HM.out
end Go.Proofs.Ytfgmhidgkemfoaa

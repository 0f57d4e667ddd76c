/-
  Texts NN, NO, NP, NQ, NR, NS, one behind the other.
-/
import Derived.WalkKit
import Derived.WalkSpells
import Derived.WalkLawsBesides
import Derived.Laws.AppendOwn
import Derived.Laws.OwnMore
import Derived.Deep.AppendSrc
import Derived.Deep.MidRow
import Derived.Lib.Hide
import GoSem.Claim
import Derived.Lib.Bytealg
import Derived.Laws.Externs
import Derived.Deep.QuietTactic
import Derived.BigQuiet
import Derived.Deep.CutBlock
import Derived.OwnWalk
import Derived.Deep.DrawnRows
import Derived.Deep.CutRange
import Derived.Deep.LoopGhost
import Derived.Laws.Tables
import Derived.Laws.ResultCell
import Derived.Deep.WholeRow
import Derived.Lib.Strings
import Derived.Shelf.Spec.SlicesInsert
import Derived.Lib.AppendZerosOnto
import Derived.Lib.Overlaps
import Derived.Laws.CopyRow
import Derived.Deep.RegionLaw
import Derived.Orders
import Derived.Tactics
import Derived.StillTailTactics
import Derived.Test.YtfgmhidgkemfoaaRows
import Derived.Test.YtfgmhidgkemfoaaZT902
namespace Go.Proofs.Ytfgmhidgkemfoaa
open Go.RowKit
set_option linter.unusedSimpArgs false
set_option linter.unusedVariables false
attribute [local go_sem ↓] exec_loadPair exec_at_zeroP exec_at_succP Go.wp_at_zero Go.wp_at_succ
def Djn1 : List (Option Tmp) := [some 21, some 22, some 23, some 24, some 25, some 26, some 27, some 28, some 29, some 30, some 31, some 32, some 33, some 34, some 35, some 36, some 37, some 38, some 39, some 40, some 41, some 42, some 43, some 44, some 45, some 46, some 47, some 48, some 49, some 50, some 51, some 52, some 53, some 54, some 55, some 56, none]
def Ljn1 : List (List Nat) := [[], [0], [1], [2], [], [], [5], [6], [7], [], [9], [10], [11], [], [], [14], [12, 13, 15], [], [17], [18], [19], [8, 16, 20], [21], [], [23], [24], [25], [], [27], [28], [29], [26, 30], [31], [22, 32], [33], [3, 4], [35, 34]]
theorem run_bs3P (a1 : Option Addr) (n1 c1 : Nat) (a2 : Option Addr) (n2 c2 : Nat) (a3 : Option Addr) (n3 c3 : Nat) (W : World) : (Instr.buildSlice 50 3 #[(0, .slice a1 n1 c1), (1, .slice a2 n2 c2), (2, .slice a3 n3 c3)]).run Try.prog W = .ok (.slice (some ⟨W.heap.size, 0, none⟩) 3 3) (W.alloc (.cells #[.slice a1 n1 c1, .slice a2 n2 c2, .slice a3 n3 c3] 26)) := by kernel_rfl
theorem run_bs2N (a1 : Option Addr) (n1 c1 : Nat) (a2 : Option Addr) (n2 c2 : Nat) (W : World) : (Instr.buildSlice 141 2 #[(0, .slice a1 n1 c1), (1, .slice a2 n2 c2)]).run Try.prog W = .ok (.slice (some ⟨W.heap.size, 0, none⟩) 2 2) (W.alloc (.cells #[.slice a1 n1 c1, .slice a2 n2 c2] 92)) := by kernel_rfl
theorem run_bld94 (a1 : Option Addr) (n1 c1 : Nat) (a2 : Option Addr) (n2 c2 : Nat) (W : World) : (Instr.build 94 #[(0, .slice a1 n1 c1), (1, .slice a2 n2 c2)]).run Try.prog W = .ok (.agg #[.slice a1 n1 c1, .slice a2 n2 c2]) W := by kernel_rfl
theorem run_box94 (a1 : Option Addr) (n1 c1 : Nat) (a2 : Option Addr) (n2 c2 : Nat) (W : World) : (Instr.box 94 (.agg #[.slice a1 n1 c1, .slice a2 n2 c2])).run Try.prog W = .ok (.pointer (some ⟨W.heap.size, 0, none⟩)) (W.alloc (.cells #[.slice a1 n1 c1, .slice a2 n2 c2] 94)) := by kernel_rfl
set_option maxRecDepth 100000 in
set_option maxHeartbeats 4000000 in
theorem join_any {D : Nat → Prop} {w0 w : World} {g : Nat} {ps : List KV} {ks xs : List BT} (h : ON D w0 w g ps ks xs) (i : Nat) (hi : i < ps.length) (hl : ks.length = ps.length + 1) (hn : ps.length ≤ 900) (hs : (ks[i]'(by omega)).ps.length ≤ 900 ∧ (ks[i + 1]'(by omega)).ps.length ≤ 900 ∧ (ks[i]'(by omega)).ks.length ≤ 900 ∧ (ks[i + 1]'(by omega)).ks.length ≤ 900) :
    Calls Try.prog 85 #[.pointer (some ⟨g, 0, none⟩), .int .i64 (i : Int)] w fun e w' => e = .returned (.tuple #[]) ∧ ∃ J, ON D w0 w' g (ps.take i ++ ps.drop (i + 1)) (ks.take i ++ J :: ks.drop (i + 2)) xs ∧ J.ps = (ks[i]'(by omega)).ps ++ ps[i] :: (ks[i + 1]'(by omega)).ps ∧ J.ks = (ks[i]'(by omega)).ks ++ (ks[i + 1]'(by omega)).ks := by
  obtain ⟨kp, kk, vp, vk, hon⟩ := h
  have hi0 : i < ks.length := by omega
  have hi1 : i + 1 < ks.length := by omega
  obtain ⟨L, hL⟩ : ∃ L, L = ks[i]'hi0 := ⟨_, rfl⟩
  obtain ⟨R, hR⟩ : ∃ R, R = ks[i + 1]'hi1 := ⟨_, rfl⟩
  obtain ⟨M, hM⟩ : ∃ M, M = ps[i]'hi := ⟨_, rfl⟩
  have hLm : L ∈ ks := by rw [hL]; exact List.getElem_mem hi0
  have hRm : R ∈ ks := by rw [hR]; exact List.getElem_mem hi1
  rw [← hL, ← hR] at hs
  rw [← hL, ← hR, ← hM]
  obtain ⟨jk, kc, rfl, rfl, hkc, hkm, hjl, hcell⟩ := hon.kidAt (by omega)
  obtain ⟨jp, cv, rfl, rfl, hcv, hcm, hjpl⟩ := hon.pairAt (by omega)
  have hLD := hon.kids L (List.mem_append.2 (.inl hLm))
  have hRD := hon.kids R (List.mem_append.2 (.inl hRm))
  obtain ⟨aL, nL, cL, bL, mL, eL, -, hlb, cl0, cl1, hlp, hlk, hlkd⟩ := hLD.facts
  obtain ⟨aR, nR, cR, bR, mR, eR, -, hrb, cr0, cr1, hrp, hrk, hrkd⟩ := hRD.facts
  have hll : L.g < w.heap.size := (Array.getElem?_eq_some_iff.1 hlb).1
  have hrl : R.g < w.heap.size := (Array.getElem?_eq_some_iff.1 hrb).1
  obtain ⟨hgl, c0, c1, -, -⟩ := hon.facts
  obtain ⟨ci, fi⟩ := hcell i hi0
  obtain ⟨ci1, -⟩ := hcell (i + 1) hi1
  rw [← hL] at ci
  rw [← hR] at ci1
  obtain ⟨lg, hlg⟩ : ∃ lg, lg = L.g := ⟨_, rfl⟩
  obtain ⟨rg, hrg⟩ : ∃ rg, rg = R.g := ⟨_, rfl⟩
  rw [← hlg] at ci hll cl0 cl1
  rw [← hrg] at ci1 hrl cr0 cr1
  have hkc2 : kc ≤ 9223372036854775807 := hkm
  have hcv2 : cv ≤ 9223372036854775807 := hcm
  have hmp : Ps (fun _ => True) w (some ⟨jp, 0, none⟩) ps.length cv ps := by
    obtain ⟨a', c', e1, h2⟩ := hon.hp.sl
    cases e1
    exact ⟨rfl, h2.dom (fun _ _ => trivial)⟩
  obtain ⟨a', e1, hmp⟩ := hmp.part i (i + 1) (by omega) (by omega)
  have e2 : (ps.take (i + 1)).drop i = [M] := by
    rw [hM, List.take_succ_eq_append_getElem hi, List.drop_append, List.drop_eq_nil_of_le (by rw [List.length_take]; omega), List.length_take, show i - min i ps.length = 0 by omega]
    rfl
  rw [e1, e2] at hmp
  have HMP : Hid (Ps (fun _ => True) w (some ⟨jp, i * 2, none⟩) 1 (cv - i) [M]) := Lib.hid (by
    have h := hmp
    simp only [Option.map_some, Nat.zero_add, Nat.add_sub_cancel_left] at h
    exact h)
  clear hmp e1 e2 a'
  obtain ⟨kn, hkn⟩ : ∃ kn, kn = ks.length := ⟨_, rfl⟩
  obtain ⟨nv, hnv⟩ : ∃ nv, ps.length = nv + 1 := ⟨ps.length - 1, by omega⟩
  simp only [← hkn] at hon c1 hkc
  rw [hnv] at c0 hcv
  have hon : ONx D w0 w g (some jp) (some jk) (.slice (some ⟨jp, 0, none⟩) (nv + 1) cv) (.slice (some ⟨jk, 0, none⟩) kn kc) ps ks xs := by rw [hnv] at hon; exact hon
  obtain ⟨JP, hJP⟩ : ∃ JP, JP = L.ps ++ M :: R.ps := ⟨_, rfl⟩
  obtain ⟨JK, hJK⟩ : ∃ JK, JK = L.ks ++ R.ks := ⟨_, rfl⟩
  rw [← hJP, ← hJK]
  have HJP := Lib.hid hJP
  have HJK := Lib.hid hJK
  have HON := Lib.hid hon
  have HKD : Hid (∀ k, k ∈ JK → NdD (Off D w0.heap.size g (some jp) (some jk)) w k) := Lib.hid (fun k hk => by
    rw [hJK] at hk
    rcases List.mem_append.1 hk with h | h
    · exact hlkd k h
    · exact hrkd k h)
  have HLP : Hid (Ps (fun _ => True) w aL nL cL L.ps) := Lib.hid (hlp.dom (fun _ _ => trivial))
  have HRP : Hid (Ps (fun _ => True) w aR nR cR R.ps) := Lib.hid (hrp.dom (fun _ _ => trivial))
  have HLK : Hid (Ks (fun _ => True) w bL mL eL (L.ks.map BT.g)) := Lib.hid (hlk.dom (fun _ _ => trivial))
  have HRK : Hid (Ks (fun _ => True) w bR mR eR (R.ks.map BT.g)) := Lib.hid (hrk.dom (fun _ _ => trivial))
  have HSZ : Hid (nL = L.ps.length ∧ nR = R.ps.length ∧ mL = L.ks.length ∧ mR = R.ks.length ∧ nL ≤ 900 ∧ nR ≤ 900 ∧ mL ≤ 900 ∧ mR ≤ 900 ∧ nv ≤ 899) := Lib.hid (by
    have e1 := hlp.1
    have e2 := hrp.1
    have e3 := hlk.1
    have e4 := hrk.1
    rw [List.length_map] at e3 e4
    obtain ⟨h1, h2, h3, h4⟩ := hs
    omega)
  have HGL := Lib.hid hgl
  have HLL := Lib.hid hll
  have HRL := Lib.hid hrl
  have HJL := Lib.hid hjl
  have C0 := Lib.hid c0
  have C1 := Lib.hid c1
  have CL0 := Lib.hid cl0
  have CL1 := Lib.hid cl1
  have CR0 := Lib.hid cr0
  have CR1 := Lib.hid cr1
  have CK : Hid (w.cell? ⟨jk, i, none⟩ = some (.pointer (some ⟨lg, 0, none⟩)) ∧ w.frozen? ⟨jk, i, none⟩ = false) := Lib.hid ⟨ci, fi⟩
  have HIN : Hid (i ≤ nv) := Lib.hid (by omega)
  have HNV := Lib.hid hnv
  have HKN := Lib.hid hkn
  have HKV : Hid (kn = nv + 1 + 1) := Lib.hid (by omega)
  have hik : (i : Int) < (kn : Int) := by omega
  have hik1 : (i : Int) + 1 < (kn : Int) := by omega
  have hcvi : ¬ cv = i := by omega
  have hi2 : (i : Int) ≤ (i : Int) + 1 := by omega
  have hi3 : (i : Int) + 1 ≤ (cv : Int) := by omega
  have hi4 : (0 : Int) ≤ (i : Int) + 1 := by omega
  have hit : ((i : Int) + 1).toNat = i + 1 := by omega
  have hii : i + 1 - i = 1 := by omega
  have hiw : IntKind.i64.wrap ((i : Int) + 1) = (i : Int) + 1 := i64_id _ (by omega) (by omega)
  have hiw2 : IntKind.i64.wrap ((i : Int) + 2) = (i : Int) + 2 := i64_id _ (by omega) (by omega)
  have mixed : Try.prog.follows .mixedOrders = true := by kernel_rfl
  clear hon hcell hLD hRD hlb hrb hlp hrp hlk hrk hlkd hrkd hLm hRm hlg hrg hkm hcm hL hR hM hnv hkn hJP hJK hs hl hn hi hi0 hi1 hjpl fi
  go_enter Try.func85, Try.ntmps85
  go_upto_region 0 with fail
  go_quiet (fail)
  go_upto_region 1 with fail
  have hbq : Below w.heap.size w (w.drewN nq) := below_drewN (Below.refl _ _) nq
  obtain ⟨q, hq⟩ : ∃ q, q = w.drewN nq := ⟨_, rfl⟩
  rw [← hq] at hbq ⊢
  clear hq
  have HLL := Lib.hid (Nat.lt_of_lt_of_le HLL.out hbq.size)
  have HRL := Lib.hid (Nat.lt_of_lt_of_le HRL.out hbq.size)
  have CL0 := Lib.hid ((hbq.cell (p := ⟨lg, 0, none⟩) hll).trans CL0.out)
  have CL1 := Lib.hid ((hbq.cell (p := ⟨lg, 1, none⟩) hll).trans CL1.out)
  have CR0 := Lib.hid ((hbq.cell (p := ⟨rg, 0, none⟩) hrl).trans CR0.out)
  have CR1 := Lib.hid ((hbq.cell (p := ⟨rg, 1, none⟩) hrl).trans CR1.out)
  have C0 := Lib.hid ((hbq.cell (p := ⟨g, 0, none⟩) hgl).trans C0.out)
  have C1 := Lib.hid ((hbq.cell (p := ⟨g, 1, none⟩) hgl).trans C1.out)
  have CK : Hid (q.cell? ⟨jk, i, none⟩ = some (.pointer (some ⟨lg, 0, none⟩)) ∧ q.frozen? ⟨jk, i, none⟩ = false) := Lib.hid ⟨(hbq.cell (p := ⟨jk, i, none⟩) hjl).trans CK.out.1, ((Kept.of_below (fun _ => False) hbq).frozen (p := ⟨jk, i, none⟩) hjl (fun h => h)).trans CK.out.2⟩
  have HGL := Lib.hid (Nat.lt_of_lt_of_le HGL.out hbq.size)
  have HJL := Lib.hid (Nat.lt_of_lt_of_le HJL.out hbq.size)
  have HON := Lib.hid (HON.out.under hbq)
  have HKD : Hid (∀ k, k ∈ JK → NdD (Off D w0.heap.size g (some jp) (some jk)) q k) := Lib.hid (fun k hk => (HKD.out k hk).under hbq)
  have HLP := Lib.hid (HLP.out.below hbq)
  have HRP := Lib.hid (HRP.out.below hbq)
  have HLK := Lib.hid (HLK.out.below hbq)
  have HRK := Lib.hid (HRK.out.below hbq)
  have HMP := Lib.hid (HMP.out.below hbq)
  clear hbq hll hrl hgl hjl c0 c1 cl0 cl1 cr0 cr1 ci ci1
  refine Roll.region_f 35 80 Djn1 Ljn1 [(0, .pointer (some ⟨g, 0, none⟩)), (1, .int .i64 (i : Int)), (4, .pointer (some ⟨lg, 0, none⟩)), (5, .pointer (some ⟨rg, 0, none⟩))] (fun p => Below q.heap.size q p) (fun p p2 => Below p.heap.size p p2) [fun vv p => vv = .pointer (some ⟨g, 0, none⟩), fun vv p => vv = .pointer (some ⟨g, 0, none⟩), fun vv p => vv = .pointer (some ⟨g, 1, none⟩), fun vv p => vv = .slice (some ⟨jk, 0, none⟩) kn kc, fun vv p => vv = .int .i64 (i : Int), fun vv p => vv = .pointer (some ⟨lg, 0, none⟩), fun vv p => vv = .pointer (some ⟨lg, 0, none⟩), fun vv p => vv = .pointer (some ⟨lg, 0, none⟩), fun vv p => vv = .slice aL nL cL, fun vv p => vv = .pointer (some ⟨g, 0, none⟩), fun vv p => vv = .pointer (some ⟨g, 0, none⟩), fun vv p => vv = .pointer (some ⟨g, 0, none⟩), fun vv p => vv = .slice (some ⟨jp, 0, none⟩) (nv + 1) cv, fun vv p => vv = .int .i64 (i : Int), fun vv p => vv = .int .i64 (i : Int), fun vv p => vv = .int .i64 ((i : Int) + 1), fun vv p => vv = .slice (some ⟨jp, i * 2, none⟩) 1 (cv - i), fun vv p => vv = .pointer (some ⟨rg, 0, none⟩), fun vv p => vv = .pointer (some ⟨rg, 0, none⟩), fun vv p => vv = .pointer (some ⟨rg, 0, none⟩), fun vv p => vv = .slice aR nR cR, fun vv p => ∃ x, vv = .slice (some ⟨x, 0, none⟩) 3 3 ∧ x < p.heap.size ∧ p.heap[x]? = some (.cells #[.slice aL nL cL, .slice (some ⟨jp, i * 2, none⟩) 1 (cv - i), .slice aR nR cR] 26 (0, 0)), fun vv p => ∃ k a c, vv = .slice a JP.length c ∧ Own p 65 2 k (.slice a JP.length c) JP.length (pcells JP) ∧ (∀ j, k = some j → q.heap.size ≤ j), fun vv p => vv = .pointer (some ⟨lg, 0, none⟩), fun vv p => vv = .pointer (some ⟨lg, 0, none⟩), fun vv p => vv = .pointer (some ⟨lg, 1, none⟩), fun vv p => vv = .slice bL mL eL, fun vv p => vv = .pointer (some ⟨rg, 0, none⟩), fun vv p => vv = .pointer (some ⟨rg, 0, none⟩), fun vv p => vv = .pointer (some ⟨rg, 1, none⟩), fun vv p => vv = .slice bR mR eR, fun vv p => ∃ x, vv = .slice (some ⟨x, 0, none⟩) 2 2 ∧ x < p.heap.size ∧ p.heap[x]? = some (.cells #[.slice bL mL eL, .slice bR mR eR] 92 (0, 0)), fun vv p => ∃ k a c, vv = .slice a JK.length c ∧ Own p 85 1 k (.slice a JK.length c) JK.length (pnts (JK.map BT.g)) ∧ (∀ j, k = some j → q.heap.size ≤ j), fun vv p => ∃ k1 a1 c1 k2 a2 c2, vv = .agg #[.slice a1 JP.length c1, .slice a2 JK.length c2] ∧ Own p 65 2 k1 (.slice a1 JP.length c1) JP.length (pcells JP) ∧ (∀ j, k1 = some j → q.heap.size ≤ j) ∧ Own p 85 1 k2 (.slice a2 JK.length c2) JK.length (pnts (JK.map BT.g)) ∧ (∀ j, k2 = some j → q.heap.size ≤ j), fun vv p => ∃ gj, vv = .pointer (some ⟨gj, 0, none⟩) ∧ NdD (fun b => Off D w0.heap.size g (some jp) (some jk) b ∨ q.heap.size ≤ b) p (.mk gj JP JK)] (by kernel_rfl) (by kernel_rfl) rfl ⟨rfl, rfl, rfl, rfl, trivial⟩ ((Below.refl _ _).drew) ?_ ?_ ?_
  · exact ⟨fun _ _ _ _ h => h, fun _ _ _ _ h => h, fun _ _ _ _ h => h, fun _ _ _ _ h => h, fun _ _ _ _ h => h, fun _ _ _ _ h => h, fun _ _ _ _ h => h, fun _ _ _ _ h => h, fun _ _ _ _ h => h, fun _ _ _ _ h => h, fun _ _ _ _ h => h, fun _ _ _ _ h => h, fun _ _ _ _ h => h, fun _ _ _ _ h => h, fun _ _ _ _ h => h, fun _ _ _ _ h => h, fun _ _ _ _ h => h, fun _ _ _ _ h => h, fun _ _ _ _ h => h, fun _ _ _ _ h => h, fun _ _ _ _ h => h, fun _ _ _ hs h => by obtain ⟨x, e1, e2, e3⟩ := h; exact ⟨x, e1, Nat.lt_of_lt_of_le e2 hs.size, (hs.block x e2).trans e3⟩, fun _ _ _ hs h => by obtain ⟨k, a, c, e1, e2, e3⟩ := h; exact ⟨k, a, c, e1, e2.kept (Kept.of_below (fun _ => False) hs) (fun _ _ h => h), e3⟩, fun _ _ _ _ h => h, fun _ _ _ _ h => h, fun _ _ _ _ h => h, fun _ _ _ _ h => h, fun _ _ _ _ h => h, fun _ _ _ _ h => h, fun _ _ _ _ h => h, fun _ _ _ _ h => h, fun _ _ _ hs h => by obtain ⟨x, e1, e2, e3⟩ := h; exact ⟨x, e1, Nat.lt_of_lt_of_le e2 hs.size, (hs.block x e2).trans e3⟩, fun _ _ _ hs h => by obtain ⟨k, a, c, e1, e2, e3⟩ := h; exact ⟨k, a, c, e1, e2.kept (Kept.of_below (fun _ => False) hs) (fun _ _ h => h), e3⟩, fun _ _ _ hs h => by obtain ⟨k1, a1, c1, k2, a2, c2, e1, e2, e3, e4, e5⟩ := h; exact ⟨k1, a1, c1, k2, a2, c2, e1, e2.kept (Kept.of_below (fun _ => False) hs) (fun _ _ h => h), e3, e4.kept (Kept.of_below (fun _ => False) hs) (fun _ _ h => h), e5⟩, fun _ _ _ hs h => by obtain ⟨c, e1, e2⟩ := h; exact ⟨c, e1, e2.under hs⟩, trivial⟩
  · intro b0 hN hlv
    refine ⟨?_, ?_, ?_, ?_, ?_, ?_, ?_, ?_, ?_, ?_, ?_, ?_, ?_, ?_, ?_, ?_, ?_, ?_, ?_, ?_, ?_, ?_, ?_, ?_, ?_, ?_, ?_, ?_, ?_, ?_, ?_, ?_, ?_, ?_, ?_, trivial⟩
    · intro vs p hI hp
      have e0 : (Roll.putD Djn1 vs [] b0).eval (.tmp 0) = .pointer (some ⟨g, 0, none⟩) := (Roll.eval_old rfl).trans (hlv.at 0 (0, .pointer (some ⟨g, 0, none⟩)) rfl)
      clear hp hlv hN
      unfold Roll.Goes
      simp only [Ljn1, List.getD_cons_zero, List.getD_cons_succ]
      generalize Roll.putD Djn1 vs [] b0 = a1 at *
      refine Roll.goes_val (w' := p) (.pointer (some ⟨g, 0, none⟩)) rfl ?_ ⟨hI, Below.refl _ _, rfl⟩
      (have ec : ∀ x, a1.eval (.const x) = x := fun _ => rfl); (have ef : ∀ x, a1.eval (.func x) = .func (.func x) #[] #[] := fun _ => rfl); generalize a1.eval = ρ at *
      skip
      go_simp <;> (intros; first | (exfalso; omega) | rfl)
    · intro vs p hI hp
      have h0 : (vs 0) = .pointer (some ⟨g, 0, none⟩) := hp 0 (by simp [Ljn1])
      have e21 : (Roll.putD Djn1 vs [0] b0).eval (.tmp 21) = .pointer (some ⟨g, 0, none⟩) := (Roll.eval_new 0 rfl (by decide) (by decide) (by omega)).trans h0
      clear hp hlv hN
      unfold Roll.Goes
      simp only [Ljn1, List.getD_cons_zero, List.getD_cons_succ]
      generalize Roll.putD Djn1 vs [0] b0 = a1 at *
      refine Roll.goes_val (w' := p) (.pointer (some ⟨g, 0, none⟩)) rfl ?_ ⟨hI, Below.refl _ _, rfl⟩
      (have ec : ∀ x, a1.eval (.const x) = x := fun _ => rfl); (have ef : ∀ x, a1.eval (.func x) = .func (.func x) #[] #[] := fun _ => rfl); generalize a1.eval = ρ at *
      clear h0
      go_simp <;> (intros; first | (exfalso; omega) | rfl)
    · intro vs p hI hp
      have h1 : (vs 1) = .pointer (some ⟨g, 0, none⟩) := hp 1 (by simp [Ljn1])
      have e22 : (Roll.putD Djn1 vs [1] b0).eval (.tmp 22) = .pointer (some ⟨g, 0, none⟩) := (Roll.eval_new 1 rfl (by decide) (by decide) (by omega)).trans h1
      clear hp hlv hN
      unfold Roll.Goes
      simp only [Ljn1, List.getD_cons_zero, List.getD_cons_succ]
      generalize Roll.putD Djn1 vs [1] b0 = a1 at *
      refine Roll.goes_val (w' := p) (.pointer (some ⟨g, 1, none⟩)) rfl ?_ ⟨hI, Below.refl _ _, rfl⟩
      (have ec : ∀ x, a1.eval (.const x) = x := fun _ => rfl); (have ef : ∀ x, a1.eval (.func x) = .func (.func x) #[] #[] := fun _ => rfl); generalize a1.eval = ρ at *
      clear h1
      go_simp <;> (intros; first | (exfalso; omega) | rfl)
    · intro vs p hI hp
      have h2 : (vs 2) = .pointer (some ⟨g, 1, none⟩) := hp 2 (by simp [Ljn1])
      have e23 : (Roll.putD Djn1 vs [2] b0).eval (.tmp 23) = .pointer (some ⟨g, 1, none⟩) := (Roll.eval_new 2 rfl (by decide) (by decide) (by omega)).trans h2
      clear hp hlv hN
      unfold Roll.Goes
      simp only [Ljn1, List.getD_cons_zero, List.getD_cons_succ]
      generalize Roll.putD Djn1 vs [2] b0 = a1 at *
      have cf : p.cell? ⟨g, 1, none⟩ = some (.slice (some ⟨jk, 0, none⟩) kn kc) := (hI.cell (p := ⟨g, 1, none⟩) HGL.out).trans C1.out
      refine Roll.goes_val (w' := p) (.slice (some ⟨jk, 0, none⟩) kn kc) rfl ?_ ⟨hI, Below.refl _ _, rfl⟩
      (have ec : ∀ x, a1.eval (.const x) = x := fun _ => rfl); (have ef : ∀ x, a1.eval (.func x) = .func (.func x) #[] #[] := fun _ => rfl); generalize a1.eval = ρ at *
      clear h2
      go_simp <;> (intros; first | (exfalso; omega) | rfl)
    · intro vs p hI hp
      have e1 : (Roll.putD Djn1 vs [] b0).eval (.tmp 1) = .int .i64 (i : Int) := (Roll.eval_old rfl).trans (hlv.at 1 (1, .int .i64 (i : Int)) rfl)
      clear hp hlv hN
      unfold Roll.Goes
      simp only [Ljn1, List.getD_cons_zero, List.getD_cons_succ]
      generalize Roll.putD Djn1 vs [] b0 = a1 at *
      refine Roll.goes_val (w' := p) (.int .i64 (i : Int)) rfl ?_ ⟨hI, Below.refl _ _, rfl⟩
      (have ec : ∀ x, a1.eval (.const x) = x := fun _ => rfl); (have ef : ∀ x, a1.eval (.func x) = .func (.func x) #[] #[] := fun _ => rfl); generalize a1.eval = ρ at *
      skip
      go_simp <;> (intros; first | (exfalso; omega) | rfl)
    · intro vs p hI hp
      have e4 : (Roll.putD Djn1 vs [] b0).eval (.tmp 4) = .pointer (some ⟨lg, 0, none⟩) := (Roll.eval_old rfl).trans (hlv.at 2 (4, .pointer (some ⟨lg, 0, none⟩)) rfl)
      clear hp hlv hN
      unfold Roll.Goes
      simp only [Ljn1, List.getD_cons_zero, List.getD_cons_succ]
      generalize Roll.putD Djn1 vs [] b0 = a1 at *
      refine Roll.goes_val (w' := p) (.pointer (some ⟨lg, 0, none⟩)) rfl ?_ ⟨hI, Below.refl _ _, rfl⟩
      (have ec : ∀ x, a1.eval (.const x) = x := fun _ => rfl); (have ef : ∀ x, a1.eval (.func x) = .func (.func x) #[] #[] := fun _ => rfl); generalize a1.eval = ρ at *
      skip
      go_simp <;> (intros; first | (exfalso; omega) | rfl)
    · intro vs p hI hp
      have h5 : (vs 5) = .pointer (some ⟨lg, 0, none⟩) := hp 5 (by simp [Ljn1])
      have e26 : (Roll.putD Djn1 vs [5] b0).eval (.tmp 26) = .pointer (some ⟨lg, 0, none⟩) := (Roll.eval_new 5 rfl (by decide) (by decide) (by omega)).trans h5
      clear hp hlv hN
      unfold Roll.Goes
      simp only [Ljn1, List.getD_cons_zero, List.getD_cons_succ]
      generalize Roll.putD Djn1 vs [5] b0 = a1 at *
      refine Roll.goes_val (w' := p) (.pointer (some ⟨lg, 0, none⟩)) rfl ?_ ⟨hI, Below.refl _ _, rfl⟩
      (have ec : ∀ x, a1.eval (.const x) = x := fun _ => rfl); (have ef : ∀ x, a1.eval (.func x) = .func (.func x) #[] #[] := fun _ => rfl); generalize a1.eval = ρ at *
      clear h5
      go_simp <;> (intros; first | (exfalso; omega) | rfl)
    · intro vs p hI hp
      have h6 : (vs 6) = .pointer (some ⟨lg, 0, none⟩) := hp 6 (by simp [Ljn1])
      have e27 : (Roll.putD Djn1 vs [6] b0).eval (.tmp 27) = .pointer (some ⟨lg, 0, none⟩) := (Roll.eval_new 6 rfl (by decide) (by decide) (by omega)).trans h6
      clear hp hlv hN
      unfold Roll.Goes
      simp only [Ljn1, List.getD_cons_zero, List.getD_cons_succ]
      generalize Roll.putD Djn1 vs [6] b0 = a1 at *
      refine Roll.goes_val (w' := p) (.pointer (some ⟨lg, 0, none⟩)) rfl ?_ ⟨hI, Below.refl _ _, rfl⟩
      (have ec : ∀ x, a1.eval (.const x) = x := fun _ => rfl); (have ef : ∀ x, a1.eval (.func x) = .func (.func x) #[] #[] := fun _ => rfl); generalize a1.eval = ρ at *
      clear h6
      go_simp <;> (intros; first | (exfalso; omega) | rfl)
    · intro vs p hI hp
      have h7 : (vs 7) = .pointer (some ⟨lg, 0, none⟩) := hp 7 (by simp [Ljn1])
      have e28 : (Roll.putD Djn1 vs [7] b0).eval (.tmp 28) = .pointer (some ⟨lg, 0, none⟩) := (Roll.eval_new 7 rfl (by decide) (by decide) (by omega)).trans h7
      clear hp hlv hN
      unfold Roll.Goes
      simp only [Ljn1, List.getD_cons_zero, List.getD_cons_succ]
      generalize Roll.putD Djn1 vs [7] b0 = a1 at *
      have cf : p.cell? ⟨lg, 0, none⟩ = some (.slice aL nL cL) := (hI.cell (p := ⟨lg, 0, none⟩) HLL.out).trans CL0.out
      refine Roll.goes_val (w' := p) (.slice aL nL cL) rfl ?_ ⟨hI, Below.refl _ _, rfl⟩
      (have ec : ∀ x, a1.eval (.const x) = x := fun _ => rfl); (have ef : ∀ x, a1.eval (.func x) = .func (.func x) #[] #[] := fun _ => rfl); generalize a1.eval = ρ at *
      clear h7
      go_simp <;> (intros; first | (exfalso; omega) | rfl)
    · intro vs p hI hp
      have e0 : (Roll.putD Djn1 vs [] b0).eval (.tmp 0) = .pointer (some ⟨g, 0, none⟩) := (Roll.eval_old rfl).trans (hlv.at 0 (0, .pointer (some ⟨g, 0, none⟩)) rfl)
      clear hp hlv hN
      unfold Roll.Goes
      simp only [Ljn1, List.getD_cons_zero, List.getD_cons_succ]
      generalize Roll.putD Djn1 vs [] b0 = a1 at *
      refine Roll.goes_val (w' := p) (.pointer (some ⟨g, 0, none⟩)) rfl ?_ ⟨hI, Below.refl _ _, rfl⟩
      (have ec : ∀ x, a1.eval (.const x) = x := fun _ => rfl); (have ef : ∀ x, a1.eval (.func x) = .func (.func x) #[] #[] := fun _ => rfl); generalize a1.eval = ρ at *
      skip
      go_simp <;> (intros; first | (exfalso; omega) | rfl)
    · intro vs p hI hp
      have h9 : (vs 9) = .pointer (some ⟨g, 0, none⟩) := hp 9 (by simp [Ljn1])
      have e30 : (Roll.putD Djn1 vs [9] b0).eval (.tmp 30) = .pointer (some ⟨g, 0, none⟩) := (Roll.eval_new 9 rfl (by decide) (by decide) (by omega)).trans h9
      clear hp hlv hN
      unfold Roll.Goes
      simp only [Ljn1, List.getD_cons_zero, List.getD_cons_succ]
      generalize Roll.putD Djn1 vs [9] b0 = a1 at *
      refine Roll.goes_val (w' := p) (.pointer (some ⟨g, 0, none⟩)) rfl ?_ ⟨hI, Below.refl _ _, rfl⟩
      (have ec : ∀ x, a1.eval (.const x) = x := fun _ => rfl); (have ef : ∀ x, a1.eval (.func x) = .func (.func x) #[] #[] := fun _ => rfl); generalize a1.eval = ρ at *
      clear h9
      go_simp <;> (intros; first | (exfalso; omega) | rfl)
    · intro vs p hI hp
      have h10 : (vs 10) = .pointer (some ⟨g, 0, none⟩) := hp 10 (by simp [Ljn1])
      have e31 : (Roll.putD Djn1 vs [10] b0).eval (.tmp 31) = .pointer (some ⟨g, 0, none⟩) := (Roll.eval_new 10 rfl (by decide) (by decide) (by omega)).trans h10
      clear hp hlv hN
      unfold Roll.Goes
      simp only [Ljn1, List.getD_cons_zero, List.getD_cons_succ]
      generalize Roll.putD Djn1 vs [10] b0 = a1 at *
      refine Roll.goes_val (w' := p) (.pointer (some ⟨g, 0, none⟩)) rfl ?_ ⟨hI, Below.refl _ _, rfl⟩
      (have ec : ∀ x, a1.eval (.const x) = x := fun _ => rfl); (have ef : ∀ x, a1.eval (.func x) = .func (.func x) #[] #[] := fun _ => rfl); generalize a1.eval = ρ at *
      clear h10
      go_simp <;> (intros; first | (exfalso; omega) | rfl)
    · intro vs p hI hp
      have h11 : (vs 11) = .pointer (some ⟨g, 0, none⟩) := hp 11 (by simp [Ljn1])
      have e32 : (Roll.putD Djn1 vs [11] b0).eval (.tmp 32) = .pointer (some ⟨g, 0, none⟩) := (Roll.eval_new 11 rfl (by decide) (by decide) (by omega)).trans h11
      clear hp hlv hN
      unfold Roll.Goes
      simp only [Ljn1, List.getD_cons_zero, List.getD_cons_succ]
      generalize Roll.putD Djn1 vs [11] b0 = a1 at *
      have cf : p.cell? ⟨g, 0, none⟩ = some (.slice (some ⟨jp, 0, none⟩) (nv + 1) cv) := (hI.cell (p := ⟨g, 0, none⟩) HGL.out).trans C0.out
      refine Roll.goes_val (w' := p) (.slice (some ⟨jp, 0, none⟩) (nv + 1) cv) rfl ?_ ⟨hI, Below.refl _ _, rfl⟩
      (have ec : ∀ x, a1.eval (.const x) = x := fun _ => rfl); (have ef : ∀ x, a1.eval (.func x) = .func (.func x) #[] #[] := fun _ => rfl); generalize a1.eval = ρ at *
      clear h11
      go_simp <;> (intros; first | (exfalso; omega) | rfl)
    · intro vs p hI hp
      have e1 : (Roll.putD Djn1 vs [] b0).eval (.tmp 1) = .int .i64 (i : Int) := (Roll.eval_old rfl).trans (hlv.at 1 (1, .int .i64 (i : Int)) rfl)
      clear hp hlv hN
      unfold Roll.Goes
      simp only [Ljn1, List.getD_cons_zero, List.getD_cons_succ]
      generalize Roll.putD Djn1 vs [] b0 = a1 at *
      refine Roll.goes_val (w' := p) (.int .i64 (i : Int)) rfl ?_ ⟨hI, Below.refl _ _, rfl⟩
      (have ec : ∀ x, a1.eval (.const x) = x := fun _ => rfl); (have ef : ∀ x, a1.eval (.func x) = .func (.func x) #[] #[] := fun _ => rfl); generalize a1.eval = ρ at *
      skip
      go_simp <;> (intros; first | (exfalso; omega) | rfl)
    · intro vs p hI hp
      have e1 : (Roll.putD Djn1 vs [] b0).eval (.tmp 1) = .int .i64 (i : Int) := (Roll.eval_old rfl).trans (hlv.at 1 (1, .int .i64 (i : Int)) rfl)
      clear hp hlv hN
      unfold Roll.Goes
      simp only [Ljn1, List.getD_cons_zero, List.getD_cons_succ]
      generalize Roll.putD Djn1 vs [] b0 = a1 at *
      refine Roll.goes_val (w' := p) (.int .i64 (i : Int)) rfl ?_ ⟨hI, Below.refl _ _, rfl⟩
      (have ec : ∀ x, a1.eval (.const x) = x := fun _ => rfl); (have ef : ∀ x, a1.eval (.func x) = .func (.func x) #[] #[] := fun _ => rfl); generalize a1.eval = ρ at *
      skip
      go_simp <;> (intros; first | (exfalso; omega) | rfl)
    · intro vs p hI hp
      have h14 : (vs 14) = .int .i64 (i : Int) := hp 14 (by simp [Ljn1])
      have e35 : (Roll.putD Djn1 vs [14] b0).eval (.tmp 35) = .int .i64 (i : Int) := (Roll.eval_new 14 rfl (by decide) (by decide) (by omega)).trans h14
      clear hp hlv hN
      unfold Roll.Goes
      simp only [Ljn1, List.getD_cons_zero, List.getD_cons_succ]
      generalize Roll.putD Djn1 vs [14] b0 = a1 at *
      refine Roll.goes_val (w' := p) (.int .i64 ((i : Int) + 1)) rfl ?_ ⟨hI, Below.refl _ _, rfl⟩
      (have ec : ∀ x, a1.eval (.const x) = x := fun _ => rfl); (have ef : ∀ x, a1.eval (.func x) = .func (.func x) #[] #[] := fun _ => rfl); generalize a1.eval = ρ at *
      clear h14
      go_simp <;> (intros; first | (exfalso; omega) | rfl)
    · intro vs p hI hp
      have h12 : (vs 12) = .slice (some ⟨jp, 0, none⟩) (nv + 1) cv := hp 12 (by simp [Ljn1])
      have h13 : (vs 13) = .int .i64 (i : Int) := hp 13 (by simp [Ljn1])
      have h15 : (vs 15) = .int .i64 ((i : Int) + 1) := hp 15 (by simp [Ljn1])
      have e33 : (Roll.putD Djn1 vs [12, 13, 15] b0).eval (.tmp 33) = .slice (some ⟨jp, 0, none⟩) (nv + 1) cv := (Roll.eval_new 12 rfl (by decide) (by decide) (by omega)).trans h12
      have e34 : (Roll.putD Djn1 vs [12, 13, 15] b0).eval (.tmp 34) = .int .i64 (i : Int) := (Roll.eval_new 13 rfl (by decide) (by decide) (by omega)).trans h13
      have e36 : (Roll.putD Djn1 vs [12, 13, 15] b0).eval (.tmp 36) = .int .i64 ((i : Int) + 1) := (Roll.eval_new 15 rfl (by decide) (by decide) (by omega)).trans h15
      clear hp hlv hN
      unfold Roll.Goes
      simp only [Ljn1, List.getD_cons_zero, List.getD_cons_succ]
      generalize Roll.putD Djn1 vs [12, 13, 15] b0 = a1 at *
      refine Roll.goes_val (w' := p) (.slice (some ⟨jp, i * 2, none⟩) 1 (cv - i)) rfl ?_ ⟨hI, Below.refl _ _, rfl⟩
      (have ec : ∀ x, a1.eval (.const x) = x := fun _ => rfl); (have ef : ∀ x, a1.eval (.func x) = .func (.func x) #[] #[] := fun _ => rfl); generalize a1.eval = ρ at *
      clear h12 h13 h15
      go_simp <;> (intros; first | (exfalso; omega) | rfl)
    · intro vs p hI hp
      have e5 : (Roll.putD Djn1 vs [] b0).eval (.tmp 5) = .pointer (some ⟨rg, 0, none⟩) := (Roll.eval_old rfl).trans (hlv.at 3 (5, .pointer (some ⟨rg, 0, none⟩)) rfl)
      clear hp hlv hN
      unfold Roll.Goes
      simp only [Ljn1, List.getD_cons_zero, List.getD_cons_succ]
      generalize Roll.putD Djn1 vs [] b0 = a1 at *
      refine Roll.goes_val (w' := p) (.pointer (some ⟨rg, 0, none⟩)) rfl ?_ ⟨hI, Below.refl _ _, rfl⟩
      (have ec : ∀ x, a1.eval (.const x) = x := fun _ => rfl); (have ef : ∀ x, a1.eval (.func x) = .func (.func x) #[] #[] := fun _ => rfl); generalize a1.eval = ρ at *
      skip
      go_simp <;> (intros; first | (exfalso; omega) | rfl)
    · intro vs p hI hp
      have h17 : (vs 17) = .pointer (some ⟨rg, 0, none⟩) := hp 17 (by simp [Ljn1])
      have e38 : (Roll.putD Djn1 vs [17] b0).eval (.tmp 38) = .pointer (some ⟨rg, 0, none⟩) := (Roll.eval_new 17 rfl (by decide) (by decide) (by omega)).trans h17
      clear hp hlv hN
      unfold Roll.Goes
      simp only [Ljn1, List.getD_cons_zero, List.getD_cons_succ]
      generalize Roll.putD Djn1 vs [17] b0 = a1 at *
      refine Roll.goes_val (w' := p) (.pointer (some ⟨rg, 0, none⟩)) rfl ?_ ⟨hI, Below.refl _ _, rfl⟩
      (have ec : ∀ x, a1.eval (.const x) = x := fun _ => rfl); (have ef : ∀ x, a1.eval (.func x) = .func (.func x) #[] #[] := fun _ => rfl); generalize a1.eval = ρ at *
      clear h17
      go_simp <;> (intros; first | (exfalso; omega) | rfl)
    · intro vs p hI hp
      have h18 : (vs 18) = .pointer (some ⟨rg, 0, none⟩) := hp 18 (by simp [Ljn1])
      have e39 : (Roll.putD Djn1 vs [18] b0).eval (.tmp 39) = .pointer (some ⟨rg, 0, none⟩) := (Roll.eval_new 18 rfl (by decide) (by decide) (by omega)).trans h18
      clear hp hlv hN
      unfold Roll.Goes
      simp only [Ljn1, List.getD_cons_zero, List.getD_cons_succ]
      generalize Roll.putD Djn1 vs [18] b0 = a1 at *
      refine Roll.goes_val (w' := p) (.pointer (some ⟨rg, 0, none⟩)) rfl ?_ ⟨hI, Below.refl _ _, rfl⟩
      (have ec : ∀ x, a1.eval (.const x) = x := fun _ => rfl); (have ef : ∀ x, a1.eval (.func x) = .func (.func x) #[] #[] := fun _ => rfl); generalize a1.eval = ρ at *
      clear h18
      go_simp <;> (intros; first | (exfalso; omega) | rfl)
    · intro vs p hI hp
      have h19 : (vs 19) = .pointer (some ⟨rg, 0, none⟩) := hp 19 (by simp [Ljn1])
      have e40 : (Roll.putD Djn1 vs [19] b0).eval (.tmp 40) = .pointer (some ⟨rg, 0, none⟩) := (Roll.eval_new 19 rfl (by decide) (by decide) (by omega)).trans h19
      clear hp hlv hN
      unfold Roll.Goes
      simp only [Ljn1, List.getD_cons_zero, List.getD_cons_succ]
      generalize Roll.putD Djn1 vs [19] b0 = a1 at *
      have cf : p.cell? ⟨rg, 0, none⟩ = some (.slice aR nR cR) := (hI.cell (p := ⟨rg, 0, none⟩) HRL.out).trans CR0.out
      refine Roll.goes_val (w' := p) (.slice aR nR cR) rfl ?_ ⟨hI, Below.refl _ _, rfl⟩
      (have ec : ∀ x, a1.eval (.const x) = x := fun _ => rfl); (have ef : ∀ x, a1.eval (.func x) = .func (.func x) #[] #[] := fun _ => rfl); generalize a1.eval = ρ at *
      clear h19
      go_simp <;> (intros; first | (exfalso; omega) | rfl)
    · intro vs p hI hp
      have h8 : (vs 8) = .slice aL nL cL := hp 8 (by simp [Ljn1])
      have h16 : (vs 16) = .slice (some ⟨jp, i * 2, none⟩) 1 (cv - i) := hp 16 (by simp [Ljn1])
      have h20 : (vs 20) = .slice aR nR cR := hp 20 (by simp [Ljn1])
      have e29 : (Roll.putD Djn1 vs [8, 16, 20] b0).eval (.tmp 29) = .slice aL nL cL := (Roll.eval_new 8 rfl (by decide) (by decide) (by omega)).trans h8
      have e37 : (Roll.putD Djn1 vs [8, 16, 20] b0).eval (.tmp 37) = .slice (some ⟨jp, i * 2, none⟩) 1 (cv - i) := (Roll.eval_new 16 rfl (by decide) (by decide) (by omega)).trans h16
      have e41 : (Roll.putD Djn1 vs [8, 16, 20] b0).eval (.tmp 41) = .slice aR nR cR := (Roll.eval_new 20 rfl (by decide) (by decide) (by omega)).trans h20
      clear hp hlv hN
      unfold Roll.Goes
      simp only [Ljn1, List.getD_cons_zero, List.getD_cons_succ]
      generalize Roll.putD Djn1 vs [8, 16, 20] b0 = a1 at *
      have hal : Below p.heap.size p (p.alloc (.cells #[.slice aL nL cL, .slice (some ⟨jp, i * 2, none⟩) 1 (cv - i), .slice aR nR cR] 26)) := (Below.refl _ _).alloc (Nat.le_refl _) _
      refine Roll.goes_val (w' := p.alloc (.cells #[.slice aL nL cL, .slice (some ⟨jp, i * 2, none⟩) 1 (cv - i), .slice aR nR cR] 26)) (.slice (some ⟨p.heap.size, 0, none⟩) 3 3) rfl (by have ec : ∀ x, a1.eval (.const x) = x := fun _ => rfl; have ef : ∀ x, a1.eval (.func x) = .func (.func x) #[] #[] := fun _ => rfl; have hbs := run_bs3P; generalize a1.eval = ρ at *; go_simp <;> (intros; first | (exfalso; omega) | rfl)) ⟨hI.trans (hal.mono hI.size), hal, p.heap.size, rfl, by simp, heap_new rfl⟩
    · intro vs p hI hp
      have h21 : ∃ x, (vs 21) = .slice (some ⟨x, 0, none⟩) 3 3 ∧ x < p.heap.size ∧ p.heap[x]? = some (.cells #[.slice aL nL cL, .slice (some ⟨jp, i * 2, none⟩) 1 (cv - i), .slice aR nR cR] 26 (0, 0)) := hp 21 (by simp [Ljn1])
      have e42 : (Roll.putD Djn1 vs [21] b0).eval (.tmp 42) = vs 21 := (Roll.eval_new 21 rfl (by decide) (by decide) (by omega))
      clear hp hlv hN
      unfold Roll.Goes
      simp only [Ljn1, List.getD_cons_zero, List.getD_cons_succ]
      generalize Roll.putD Djn1 vs [21] b0 = a1 at *
      obtain ⟨x, hvx, hxl, hhx⟩ := h21
      rw [hvx] at e42
      refine Roll.goes_call 90 #[.slice (some ⟨x, 0, none⟩) 3 3] p rfl (by have ec : ∀ x, a1.eval (.const x) = x := fun _ => rfl; have ef : ∀ x, a1.eval (.func x) = .func (.func x) #[] #[] := fun _ => rfl; generalize a1.eval = ρ at *; go_simp) ?_
      refine (concatP_any [⟨aL, nL, cL, pcells L.ps⟩, ⟨some ⟨jp, i * 2, none⟩, 1, cv - i, M.cells⟩, ⟨aR, nR, cR, pcells R.ps⟩] x p ⟨fun j hj => ?_, fun y hy => ?_⟩ hxl (by simp) (by have := HSZ.out; simp [pceN]; omega)).mono ?_
      · have : j = 0 ∨ j = 1 ∨ j = 2 := by simp at hj; omega
        rcases this with rfl | rfl | rfl <;> rw [cell_of_row p x _ _ _ _ hhx] <;> rfl
      · have hy : y = ⟨aL, nL, cL, pcells L.ps⟩ ∨ y = ⟨some ⟨jp, i * 2, none⟩, 1, cv - i, M.cells⟩ ∨ y = ⟨aR, nR, cR, pcells R.ps⟩ := by simpa using hy
        rcases hy with rfl | rfl | rfl
        · exact ⟨(HLP.out.below hI).2, pcells_one L.ps⟩
        · exact ⟨by have := (HMP.out.below hI).2; simpa [pcells] using this, fun u hu => by simp [KV.cells] at hu; rcases hu with rfl | rfl <;> rfl⟩
        · exact ⟨(HRP.out.below hI).2, pcells_one R.ps⟩
      · rintro y p2 ⟨v, rfl, k, ho, hnw, hb⟩
        have e1 : pceN [⟨aL, nL, cL, pcells L.ps⟩, ⟨some ⟨jp, i * 2, none⟩, 1, cv - i, M.cells⟩, ⟨aR, nR, cR, pcells R.ps⟩] = JP.length := by rw [HJP.out]; have := HSZ.out; simp [pceN]; omega
        have e2 : pceL [⟨aL, nL, cL, pcells L.ps⟩, ⟨some ⟨jp, i * 2, none⟩, 1, cv - i, M.cells⟩, ⟨aR, nR, cR, pcells R.ps⟩] = pcells JP := by rw [HJP.out, pcells_app, pcells_cons]; simp [pceL]
        rw [e1, e2] at ho
        obtain ⟨a, c, rfl, -⟩ := id ho.sl
        exact ⟨_, rfl, hI.trans (hb.mono hI.size), hb, k, a, c, rfl, ho, fun j hj => Nat.le_trans hI.size (hnw j hj)⟩
    · intro vs p hI hp
      have e4 : (Roll.putD Djn1 vs [] b0).eval (.tmp 4) = .pointer (some ⟨lg, 0, none⟩) := (Roll.eval_old rfl).trans (hlv.at 2 (4, .pointer (some ⟨lg, 0, none⟩)) rfl)
      clear hp hlv hN
      unfold Roll.Goes
      simp only [Ljn1, List.getD_cons_zero, List.getD_cons_succ]
      generalize Roll.putD Djn1 vs [] b0 = a1 at *
      refine Roll.goes_val (w' := p) (.pointer (some ⟨lg, 0, none⟩)) rfl ?_ ⟨hI, Below.refl _ _, rfl⟩
      (have ec : ∀ x, a1.eval (.const x) = x := fun _ => rfl); (have ef : ∀ x, a1.eval (.func x) = .func (.func x) #[] #[] := fun _ => rfl); generalize a1.eval = ρ at *
      skip
      go_simp <;> (intros; first | (exfalso; omega) | rfl)
    · intro vs p hI hp
      have h23 : (vs 23) = .pointer (some ⟨lg, 0, none⟩) := hp 23 (by simp [Ljn1])
      have e44 : (Roll.putD Djn1 vs [23] b0).eval (.tmp 44) = .pointer (some ⟨lg, 0, none⟩) := (Roll.eval_new 23 rfl (by decide) (by decide) (by omega)).trans h23
      clear hp hlv hN
      unfold Roll.Goes
      simp only [Ljn1, List.getD_cons_zero, List.getD_cons_succ]
      generalize Roll.putD Djn1 vs [23] b0 = a1 at *
      refine Roll.goes_val (w' := p) (.pointer (some ⟨lg, 0, none⟩)) rfl ?_ ⟨hI, Below.refl _ _, rfl⟩
      (have ec : ∀ x, a1.eval (.const x) = x := fun _ => rfl); (have ef : ∀ x, a1.eval (.func x) = .func (.func x) #[] #[] := fun _ => rfl); generalize a1.eval = ρ at *
      clear h23
      go_simp <;> (intros; first | (exfalso; omega) | rfl)
    · intro vs p hI hp
      have h24 : (vs 24) = .pointer (some ⟨lg, 0, none⟩) := hp 24 (by simp [Ljn1])
      have e45 : (Roll.putD Djn1 vs [24] b0).eval (.tmp 45) = .pointer (some ⟨lg, 0, none⟩) := (Roll.eval_new 24 rfl (by decide) (by decide) (by omega)).trans h24
      clear hp hlv hN
      unfold Roll.Goes
      simp only [Ljn1, List.getD_cons_zero, List.getD_cons_succ]
      generalize Roll.putD Djn1 vs [24] b0 = a1 at *
      refine Roll.goes_val (w' := p) (.pointer (some ⟨lg, 1, none⟩)) rfl ?_ ⟨hI, Below.refl _ _, rfl⟩
      (have ec : ∀ x, a1.eval (.const x) = x := fun _ => rfl); (have ef : ∀ x, a1.eval (.func x) = .func (.func x) #[] #[] := fun _ => rfl); generalize a1.eval = ρ at *
      clear h24
      go_simp <;> (intros; first | (exfalso; omega) | rfl)
    · intro vs p hI hp
      have h25 : (vs 25) = .pointer (some ⟨lg, 1, none⟩) := hp 25 (by simp [Ljn1])
      have e46 : (Roll.putD Djn1 vs [25] b0).eval (.tmp 46) = .pointer (some ⟨lg, 1, none⟩) := (Roll.eval_new 25 rfl (by decide) (by decide) (by omega)).trans h25
      clear hp hlv hN
      unfold Roll.Goes
      simp only [Ljn1, List.getD_cons_zero, List.getD_cons_succ]
      generalize Roll.putD Djn1 vs [25] b0 = a1 at *
      have cf : p.cell? ⟨lg, 1, none⟩ = some (.slice bL mL eL) := (hI.cell (p := ⟨lg, 1, none⟩) HLL.out).trans CL1.out
      refine Roll.goes_val (w' := p) (.slice bL mL eL) rfl ?_ ⟨hI, Below.refl _ _, rfl⟩
      (have ec : ∀ x, a1.eval (.const x) = x := fun _ => rfl); (have ef : ∀ x, a1.eval (.func x) = .func (.func x) #[] #[] := fun _ => rfl); generalize a1.eval = ρ at *
      clear h25
      go_simp <;> (intros; first | (exfalso; omega) | rfl)
    · intro vs p hI hp
      have e5 : (Roll.putD Djn1 vs [] b0).eval (.tmp 5) = .pointer (some ⟨rg, 0, none⟩) := (Roll.eval_old rfl).trans (hlv.at 3 (5, .pointer (some ⟨rg, 0, none⟩)) rfl)
      clear hp hlv hN
      unfold Roll.Goes
      simp only [Ljn1, List.getD_cons_zero, List.getD_cons_succ]
      generalize Roll.putD Djn1 vs [] b0 = a1 at *
      refine Roll.goes_val (w' := p) (.pointer (some ⟨rg, 0, none⟩)) rfl ?_ ⟨hI, Below.refl _ _, rfl⟩
      (have ec : ∀ x, a1.eval (.const x) = x := fun _ => rfl); (have ef : ∀ x, a1.eval (.func x) = .func (.func x) #[] #[] := fun _ => rfl); generalize a1.eval = ρ at *
      skip
      go_simp <;> (intros; first | (exfalso; omega) | rfl)
    · intro vs p hI hp
      have h27 : (vs 27) = .pointer (some ⟨rg, 0, none⟩) := hp 27 (by simp [Ljn1])
      have e48 : (Roll.putD Djn1 vs [27] b0).eval (.tmp 48) = .pointer (some ⟨rg, 0, none⟩) := (Roll.eval_new 27 rfl (by decide) (by decide) (by omega)).trans h27
      clear hp hlv hN
      unfold Roll.Goes
      simp only [Ljn1, List.getD_cons_zero, List.getD_cons_succ]
      generalize Roll.putD Djn1 vs [27] b0 = a1 at *
      refine Roll.goes_val (w' := p) (.pointer (some ⟨rg, 0, none⟩)) rfl ?_ ⟨hI, Below.refl _ _, rfl⟩
      (have ec : ∀ x, a1.eval (.const x) = x := fun _ => rfl); (have ef : ∀ x, a1.eval (.func x) = .func (.func x) #[] #[] := fun _ => rfl); generalize a1.eval = ρ at *
      clear h27
      go_simp <;> (intros; first | (exfalso; omega) | rfl)
    · intro vs p hI hp
      have h28 : (vs 28) = .pointer (some ⟨rg, 0, none⟩) := hp 28 (by simp [Ljn1])
      have e49 : (Roll.putD Djn1 vs [28] b0).eval (.tmp 49) = .pointer (some ⟨rg, 0, none⟩) := (Roll.eval_new 28 rfl (by decide) (by decide) (by omega)).trans h28
      clear hp hlv hN
      unfold Roll.Goes
      simp only [Ljn1, List.getD_cons_zero, List.getD_cons_succ]
      generalize Roll.putD Djn1 vs [28] b0 = a1 at *
      refine Roll.goes_val (w' := p) (.pointer (some ⟨rg, 1, none⟩)) rfl ?_ ⟨hI, Below.refl _ _, rfl⟩
      (have ec : ∀ x, a1.eval (.const x) = x := fun _ => rfl); (have ef : ∀ x, a1.eval (.func x) = .func (.func x) #[] #[] := fun _ => rfl); generalize a1.eval = ρ at *
      clear h28
      go_simp <;> (intros; first | (exfalso; omega) | rfl)
    · intro vs p hI hp
      have h29 : (vs 29) = .pointer (some ⟨rg, 1, none⟩) := hp 29 (by simp [Ljn1])
      have e50 : (Roll.putD Djn1 vs [29] b0).eval (.tmp 50) = .pointer (some ⟨rg, 1, none⟩) := (Roll.eval_new 29 rfl (by decide) (by decide) (by omega)).trans h29
      clear hp hlv hN
      unfold Roll.Goes
      simp only [Ljn1, List.getD_cons_zero, List.getD_cons_succ]
      generalize Roll.putD Djn1 vs [29] b0 = a1 at *
      have cf : p.cell? ⟨rg, 1, none⟩ = some (.slice bR mR eR) := (hI.cell (p := ⟨rg, 1, none⟩) HRL.out).trans CR1.out
      refine Roll.goes_val (w' := p) (.slice bR mR eR) rfl ?_ ⟨hI, Below.refl _ _, rfl⟩
      (have ec : ∀ x, a1.eval (.const x) = x := fun _ => rfl); (have ef : ∀ x, a1.eval (.func x) = .func (.func x) #[] #[] := fun _ => rfl); generalize a1.eval = ρ at *
      clear h29
      go_simp <;> (intros; first | (exfalso; omega) | rfl)
    · intro vs p hI hp
      have h26 : (vs 26) = .slice bL mL eL := hp 26 (by simp [Ljn1])
      have h30 : (vs 30) = .slice bR mR eR := hp 30 (by simp [Ljn1])
      have e47 : (Roll.putD Djn1 vs [26, 30] b0).eval (.tmp 47) = .slice bL mL eL := (Roll.eval_new 26 rfl (by decide) (by decide) (by omega)).trans h26
      have e51 : (Roll.putD Djn1 vs [26, 30] b0).eval (.tmp 51) = .slice bR mR eR := (Roll.eval_new 30 rfl (by decide) (by decide) (by omega)).trans h30
      clear hp hlv hN
      unfold Roll.Goes
      simp only [Ljn1, List.getD_cons_zero, List.getD_cons_succ]
      generalize Roll.putD Djn1 vs [26, 30] b0 = a1 at *
      have hal : Below p.heap.size p (p.alloc (.cells #[.slice bL mL eL, .slice bR mR eR] 92)) := (Below.refl _ _).alloc (Nat.le_refl _) _
      refine Roll.goes_val (w' := p.alloc (.cells #[.slice bL mL eL, .slice bR mR eR] 92)) (.slice (some ⟨p.heap.size, 0, none⟩) 2 2) rfl (by have ec : ∀ x, a1.eval (.const x) = x := fun _ => rfl; have ef : ∀ x, a1.eval (.func x) = .func (.func x) #[] #[] := fun _ => rfl; have hbs := run_bs2N; generalize a1.eval = ρ at *; go_simp <;> (intros; first | (exfalso; omega) | rfl)) ⟨hI.trans (hal.mono hI.size), hal, p.heap.size, rfl, by simp, heap_new rfl⟩
    · intro vs p hI hp
      have h31 : ∃ x, (vs 31) = .slice (some ⟨x, 0, none⟩) 2 2 ∧ x < p.heap.size ∧ p.heap[x]? = some (.cells #[.slice bL mL eL, .slice bR mR eR] 92 (0, 0)) := hp 31 (by simp [Ljn1])
      have e52 : (Roll.putD Djn1 vs [31] b0).eval (.tmp 52) = vs 31 := (Roll.eval_new 31 rfl (by decide) (by decide) (by omega))
      clear hp hlv hN
      unfold Roll.Goes
      simp only [Ljn1, List.getD_cons_zero, List.getD_cons_succ]
      generalize Roll.putD Djn1 vs [31] b0 = a1 at *
      obtain ⟨x, hvx, hxl, hhx⟩ := h31
      rw [hvx] at e52
      refine Roll.goes_call 91 #[.slice (some ⟨x, 0, none⟩) 2 2] p rfl (by have ec : ∀ x, a1.eval (.const x) = x := fun _ => rfl; have ef : ∀ x, a1.eval (.func x) = .func (.func x) #[] #[] := fun _ => rfl; generalize a1.eval = ρ at *; go_simp) ?_
      refine (concatN_any [⟨bL, mL, eL, pnts (L.ks.map BT.g)⟩, ⟨bR, mR, eR, pnts (R.ks.map BT.g)⟩] x p ⟨fun j hj => ?_, fun y hy => ?_⟩ hxl (by simp) (by have := HSZ.out; simp [pceN]; omega)).mono ?_
      · have : j = 0 ∨ j = 1 := by simp at hj; omega
        rcases this with rfl | rfl <;> rw [cell_of_row p x _ _ _ _ hhx] <;> rfl
      · have hy : y = ⟨bL, mL, eL, pnts (L.ks.map BT.g)⟩ ∨ y = ⟨bR, mR, eR, pnts (R.ks.map BT.g)⟩ := by simpa using hy
        rcases hy with rfl | rfl
        · exact ⟨(HLK.out.below hI).2, pnts_one _⟩
        · exact ⟨(HRK.out.below hI).2, pnts_one _⟩
      · rintro y p2 ⟨v, rfl, k, ho, hnw, hb⟩
        have e1 : pceN [⟨bL, mL, eL, pnts (L.ks.map BT.g)⟩, ⟨bR, mR, eR, pnts (R.ks.map BT.g)⟩] = JK.length := by rw [HJK.out]; have := HSZ.out; simp [pceN]; omega
        have e2 : pceL [⟨bL, mL, eL, pnts (L.ks.map BT.g)⟩, ⟨bR, mR, eR, pnts (R.ks.map BT.g)⟩] = pnts (JK.map BT.g) := by rw [HJK.out]; simp [pceL, pnts]
        rw [e1, e2] at ho
        obtain ⟨a, c, rfl, -⟩ := id ho.sl
        exact ⟨_, rfl, hI.trans (hb.mono hI.size), hb, k, a, c, rfl, ho, fun j hj => Nat.le_trans hI.size (hnw j hj)⟩
    · intro vs p hI hp
      have h22 : ∃ k a c, (vs 22) = .slice a JP.length c ∧ Own p 65 2 k (.slice a JP.length c) JP.length (pcells JP) ∧ (∀ j, k = some j → q.heap.size ≤ j) := hp 22 (by simp [Ljn1])
      have h32 : ∃ k a c, (vs 32) = .slice a JK.length c ∧ Own p 85 1 k (.slice a JK.length c) JK.length (pnts (JK.map BT.g)) ∧ (∀ j, k = some j → q.heap.size ≤ j) := hp 32 (by simp [Ljn1])
      have e43 : (Roll.putD Djn1 vs [22, 32] b0).eval (.tmp 43) = vs 22 := (Roll.eval_new 22 rfl (by decide) (by decide) (by omega))
      have e53 : (Roll.putD Djn1 vs [22, 32] b0).eval (.tmp 53) = vs 32 := (Roll.eval_new 32 rfl (by decide) (by decide) (by omega))
      clear hp hlv hN
      unfold Roll.Goes
      simp only [Ljn1, List.getD_cons_zero, List.getD_cons_succ]
      generalize Roll.putD Djn1 vs [22, 32] b0 = a1 at *
      obtain ⟨k1, a2, c2, hv1, ho1, hn1⟩ := h22
      obtain ⟨k2, a3, c3, hv2, ho2, hn2⟩ := h32
      rw [hv1] at e43
      rw [hv2] at e53
      refine Roll.goes_val (w' := p) (.agg #[.slice a2 JP.length c2, .slice a3 JK.length c3]) rfl (by have ec : ∀ x, a1.eval (.const x) = x := fun _ => rfl; have ef : ∀ x, a1.eval (.func x) = .func (.func x) #[] #[] := fun _ => rfl; have hbs := run_bld94; generalize a1.eval = ρ at *; go_simp <;> (intros; first | (exfalso; omega) | rfl)) ⟨hI, Below.refl _ _, k1, a2, c2, k2, a3, c3, rfl, ho1, hn1, ho2, hn2⟩
    · intro vs p hI hp
      have h33 : ∃ k1 a1 c1 k2 a2 c2, (vs 33) = .agg #[.slice a1 JP.length c1, .slice a2 JK.length c2] ∧ Own p 65 2 k1 (.slice a1 JP.length c1) JP.length (pcells JP) ∧ (∀ j, k1 = some j → q.heap.size ≤ j) ∧ Own p 85 1 k2 (.slice a2 JK.length c2) JK.length (pnts (JK.map BT.g)) ∧ (∀ j, k2 = some j → q.heap.size ≤ j) := hp 33 (by simp [Ljn1])
      have e54 : (Roll.putD Djn1 vs [33] b0).eval (.tmp 54) = vs 33 := (Roll.eval_new 33 rfl (by decide) (by decide) (by omega))
      clear hp hlv hN
      unfold Roll.Goes
      simp only [Ljn1, List.getD_cons_zero, List.getD_cons_succ]
      generalize Roll.putD Djn1 vs [33] b0 = a1 at *
      obtain ⟨k1, a2, c2, k2, a3, c3, hv, ho1, hn1, ho2, hn2⟩ := h33
      rw [hv] at e54
      have hal : Below p.heap.size p (p.alloc (.cells #[.slice a2 JP.length c2, .slice a3 JK.length c3] 94)) := (Below.refl _ _).alloc (Nat.le_refl _) _
      have hs1 := ho1.kept ((Kept.refl (fun _ => False) p).alloc (.cells #[.slice a2 JP.length c2, .slice a3 JK.length c3] 94)) (fun _ _ h => h)
      have hs2 := ho2.kept ((Kept.refl (fun _ => False) p).alloc (.cells #[.slice a2 JP.length c2, .slice a3 JK.length c3] 94)) (fun _ _ h => h)
      obtain ⟨a4, c4, e4, hs1⟩ := hs1.sl
      cases e4
      obtain ⟨a5, c5, e5, hs2⟩ := hs2.sl
      cases e5
      refine Roll.goes_val (w' := p.alloc (.cells #[.slice a2 JP.length c2, .slice a3 JK.length c3] 94)) (.pointer (some ⟨p.heap.size, 0, none⟩)) rfl (by have ec : ∀ x, a1.eval (.const x) = x := fun _ => rfl; have ef : ∀ x, a1.eval (.func x) = .func (.func x) #[] #[] := fun _ => rfl; have hbs := run_box94; generalize a1.eval = ρ at *; go_simp <;> (intros; first | (exfalso; omega) | rfl)) ⟨hI.trans (hal.mono hI.size), hal, p.heap.size, rfl, .mk (.inr hI.size) (heap_new rfl) ⟨rfl, hs1.dom (fun b hb => .inr (hn1 b hb))⟩ ⟨by simp, hs2.dom (fun b hb => .inr (hn2 b hb))⟩ (fun k hk => ((HKD.out k hk).under (hI.trans (hal.mono hI.size))).dom (fun b hb => .inl hb))⟩
  · intro vs p hI hR
    have h0 : (vs 0) = .pointer (some ⟨g, 0, none⟩) := hR 0 (by omega)
    have h1 : (vs 1) = .pointer (some ⟨g, 0, none⟩) := hR 1 (by omega)
    have h2 : (vs 2) = .pointer (some ⟨g, 1, none⟩) := hR 2 (by omega)
    have h3 : (vs 3) = .slice (some ⟨jk, 0, none⟩) kn kc := hR 3 (by omega)
    have h4 : (vs 4) = .int .i64 (i : Int) := hR 4 (by omega)
    have h5 : (vs 5) = .pointer (some ⟨lg, 0, none⟩) := hR 5 (by omega)
    have h6 : (vs 6) = .pointer (some ⟨lg, 0, none⟩) := hR 6 (by omega)
    have h7 : (vs 7) = .pointer (some ⟨lg, 0, none⟩) := hR 7 (by omega)
    have h8 : (vs 8) = .slice aL nL cL := hR 8 (by omega)
    have h9 : (vs 9) = .pointer (some ⟨g, 0, none⟩) := hR 9 (by omega)
    have h10 : (vs 10) = .pointer (some ⟨g, 0, none⟩) := hR 10 (by omega)
    have h11 : (vs 11) = .pointer (some ⟨g, 0, none⟩) := hR 11 (by omega)
    have h12 : (vs 12) = .slice (some ⟨jp, 0, none⟩) (nv + 1) cv := hR 12 (by omega)
    have h13 : (vs 13) = .int .i64 (i : Int) := hR 13 (by omega)
    have h14 : (vs 14) = .int .i64 (i : Int) := hR 14 (by omega)
    have h15 : (vs 15) = .int .i64 ((i : Int) + 1) := hR 15 (by omega)
    have h16 : (vs 16) = .slice (some ⟨jp, i * 2, none⟩) 1 (cv - i) := hR 16 (by omega)
    have h17 : (vs 17) = .pointer (some ⟨rg, 0, none⟩) := hR 17 (by omega)
    have h18 : (vs 18) = .pointer (some ⟨rg, 0, none⟩) := hR 18 (by omega)
    have h19 : (vs 19) = .pointer (some ⟨rg, 0, none⟩) := hR 19 (by omega)
    have h20 : (vs 20) = .slice aR nR cR := hR 20 (by omega)
    have h21 : ∃ x, (vs 21) = .slice (some ⟨x, 0, none⟩) 3 3 ∧ x < p.heap.size ∧ p.heap[x]? = some (.cells #[.slice aL nL cL, .slice (some ⟨jp, i * 2, none⟩) 1 (cv - i), .slice aR nR cR] 26 (0, 0)) := hR 21 (by omega)
    have h22 : ∃ k a c, (vs 22) = .slice a JP.length c ∧ Own p 65 2 k (.slice a JP.length c) JP.length (pcells JP) ∧ (∀ j, k = some j → q.heap.size ≤ j) := hR 22 (by omega)
    have h23 : (vs 23) = .pointer (some ⟨lg, 0, none⟩) := hR 23 (by omega)
    have h24 : (vs 24) = .pointer (some ⟨lg, 0, none⟩) := hR 24 (by omega)
    have h25 : (vs 25) = .pointer (some ⟨lg, 1, none⟩) := hR 25 (by omega)
    have h26 : (vs 26) = .slice bL mL eL := hR 26 (by omega)
    have h27 : (vs 27) = .pointer (some ⟨rg, 0, none⟩) := hR 27 (by omega)
    have h28 : (vs 28) = .pointer (some ⟨rg, 0, none⟩) := hR 28 (by omega)
    have h29 : (vs 29) = .pointer (some ⟨rg, 1, none⟩) := hR 29 (by omega)
    have h30 : (vs 30) = .slice bR mR eR := hR 30 (by omega)
    have h31 : ∃ x, (vs 31) = .slice (some ⟨x, 0, none⟩) 2 2 ∧ x < p.heap.size ∧ p.heap[x]? = some (.cells #[.slice bL mL eL, .slice bR mR eR] 92 (0, 0)) := hR 31 (by omega)
    have h32 : ∃ k a c, (vs 32) = .slice a JK.length c ∧ Own p 85 1 k (.slice a JK.length c) JK.length (pnts (JK.map BT.g)) ∧ (∀ j, k = some j → q.heap.size ≤ j) := hR 32 (by omega)
    have h33 : ∃ k1 a1 c1 k2 a2 c2, (vs 33) = .agg #[.slice a1 JP.length c1, .slice a2 JK.length c2] ∧ Own p 65 2 k1 (.slice a1 JP.length c1) JP.length (pcells JP) ∧ (∀ j, k1 = some j → q.heap.size ≤ j) ∧ Own p 85 1 k2 (.slice a2 JK.length c2) JK.length (pnts (JK.map BT.g)) ∧ (∀ j, k2 = some j → q.heap.size ≤ j) := hR 33 (by omega)
    have h34 : ∃ gj, (vs 34) = .pointer (some ⟨gj, 0, none⟩) ∧ NdD (fun b => Off D w0.heap.size g (some jp) (some jk) b ∨ q.heap.size ≤ b) p (.mk gj JP JK) := hR 34 (by omega)
    clear hR
    simp only [List.range_succ, List.range_zero, List.nil_append, List.cons_append, Roll.putD, Act.put, List.getD_cons_zero, List.getD_cons_succ, List.setIfInBounds_toArray, List.set_cons_zero, List.set_cons_succ, List.drop_succ_cons, List.drop_zero, Djn1]
    simp only [h0, h1, h2, h3, h4, h5, h6, h7, h8, h9, h10, h11, h12, h13, h14, h15, h16, h17, h18, h19, h20, h23, h24, h25, h26, h27, h28, h29, h30]
    clear h0 h1 h2 h3 h4 h5 h6 h7 h8 h9 h10 h11 h12 h13 h14 h15 h16 h17 h18 h19 h20 h23 h24 h25 h26 h27 h28 h29 h30
    clear h21 h22 h31 h32 h33
    generalize vs 21 = v21 at *; generalize vs 22 = v22 at *; generalize vs 31 = v31 at *; generalize vs 32 = v32 at *; generalize vs 33 = v33 at *; generalize vs 34 = v34 at *
    obtain ⟨gj, rfl, hnd⟩ := h34
    have cki := (hI.cell (p := ⟨jk, i, none⟩) HJL.out).trans CK.out.1
    have fki := ((Kept.of_below (fun _ => False) hI).frozen (p := ⟨jk, i, none⟩) HJL.out (fun h => h)).trans CK.out.2
    have HON1 : Hid (ONx D w0 (p.setCell ⟨jk, i, none⟩ (.pointer (some ⟨gj, 0, none⟩))) g (some jp) (some jk) (.slice (some ⟨jp, 0, none⟩) (nv + 1) cv) (.slice (some ⟨jk, 0, none⟩) kn kc) ps (ks.set i (.mk gj JP JK)) xs) := Lib.hid (((HON.out.add hI hnd).setK i (by have := HKN.out; omega) _ (List.mem_append.2 (.inr (List.mem_cons_self ..)))).sub (fun k hk => List.mem_append.2 (.inr (List.mem_cons_of_mem _ hk))))
    clear hnd hI
    go_upto_region 2 with fail
    obtain ⟨q2, hq2⟩ : ∃ q2, q2 = p.setCell ⟨jk, i, none⟩ (.pointer (some ⟨gj, 0, none⟩)) := ⟨_, rfl⟩
    rw [← hq2] at HON1 ⊢
    clear hq2 cki fki
    obtain ⟨J, hJ⟩ : ∃ J, J = BT.mk gj JP JK := ⟨_, rfl⟩
    rw [← hJ] at HON1
    have HJ := Lib.hid hJ
    obtain ⟨-, c02, -, -, -⟩ := HON1.out.facts
    have HDP := Lib.hid (fun y hy => deleteP_any q2 jp (.slice (some ⟨jp, 0, none⟩) (nv + 1) cv) nv (pcells ps) i (i : Int) y rfl hy (by have := HON1.out.hp; rwa [HNV.out] at this) (pcells_one ps) HIN.out (by have := HSZ.out; omega))
    clear hJ
    go_upto_region 3 with (go_at_call 74; refine (HDP.out _ (by first | rfl | omega)).mono ?_; rintro e q3 ⟨v3, rfl, ho, hr⟩; obtain ⟨a3, c3, rfl, -⟩ := id ho.sl; have hgp := hr.2.heap HON1.out.blk HON1.out.d1; have cg0 := cell_of_row q3 g 0 _ _ _ hgp; have fg0 := frozen_of_row q3 g 0 _ _ hgp; have HO3 := Lib.hid ho; have HR3 := Lib.hid hr; clear ho hr hgp)
    have HON2 : Hid (ONx D w0 (q3.setCell ⟨g, 0, none⟩ (.slice a3 nv c3)) g (some jp) (some jk) (.slice a3 nv c3) (.slice (some ⟨jk, 0, none⟩) kn kc) (ps.take i ++ ps.drop (i + 1)) (ks.set i J) xs) := Lib.hid (HON1.out.newP2 (by
      have e1 : (ps.take i ++ ps.drop (i + 1)).length = nv := by have := HNV.out; have := HIN.out; simp only [List.length_append, List.length_take, List.length_drop]; omega
      rw [e1, pcells_del ps i (by have := HNV.out; have := HIN.out; omega)]
      exact HO3.out) HR3.out)
    obtain ⟨q4, hq4⟩ : ∃ q4, q4 = q3.setCell ⟨g, 0, none⟩ (.slice a3 nv c3) := ⟨_, rfl⟩
    rw [← hq4] at HON2 ⊢
    clear hq4 cg0 fg0 HO3 HR3 c02
    obtain ⟨-, -, c12, -, -⟩ := HON2.out.facts
    obtain ⟨ks4, hks4⟩ : ∃ ks4, ks4 = ks.set i J := ⟨_, rfl⟩
    rw [← hks4] at HON2
    have HKS4 := Lib.hid hks4
    have HK4L : Hid (ks4.length = kn) := Lib.hid (by rw [hks4, List.length_set, HKN.out])
    clear hks4
    have HDK := Lib.hid (fun x y hx hy => deleteN_any q4 jk (.slice (some ⟨jk, 0, none⟩) kn kc) (nv + 1) (pnts (ks4.map BT.g)) (i + 1) x y hx hy (by have := HON2.out.hk; rw [HK4L.out] at this; have e := HKV.out; rw [e] at this ⊢; exact this) (pnts_one _) (by have := HIN.out; omega) (by have := HSZ.out; omega))
    go_wp2_with (go_at_call 92; refine (HDK.out _ _ (by first | rfl | omega) (by first | rfl | omega)).mono ?_; rintro e q5 ⟨v5, rfl, ho, hr⟩; obtain ⟨a5, c5, rfl, -⟩ := id ho.sl; have hgp := hr.2.heap HON2.out.blk HON2.out.d2; have cg1 := cell_of_row q5 g 1 _ _ _ hgp; have fg1 := frozen_of_row q5 g 1 _ _ hgp; have HO5 := Lib.hid ho; have HR5 := Lib.hid hr; clear ho hr hgp)
    have HON3 : Hid (ONx D w0 (q5.setCell ⟨g, 1, none⟩ (.slice a5 (nv + 1) c5)) g (some jp) (some jk) (.slice a3 nv c3) (.slice a5 (nv + 1) c5) (ps.take i ++ ps.drop (i + 1)) (ks4.take (i + 1) ++ ks4.drop (i + 2)) xs) := Lib.hid (HON2.out.newK2 (by
      have e1 : (ks4.take (i + 1) ++ ks4.drop (i + 2)).length = nv + 1 := by have := HK4L.out; have := HKV.out; have := HIN.out; simp only [List.length_append, List.length_take, List.length_drop]; omega
      rw [e1, pnts_del ks4 (i + 1)]
      exact HO5.out) HR5.out (fun k hk => .inl (List.mem_append.2 (.inl (by
        rcases List.mem_append.1 hk with h | h
        · exact List.mem_of_mem_take h
        · exact List.mem_of_mem_drop h)))))
    go_end0
    refine ⟨rfl, J, ?_, by rw [HJ.out]; rfl, by rw [HJ.out]; rfl⟩
    have e1 : ks4.take (i + 1) ++ ks4.drop (i + 2) = ks.take i ++ J :: ks.drop (i + 2) := by
      have := HKN.out
      have := HIN.out
      have := HKV.out
      rw [HKS4.out, List.drop_set_of_lt (by omega), List.take_set, List.set_eq_take_append_cons_drop, if_pos (by rw [List.length_take]; omega), List.take_take, show min i (i + 1) = i by omega, List.drop_eq_nil_of_le (by rw [List.length_take]; omega)]
      simp
    rw [← e1]
    exact ⟨_, _, _, _, HON3.out⟩
end Go.Proofs.Ytfgmhidgkemfoaa
namespace Go.Proofs.Ytfgmhidgkemfoaa
open Go.RowKit
set_option linter.unusedSimpArgs false
set_option linter.unusedVariables false
/-- the children of a node whose children have height k -/
def BT.Sh (k : Nat) (t : BT) : Prop := (k = 0 ∧ t.ks = []) ∨ (k ≠ 0 ∧ t.ks.length = t.ps.length + 1 ∧ ∀ x ∈ t.ks, x.Wf k ∧ 3 ≤ x.ps.length)
theorem wf_iff (k : Nat) (t : BT) : t.Wf (k + 1) ↔ t.ps.length ≤ 8 ∧ t.Sh k := by
  rw [BT.Wf]
  rfl
theorem BT.Sh.lens {k : Nat} {t : BT} (h : t.Sh k) : t.ks = [] ∨ t.ks.length = t.ps.length + 1 := by
  rcases h with ⟨-, h⟩ | ⟨-, h, -⟩
  · exact .inl h
  · exact .inr h
/-- a node in two -/
theorem split_math {k : Nat} {T L R : BT} {m : Nat} (hm : m = T.ps.length / 2) (hT : T.Sh k) (h7 : 7 ≤ T.ps.length) (h11 : T.ps.length ≤ 16) (l1 : L.ps = T.ps.take m) (l2 : L.ks = T.ks.take (m + 1)) (r1 : R.ps = T.ps.drop (m + 1)) (r2 : R.ks = T.ks.drop (m + 1)) :
    (L.Wf (k + 1) ∧ 3 ≤ L.ps.length) ∧ (R.Wf (k + 1) ∧ 3 ≤ R.ps.length) ∧ T.toL = L.toL ++ T.ps[m]'(by omega) :: R.toL ∧ ∀ P, L.cnt P + R.cnt P ≤ cntL P T.ks + 2 := by
  have hLl : L.ps.length = m := by rw [l1, List.length_take]; omega
  have hRl : R.ps.length = T.ps.length - (m + 1) := by rw [r1, List.length_drop]
  have hsp : T.ps = T.ps.take m ++ T.ps[m]'(by omega) :: T.ps.drop (m + 1) := at_split T.ps m (by omega)
  have hc : ∀ P, L.cnt P + R.cnt P ≤ cntL P T.ks + 2 := fun P => by
    rw [cnt_eq, cnt_eq, l2, r2]
    have h1 := cntL_app P (T.ks.take (m + 1)) (T.ks.drop (m + 1))
    rw [List.take_append_drop] at h1
    have := toNat_le (P L.g)
    have := toNat_le (P R.g)
    omega
  rcases hT with ⟨hk, h0⟩ | ⟨hk, h1, h2⟩
  · refine ⟨⟨(wf_iff _ _).2 ⟨by omega, .inl ⟨hk, by rw [l2, h0]; rfl⟩⟩, by omega⟩, ⟨(wf_iff _ _).2 ⟨by omega, .inl ⟨hk, by rw [r2, h0]; simp⟩⟩, by omega⟩, ?_, hc⟩
    rw [toL_eq, toL_eq L, toL_eq R, l1, l2, r1, r2, h0, List.take_nil, List.drop_nil, toLs_leaf, toLs_leaf, toLs_leaf]
    exact hsp
  · refine ⟨⟨(wf_iff _ _).2 ⟨by omega, .inr ⟨hk, by rw [l2, hLl, List.length_take]; omega, fun x hx => h2 x (by rw [l2] at hx; exact List.mem_of_mem_take hx)⟩⟩, by omega⟩, ⟨(wf_iff _ _).2 ⟨by omega, .inr ⟨hk, by rw [r2, hRl, List.length_drop]; omega, fun x hx => h2 x (by rw [r2] at hx; exact List.mem_of_mem_drop hx)⟩⟩, by omega⟩, ?_, hc⟩
    rw [toL_eq, toL_eq L, toL_eq R, l1, l2, r1, r2]
    have h3 := toLs_app (T.ps.take m) (T.ks.take (m + 1)) (T.ps[m]'(by omega)) (T.ps.drop (m + 1)) (T.ks.drop (m + 1)) (by rw [List.length_take, List.length_take]; omega)
    rw [List.take_append_drop, ← hsp] at h3
    exact h3
/-- two nodes in one -/
theorem join_math {k : Nat} {L R J : BT} {M : KV} (hL : L.Sh k) (hR : R.Sh k) (j1 : J.ps = L.ps ++ M :: R.ps) (j2 : J.ks = L.ks ++ R.ks) :
    J.Sh k ∧ J.ps.length = L.ps.length + R.ps.length + 1 ∧ J.toL = L.toL ++ M :: R.toL ∧ ∀ P, J.cnt P ≤ 1 + (cntL P L.ks + cntL P R.ks) := by
  have hl : J.ps.length = L.ps.length + R.ps.length + 1 := by rw [j1]; simp; omega
  have hc : ∀ P, J.cnt P ≤ 1 + (cntL P L.ks + cntL P R.ks) := fun P => by
    rw [cnt_eq, j2, cntL_app]
    have := toNat_le (P J.g)
    omega
  rcases hL with ⟨hk, h0⟩ | ⟨hk, h1, h2⟩
  · rcases hR with ⟨-, h3⟩ | ⟨h3, -⟩
    · refine ⟨.inl ⟨hk, by rw [j2, h0, h3]; rfl⟩, hl, ?_, hc⟩
      rw [toL_eq, toL_eq L, toL_eq R, j1, j2, h0, h3, toLs_leaf, toLs_leaf, List.append_nil, toLs_leaf]
    · exact absurd hk h3
  · rcases hR with ⟨h3, -⟩ | ⟨-, h3, h4⟩
    · exact absurd h3 hk
    · refine ⟨.inr ⟨hk, by rw [j2, List.length_append, hl]; omega, fun x hx => ?_⟩, hl, ?_, hc⟩
      · rw [j2] at hx
        rcases List.mem_append.1 hx with h | h
        · exact h2 x h
        · exact h4 x h
      · rw [toL_eq, toL_eq L, toL_eq R, j1, j2]
        exact toLs_app _ _ _ _ _ h1
/-- what mend makes of pairs and children -/
structure Mended (k : Nat) (c : Nat) (ps : List KV) (ks : List BT) (ps' : List KV) (ks' : List BT) : Prop where
  list : toLs ps' ks' = toLs ps ks
  lens : ks'.length = ps'.length + 1
  kids : ∀ x ∈ ks', x.Wf (k + 1) ∧ 3 ≤ x.ps.length
  low : ps.length ≤ ps'.length + 1
  high : ps'.length ≤ ps.length + 1
  low2 : 3 ≤ c → ps.length ≤ ps'.length
  high2 : c ≤ 8 → ps'.length ≤ ps.length
  cnt : ∀ P, cntL P ks' ≤ cntL P ks + 2
theorem cntL_at (P : Nat → Bool) (ks : List BT) (i : Nat) (hi : i < ks.length) : cntL P ks = cntL P (ks.take i) + (ks[i].cnt P + cntL P (ks.drop (i + 1))) := by
  conv => lhs; rw [at_split ks i hi, cntL_app, cntL_cons]
theorem mem_take2 {α : Type} {l : List α} {i : Nat} {x : α} (hx : x ∈ l.take i) : ∃ j, ∃ h : j < l.length, j < i ∧ l[j] = x := by
  obtain ⟨j, hj, rfl⟩ := List.mem_iff_getElem.1 hx
  rw [List.length_take] at hj
  exact ⟨j, by omega, by omega, by rw [List.getElem_take]⟩
theorem mem_drop2 {α : Type} {l : List α} {i : Nat} {x : α} (hx : x ∈ l.drop i) : ∃ j, ∃ h : j < l.length, i ≤ j ∧ l[j] = x := by
  obtain ⟨j, hj, rfl⟩ := List.mem_iff_getElem.1 hx
  rw [List.length_drop] at hj
  exact ⟨i + j, by omega, by omega, by rw [List.getElem_drop]⟩
/-- the children but one keep the rules -/
def But (k i : Nat) (ks : List BT) : Prop := ∀ j (h : j < ks.length), j ≠ i → ks[j].Wf (k + 1) ∧ 3 ≤ ks[j].ps.length
theorem mended_none {k i : Nat} {ps : List KV} {ks : List BT} (hb : But k i ks) (hi : i < ks.length) (hl : ks.length = ps.length + 1) (hs : ks[i].Sh k) (h3 : 3 ≤ ks[i].ps.length) (h8 : ks[i].ps.length ≤ 8) : Mended k ks[i].ps.length ps ks ps ks :=
  ⟨rfl, hl, fun x hx => by
    obtain ⟨j, hj, rfl⟩ := List.mem_iff_getElem.1 hx
    by_cases e : j = i
    · subst e; exact ⟨(wf_iff _ _).2 ⟨h8, hs⟩, h3⟩
    · exact hb j hj e, by omega, by omega, fun _ => Nat.le_refl _, fun _ => Nat.le_refl _, fun P => by omega⟩
theorem mended_split {k i : Nat} {ps : List KV} {ks : List BT} {L R : BT} (hb : But k i ks) (hi : i < ks.length) (hl : ks.length = ps.length + 1) (hs : ks[i].Sh k) (h9 : 8 < ks[i].ps.length) (h16 : ks[i].ps.length ≤ 16) (l1 : L.ps = ks[i].ps.take (ks[i].ps.length / 2)) (l2 : L.ks = ks[i].ks.take (ks[i].ps.length / 2 + 1)) (r1 : R.ps = ks[i].ps.drop (ks[i].ps.length / 2 + 1)) (r2 : R.ks = ks[i].ks.drop (ks[i].ps.length / 2 + 1)) :
    toLs (ps.take i ++ ks[i].ps[ks[i].ps.length / 2]'(by omega) :: ps.drop i) (ks.take i ++ L :: R :: ks.drop (i + 1)) = toLs ps ks ∧ (ks.take i ++ L :: R :: ks.drop (i + 1)).length = (ps.take i ++ ks[i].ps[ks[i].ps.length / 2]'(by omega) :: ps.drop i).length + 1 ∧ (∀ x ∈ ks.take i ++ L :: R :: ks.drop (i + 1), x.Wf (k + 1) ∧ 3 ≤ x.ps.length) ∧ (ps.take i ++ ks[i].ps[ks[i].ps.length / 2]'(by omega) :: ps.drop i).length = ps.length + 1 ∧ ∀ P, cntL P (ks.take i ++ L :: R :: ks.drop (i + 1)) + (P ks[i].g).toNat ≤ cntL P ks + 2 := by
  obtain ⟨m1, m2, m3, m4⟩ := split_math rfl hs (by omega) h16 l1 l2 r1 r2
  refine ⟨toLs_split1 _ L R ps ks i hi hl m3, by simp only [List.length_append, List.length_take, List.length_cons, List.length_drop]; omega, fun x hx => ?_, by simp only [List.length_append, List.length_take, List.length_cons, List.length_drop]; omega, fun P => ?_⟩
  · rcases List.mem_append.1 hx with h | h
    · obtain ⟨j, hj, hji, rfl⟩ := mem_take2 h
      exact hb j hj (by omega)
    · rcases List.mem_cons.1 h with rfl | h
      · exact m1
      · rcases List.mem_cons.1 h with rfl | h
        · exact m2
        · obtain ⟨j, hj, hji, rfl⟩ := mem_drop2 h
          exact hb j hj (by omega)
  · have h1 := m4 P
    have h2 := cntL_at P ks i hi
    rw [cnt_eq] at h2
    rw [cntL_app, cntL_cons, cntL_cons]
    omega
theorem mended_join {k i : Nat} {ps : List KV} {ks : List BT} {J : BT} (hi : i < ps.length) (hl : ks.length = ps.length + 1) (hL : (ks[i]'(by omega)).Sh k) (hR : (ks[i + 1]'(by omega)).Sh k) (hb : ∀ j (h : j < ks.length), j ≠ i → j ≠ i + 1 → ks[j].Wf (k + 1) ∧ 3 ≤ ks[j].ps.length) (j1 : J.ps = (ks[i]'(by omega)).ps ++ ps[i] :: (ks[i + 1]'(by omega)).ps) (j2 : J.ks = (ks[i]'(by omega)).ks ++ (ks[i + 1]'(by omega)).ks) :
    toLs (ps.take i ++ ps.drop (i + 1)) (ks.take i ++ J :: ks.drop (i + 2)) = toLs ps ks ∧ (ks.take i ++ J :: ks.drop (i + 2)).length = (ps.take i ++ ps.drop (i + 1)).length + 1 ∧ But k i (ks.take i ++ J :: ks.drop (i + 2)) ∧ (ps.take i ++ ps.drop (i + 1)).length + 1 = ps.length ∧ (∀ h : i < (ks.take i ++ J :: ks.drop (i + 2)).length, (ks.take i ++ J :: ks.drop (i + 2))[i] = J) ∧ J.Sh k ∧ J.ps.length = (ks[i]'(by omega)).ps.length + (ks[i + 1]'(by omega)).ps.length + 1 ∧ ∀ P, cntL P (ks.take i ++ J :: ks.drop (i + 2)) ≤ cntL P ks + (P J.g).toNat := by
  obtain ⟨m1, m2, m3, m4⟩ := join_math hL hR j1 j2
  have hg : ∀ h : i < (ks.take i ++ J :: ks.drop (i + 2)).length, (ks.take i ++ J :: ks.drop (i + 2))[i] = J := fun h => by
    rw [List.getElem_append_right (by rw [List.length_take]; omega)]
    simp [show i - min i ks.length = 0 by omega]
  refine ⟨toLs_join J ps ks i hi hl m3, by simp only [List.length_append, List.length_take, List.length_cons, List.length_drop]; omega, fun j hj hji => ?_, by simp only [List.length_append, List.length_take, List.length_drop]; omega, hg, m1, m2, fun P => ?_⟩
  · simp only [List.length_append, List.length_take, List.length_cons, List.length_drop] at hj
    by_cases h1 : j < i
    · rw [List.getElem_append_left (by rw [List.length_take]; omega), List.getElem_take]
      exact hb j (by omega) hji (by omega)
    · rw [List.getElem_append_right (by rw [List.length_take]; omega)]
      obtain ⟨t, ht⟩ : ∃ t, j = i + 1 + t := ⟨j - i - 1, by omega⟩
      subst ht
      have e : i + 1 + t - (ks.take i).length = t + 1 := by rw [List.length_take]; omega
      simp only [e, List.getElem_cons_succ, List.getElem_drop]
      exact hb (i + 2 + t) (by omega) (by omega) (by omega)
  · have h2 := cntL_at P ks i (by omega)
    have h3 := cntL_at P (ks.drop (i + 1)) 0 (by rw [List.length_drop]; omega)
    rw [List.take_zero, cntL_nil, List.drop_drop] at h3
    simp only [List.getElem_drop, Nat.add_zero, Nat.zero_add] at h3
    rw [cnt_eq] at h2 h3
    rw [cntL_app, cntL_cons, cnt_eq, j2, cntL_app]
    simp only [show i + (1 + 1) = i + 2 by omega, show i + 1 + 1 = i + 2 by omega] at *
    omega
/-- what is read of a child -/
theorem ON.kidFacts {D : Nat → Prop} {w0 w : World} {g : Nat} {ps : List KV} {ks xs : List BT} (h : ON D w0 w g ps ks xs) (i : Nat) (hi : i < ks.length) : ∃ jk kc tg aT cT, w.cell? ⟨g, 1, none⟩ = some (.slice (some ⟨jk, 0, none⟩) ks.length kc) ∧ w.cell? ⟨jk, i, none⟩ = some (.pointer (some ⟨tg, 0, none⟩)) ∧ w.cell? ⟨tg, 0, none⟩ = some (.slice aT ks[i].ps.length cT) ∧ ks.length ≤ kc ∧ kc ≤ 9223372036854775807 ∧ ks[i].ps.length ≤ cT ∧ cT ≤ 9223372036854775807 := by
  obtain ⟨kp, kk, vp, vk, hon⟩ := h
  obtain ⟨jk, kc, rfl, rfl, h1, h2, -, h3⟩ := hon.kidAt (by omega)
  obtain ⟨-, -, c1, -, -⟩ := hon.facts
  obtain ⟨c2, -⟩ := h3 i hi
  obtain ⟨aT, nT, cT, bT, mT, eT, -, -, c3, -, hp, -, -⟩ := (hon.kids ks[i] (List.mem_append.2 (.inl (List.getElem_mem hi)))).facts
  have hn := hp.1
  subst hn
  exact ⟨jk, kc, _, aT, cT, c1, c2, c3, h1, h2, hp.2.2.1, hp.2.2.2.1⟩
end Go.Proofs.Ytfgmhidgkemfoaa
namespace Go.Proofs.Ytfgmhidgkemfoaa
open Go.RowKit
set_option linter.unusedSimpArgs false
set_option linter.unusedVariables false
theorem But.sh {k i : Nat} {ks : List BT} (hb : But k i ks) (hi : i < ks.length) (hs : ks[i].Sh k) (h9 : ks[i].ps.length ≤ 9) (j : Nat) (hj : j < ks.length) : ks[j].Sh k ∧ ks[j].ps.length ≤ 9 := by
  by_cases e : j = i
  · subst e; exact ⟨hs, h9⟩
  · have := (wf_iff _ _).1 (hb j hj e).1
    exact ⟨this.2, by omega⟩
theorem BT.Sh.klen {k : Nat} {t : BT} (h : t.Sh k) : t.ks.length ≤ t.ps.length + 1 := by
  rcases h.lens with h | h
  · rw [h]; simp
  · omega
set_option maxRecDepth 100000 in
set_option maxHeartbeats 4000000 in
theorem mend_any {D : Nat → Prop} {w0 w : World} {g : Nat} {ps : List KV} {ks xs : List BT} (h : ON D w0 w g ps ks xs) (k i : Nat) (hi : i < ks.length) (hl : ks.length = ps.length + 1) (hn : ps.length ≤ 20) (h1 : 1 ≤ ps.length) (hb : But k i ks) (hs : ks[i].Sh k) (h2 : 2 ≤ ks[i].ps.length) (h9 : ks[i].ps.length ≤ 9) :
    Calls Try.prog 72 #[.pointer (some ⟨g, 0, none⟩), .int .i64 (i : Int)] w fun e w' => e = .returned (.tuple #[]) ∧ ∃ ps' ks', ON D w0 w' g ps' ks' xs ∧ Mended k ks[i].ps.length ps ks ps' ks' := by
  obtain ⟨jk, kc, tg, aT, cT, c1, c2, c3, b1, b2, b3, b4⟩ := h.kidFacts i hi
  obtain ⟨n, hnn⟩ : ∃ n, n = ks[i].ps.length := ⟨_, rfl⟩
  rw [← hnn] at c3 b3 h2 h9 ⊢
  obtain ⟨kn, hkn⟩ : ∃ kn, kn = ks.length := ⟨_, rfl⟩
  rw [← hkn] at c1 b1
  have hik : (i : Int) < (kn : Int) := by omega
  have H := Lib.hid h
  have HNN := Lib.hid hnn
  have HKN := Lib.hid hkn
  by_cases hn3 : n < 3
  · have hn3' : (n : Int) < 3 := by omega
    obtain rfl : n = 2 := by omega
    have H0 : Hid (∃ i', i' < ps.length ∧ (i = 0 ∧ i' = 0 ∨ i = i' + 1)) := Lib.hid (by
      by_cases e : i = 0
      · exact ⟨0, by omega, .inl ⟨e, rfl⟩⟩
      · exact ⟨i - 1, by omega, .inr (by omega)⟩)
    obtain ⟨i', hi', hii⟩ := H0.out
    have hmx : max ((i : Int) - 1) 0 = (i' : Int) := by omega
    have HL0 := Lib.hid hl
    have hi0 : i' < ks.length := by omega
    have hi1 : i' + 1 < ks.length := by omega
    have hsl := hb.sh hi hs (by omega) i' hi0
    have hsr := hb.sh hi hs (by omega) (i' + 1) hi1
    have HSL := Lib.hid hsl
    have HSR := Lib.hid hsr
    have HBB : Hid (∀ j (h : j < ks.length), j ≠ i' → j ≠ i' + 1 → ks[j].Wf (k + 1) ∧ 3 ≤ ks[j].ps.length) := Lib.hid (fun j hj e1 e2 => hb j hj (by omega))
    have HSUM : Hid (6 ≤ (ks[i']'hi0).ps.length + (ks[i' + 1]'hi1).ps.length + 1 ∧ (ks[i']'hi0).ps.length + (ks[i' + 1]'hi1).ps.length + 1 ≤ 11) := Lib.hid (by
      have hsib : ∀ j (hj : j < ks.length), j ≠ i → 3 ≤ ks[j].ps.length ∧ ks[j].ps.length ≤ 8 := fun j hj e => ⟨(hb j hj e).2, ((wf_iff _ _).1 (hb j hj e).1).1⟩
      rcases hii with ⟨rfl, rfl⟩ | rfl
      · have := hsib 1 (by omega) (by omega)
        simp only [Nat.zero_add]
        omega
      · have := hsib i' (by omega) (by omega)
        omega)
    have HC := Lib.hid (join_any h i' hi' hl (by omega) ⟨by omega, by omega, by have := hsl.1.klen; omega, by have := hsr.1.klen; omega⟩)
    have hwi : IntKind.i64.wrap ((i : Int) - 1) = (i : Int) - 1 := i64_id _ (by omega) (by omega)
    clear h hnn hkn hsl hsr H0
    go_enter Try.func72, Try.ntmps72
    go_upto_region 2 with fail
    go_upto_region 3 with (go_at_call 85; refine HC.out.mono ?_; rintro e w2 ⟨rfl, J, hon, j1, j2⟩; have HON := Lib.hid hon; have HJ1 := Lib.hid j1; have HJ2 := Lib.hid j2; clear hon j1 j2)
    obtain ⟨m1, m2, m3, m4, m5, m6, m7, m8⟩ := mended_join hi' HL0.out HSL.out.1 HSR.out.1 HBB.out HJ1.out HJ2.out
    have hik2 : i' < (ks.take i' ++ J :: ks.drop (i' + 2)).length := by have := HL0.out; omega
    obtain ⟨jk2, kc2, tg2, aT2, cT2, c12, c22, c32, b12, b22, b32, b42⟩ := HON.out.kidFacts i' hik2
    rw [m5 hik2] at c32 b32
    have hkl2 : (ks.take i' ++ J :: ks.drop (i' + 2)).length = ps.length := by omega
    rw [hkl2] at c12 b12
    have HJ7 : Hid (6 ≤ J.ps.length ∧ J.ps.length ≤ 11) := Lib.hid (by
      have h3 := HSUM.out
      omega)
    obtain ⟨jn, hjn⟩ : ∃ jn, jn = J.ps.length := ⟨_, rfl⟩
    rw [← hjn] at c32 b32
    have HJN := Lib.hid hjn
    have hik3 : (i' : Int) < (ps.length : Int) := by omega
    have M := Lib.hid (⟨m1, m2, m3, m4, m5, m6, m7, m8⟩ : _ ∧ _ ∧ _ ∧ _ ∧ _ ∧ _ ∧ _ ∧ _)
    clear m1 m2 m3 m4 m5 m6 m7 m8 c1 c2 c3
    by_cases hj8 : 8 < jn
    · have hj8' : (8 : Int) < (jn : Int) := by omega
      have g3 : 3 ≤ (ks.take i' ++ J :: ks.drop (i' + 2))[i'].ps.length := by rw [M.out.2.2.2.2.1 hik2]; have := HJ7.out; omega
      have g9 : (ks.take i' ++ J :: ks.drop (i' + 2))[i'].ps.length ≤ 900 := by rw [M.out.2.2.2.2.1 hik2]; have := HJ7.out; omega
      have gm : (ks.take i' ++ J :: ks.drop (i' + 2))[i'].ps.length / 2 < (ks.take i' ++ J :: ks.drop (i' + 2))[i'].ps.length := by omega
      have HC2 := Lib.hid (split_any HON.out i' hik2 (by have := M.out.2.1; have := M.out.2.2.2.1; omega) (by have := M.out.2.2.2.1; omega) (by rw [M.out.2.2.2.2.1 hik2]; exact M.out.2.2.2.2.2.1.lens) g3 g9)
      have HM : Hid (∀ L R : BT, L.ps = (ks.take i' ++ J :: ks.drop (i' + 2))[i'].ps.take ((ks.take i' ++ J :: ks.drop (i' + 2))[i'].ps.length / 2) → L.ks = (ks.take i' ++ J :: ks.drop (i' + 2))[i'].ks.take ((ks.take i' ++ J :: ks.drop (i' + 2))[i'].ps.length / 2 + 1) → R.ps = (ks.take i' ++ J :: ks.drop (i' + 2))[i'].ps.drop ((ks.take i' ++ J :: ks.drop (i' + 2))[i'].ps.length / 2 + 1) → R.ks = (ks.take i' ++ J :: ks.drop (i' + 2))[i'].ks.drop ((ks.take i' ++ J :: ks.drop (i' + 2))[i'].ps.length / 2 + 1) → Mended k 2 ps ks ((ps.take i' ++ ps.drop (i' + 1)).take i' ++ (ks.take i' ++ J :: ks.drop (i' + 2))[i'].ps[(ks.take i' ++ J :: ks.drop (i' + 2))[i'].ps.length / 2]'gm :: (ps.take i' ++ ps.drop (i' + 1)).drop i') ((ks.take i' ++ J :: ks.drop (i' + 2)).take i' ++ L :: R :: (ks.take i' ++ J :: ks.drop (i' + 2)).drop (i' + 1))) := Lib.hid (fun L R l1 l2 r1 r2 => by
        obtain ⟨m1, m2, m3, m4, m5, m6, m7, m8⟩ := M.out
        obtain ⟨p1, p2, p3, p4, p5⟩ := mended_split m3 hik2 (by omega) (by rw [m5 hik2]; exact m6) (by rw [m5 hik2]; have := HJN.out; omega) (by rw [m5 hik2]; have := HJ7.out; omega) l1 l2 r1 r2
        exact ⟨p1.trans m1, p2, p3, by omega, by omega, fun h => by omega, fun _ => by omega, fun P => by have h1 := p5 P; have h2 := m8 P; rw [m5 hik2] at h1; omega⟩)
      clear hjn hkl2
      go_wp2_with (go_at_call 51; refine HC2.out.mono ?_; rintro e w3 ⟨rfl, L, R, hon, l1, l2, r1, r2⟩; have HON3 := Lib.hid hon; have HM2 := Lib.hid (HM.out L R l1 l2 r1 r2); clear hon l1 l2 r1 r2)
      go_end0
      exact ⟨rfl, _, _, HON3.out, HM2.out⟩
    · have hj8' : ¬ (8 : Int) < (jn : Int) := by omega
      have HM : Hid (Mended k 2 ps ks (ps.take i' ++ ps.drop (i' + 1)) (ks.take i' ++ J :: ks.drop (i' + 2))) := Lib.hid (by
        obtain ⟨m1, m2, m3, m4, m5, m6, m7, m8⟩ := M.out
        refine ⟨m1, m2, fun x hx => ?_, by omega, by omega, fun h => by omega, fun _ => by omega, fun P => by have := m8 P; have := toNat_le (P J.g); omega⟩
        obtain ⟨j, hj, rfl⟩ := List.mem_iff_getElem.1 hx
        by_cases e : j = i'
        · subst e
          rw [m5 hj]
          have := HJ7.out
          have := HJN.out
          exact ⟨(wf_iff _ _).2 ⟨by omega, m6⟩, by omega⟩
        · exact m3 j hj e)
      clear hjn hkl2
      go_wp2_with fail
      go_end0
      exact ⟨rfl, _, _, HON.out, HM.out⟩
  · have hn3' : ¬ (n : Int) < 3 := by omega
    by_cases hn8 : 8 < n
    · have hn8' : (8 : Int) < (n : Int) := by omega
      have g3 : 3 ≤ ks[i].ps.length := by omega
      have g9 : ks[i].ps.length ≤ 900 := by omega
      have gm : ks[i].ps.length / 2 < ks[i].ps.length := by omega
      have HC := Lib.hid (split_any h i hi hl (by omega) hs.lens g3 g9)
      have HM : Hid (∀ L R : BT, L.ps = ks[i].ps.take (ks[i].ps.length / 2) → L.ks = ks[i].ks.take (ks[i].ps.length / 2 + 1) → R.ps = ks[i].ps.drop (ks[i].ps.length / 2 + 1) → R.ks = ks[i].ks.drop (ks[i].ps.length / 2 + 1) → Mended k n ps ks (ps.take i ++ ks[i].ps[ks[i].ps.length / 2]'gm :: ps.drop i) (ks.take i ++ L :: R :: ks.drop (i + 1))) := Lib.hid (fun L R l1 l2 r1 r2 => by
        obtain ⟨m1, m2, m3, m4, m5⟩ := mended_split hb hi hl hs (by omega) (by omega) l1 l2 r1 r2
        exact ⟨m1, m2, m3, by omega, by omega, fun _ => by omega, fun h => by omega, fun P => by have := m5 P; omega⟩)
      clear h hnn hkn
      go_enter Try.func72, Try.ntmps72
      go_wp2_with (go_at_call 51; refine HC.out.mono ?_; rintro e w2 ⟨rfl, L, R, hon, l1, l2, r1, r2⟩; have HON := Lib.hid hon; have HM2 := Lib.hid (HM.out L R l1 l2 r1 r2); clear hon l1 l2 r1 r2)
      go_end0
      exact ⟨rfl, _, _, HON.out, HM2.out⟩
    · have hn8' : ¬ (8 : Int) < (n : Int) := by omega
      have HM := Lib.hid (mended_none hb hi hl hs (by omega) (by omega))
      clear h hnn hkn
      go_enter Try.func72, Try.ntmps72
      go_wp2_with fail
      go_end0
      refine ⟨rfl, _, _, H.out, ?_⟩
      rw [HNN.out]
      exact HM.out
end Go.Proofs.Ytfgmhidgkemfoaa
namespace Go.Proofs.Ytfgmhidgkemfoaa
open Go.RowKit
set_option linter.unusedSimpArgs false
set_option linter.unusedVariables false
attribute [local go_sem ↓] exec_loadPair exec_storePair exec_at_zeroP exec_at_succP Go.wp_at_zero Go.wp_at_succ
def Dpu6 : List (Option Tmp) := [some 42, some 43, some 44, some 45, some 46, some 47, some 48, none]
def Lpu6 : List (List Nat) := [[], [0], [1], [2], [], [], [3, 4], [6, 5]]
def Dpu8 : List (Option Tmp) := [some 52, some 53, some 54, some 55, some 56, some 57, some 58, some 59, some 60, some 61, some 62, none]
def Lpu8 : List (List Nat) := [[], [], [1], [2], [3], [], [], [6], [4, 5, 7], [0], [9], [10, 8]]
def Dpu3 : List (Option Tmp) := [some 22, some 23, some 24, some 25, some 26, some 27, some 28, some 29, some 30, some 31, some 32, some 33, some 34, some 35, some 36, none]
def Lpu3 : List (List Nat) := [[], [0], [1], [2], [], [], [5], [6], [7], [], [8, 9], [10], [], [11, 12], [3, 4], [14, 13]]
theorem run_storePairAt (w : World) (b o : Nat) (k v : ByteArray) (h : w.there b o 2) : (storePairA (.pointer (some ⟨b, o, none⟩)) (.agg #[.string k, .string v])).run Try.prog w = .ok .skip (w.setCells b o (KV.mk k v).cells) := by
  unfold storePairA
  simp only [Sem.run_bind, Sem.run_pure, Result.andThen_ok, run_storeAt_mid w b o 65 #[.string k, .string v] h kcells_info (by simp [Value.oneCell'])]
  rfl
theorem ONx.there {D : Nat → Prop} {w0 w : World} {g jp : Nat} {kk : Option Nat} {vp vk : Value} {ps : List KV} {ks xs : List BT} (h : ONx D w0 w g (some jp) kk vp vk ps ks xs) (i : Nat) (hi : i < ps.length) : w.there jp (i * 2) 2 := by
  obtain ⟨cap, cur, -, hg, hn, -, hs, -⟩ := h.hp.row
  intro j hj
  refine ⟨?_, frozen_of_row w jp _ _ _ hg⟩
  rw [cell_of_row w jp _ _ _ _ hg]
  have : i * 2 + j < cur.size := by rw [hs]; omega
  simp [this]
/-- what put makes of a node -/
structure PutOf (k : Nat) (T T' : BT) (p : KV) : Prop where
  sh : T'.Sh k
  list : T'.toL = insL T.toL p
  low : T.ps.length ≤ T'.ps.length
  high : T'.ps.length ≤ T.ps.length + 1
  cnt : ∀ P, T'.cnt P ≤ T.cnt P + (3 * k + 1)
def PutRes (D : Nat → Prop) (w : World) (k : Nat) (T : BT) (p : KV) (e : Ending) (w' : World) : Prop := ∃ T' : BT, e = .returned (.pointer (some ⟨T'.g, 0, none⟩)) ∧ NdD (fun b => D b ∨ w.heap.size ≤ b) w' T' ∧ Below w.heap.size w w' ∧ PutOf k T T' p
theorem cntL_set (P : Nat → Bool) (ks : List BT) (i : Nat) (hi : i < ks.length) (r : BT) : cntL P (ks.set i r) + ks[i].cnt P = cntL P ks + r.cnt P := by
  rw [List.set_eq_take_append_cons_drop, if_pos hi, cntL_app, cntL_cons]
  have := cntL_at P ks i hi
  omega
theorem cnt_new (P : Nat → Bool) (T T' : BT) (d : Nat) (h : cntL P T'.ks ≤ cntL P T.ks + d) : T'.cnt P ≤ T.cnt P + (d + 1) := by
  rw [cnt_eq, cnt_eq P T]
  have := toNat_le (P T'.g)
  omega
/-- a pair in place of another one -/
theorem put_found {k : Nat} {T : BT} {p : KV} {c i : Nat} (hs : T.Sh k) (hso : Sorted T.toL) (hi : i < T.ps.length) (hk : T.ps[i].k = p.k) : PutOf k T (.mk c (T.ps.set i p) T.ks) p := by
  refine ⟨?_, ?_, by show _ ≤ (T.ps.set i p).length; simp, by show (T.ps.set i p).length ≤ _; simp, fun P => ?_⟩
  · rcases hs with h | ⟨h1, h2, h3⟩
    · exact .inl h
    · exact .inr ⟨h1, by show T.ks.length = (T.ps.set i p).length + 1; simpa using h2, h3⟩
  · rw [toL_mk]
    rw [toL_eq] at hso ⊢
    rcases hs.lens with h | h
    · rw [h, toLs_leaf] at hso ⊢
      rw [toLs_leaf]
      exact (ins_leaf_old hso hi hk).symm
    · exact (ins_inner_old h hso hi hk).symm
  · have := cnt_new P T (.mk c (T.ps.set i p) T.ks) 0 (Nat.le_refl _)
    omega
theorem put_leaf {k : Nat} {T : BT} {p : KV} {c i : Nat} (hs : T.Sh k) (hk0 : T.ks = []) (hso : Sorted T.toL) (hp : Place T.ps p.k i) (hf : ¬ ∃ h : i < T.ps.length, T.ps[i].k = p.k) : PutOf k T (.mk c (T.ps.take i ++ p :: T.ps.drop i) T.ks) p := by
  have hl : (T.ps.take i ++ p :: T.ps.drop i).length = T.ps.length + 1 := by have := hp.1; simp only [List.length_append, List.length_take, List.length_cons, List.length_drop]; omega
  refine ⟨?_, ?_, by show _ ≤ (T.ps.take i ++ p :: T.ps.drop i).length; omega, by show (T.ps.take i ++ p :: T.ps.drop i).length ≤ _; omega, fun P => ?_⟩
  · rcases hs with h | ⟨h1, h2, h3⟩
    · exact .inl h
    · rw [hk0] at h2; simp at h2
  · rw [toL_mk, hk0, toLs_leaf]
    rw [toL_eq, hk0, toLs_leaf] at hso ⊢
    exact (ins_leaf hso hp hf).symm
  · have := cnt_new P T (.mk c (T.ps.take i ++ p :: T.ps.drop i) T.ks) 0 (Nat.le_refl _)
    omega
theorem put_inner {k : Nat} {T r : BT} {p : KV} {c i : Nat} {ps5 : List KV} {ks5 : List BT} (hl : T.ks.length = T.ps.length + 1) (hi : i < T.ks.length) (hso : Sorted T.toL) (hp : Place T.ps p.k i) (hf : ¬ ∃ h : i < T.ps.length, T.ps[i].k = p.k) (hr : PutOf k T.ks[i] r p) (h3 : 3 ≤ T.ks[i].ps.length) (hm : Mended k r.ps.length T.ps (T.ks.set i r) ps5 ks5) : PutOf (k + 1) T (.mk c ps5 ks5) p := by
  refine ⟨.inr ⟨by omega, hm.lens, hm.kids⟩, ?_, ?_, hm.high, fun P => ?_⟩
  · rw [toL_mk, hm.list, toL_eq]
    rw [toL_eq] at hso
    exact (ins_inner hl hso hp hi hf r hr.list).symm
  · exact hm.low2 (Nat.le_trans h3 hr.low)
  · have h1 := hm.cnt P
    have h2 := cntL_set P T.ks i hi r
    have h4 := hr.cnt P
    have := cnt_new P T (.mk c ps5 ks5) (3 * k + 3) (by show cntL P ks5 ≤ _; omega)
    omega
set_option maxRecDepth 100000 in
set_option maxHeartbeats 4000000 in
theorem put_step {D : Nat → Prop} {w : World} {T : BT} (hT : NdD D w T) (k : Nat) (hs : T.Sh k) (h8 : T.ps.length ≤ 8) (h1 : 1 ≤ T.ps.length) (hso : Sorted T.toL) (pk pv : ByteArray) (hrec : ∀ (E : Nat → Prop) (u : World) (C : BT), C ∈ T.ks → Sorted C.toL → NdD E u C → Calls Try.prog 50 #[.pointer (some ⟨C.g, 0, none⟩), .agg #[.string pk, .string pv]] u (PutRes E u (k - 1) C ⟨pk, pv⟩)) :
    Calls Try.prog 50 #[.pointer (some ⟨T.g, 0, none⟩), .agg #[.string pk, .string pv]] w (PutRes D w k T ⟨pk, pv⟩) := by
  obtain ⟨gb, hgb⟩ : ∃ gb, gb = w.heap.size := ⟨_, rfl⟩
  obtain ⟨wb, hwb⟩ : ∃ wb, wb = w.alloc (.cells #[.string pk, .string pv] 65) := ⟨_, rfl⟩
  have hbw : Below w.heap.size w wb := by rw [hwb]; exact (Below.refl _ _).alloc (Nat.le_refl _) _
  have hbb : wb.heap[gb]? = some (.cells (kcells ⟨pk, pv⟩) 65 (0, 0)) := by rw [hwb, hgb]; exact heap_new rfl
  have HFI := Lib.hid (find_any (hT.under hbw).nd pk (by rcases k with _ | k; exact Sorted.ps ((wf_iff _ _).2 ⟨h8, hs⟩) hso; exact Sorted.ps ((wf_iff _ _).2 ⟨h8, hs⟩) hso) (by omega))
  have HT := Lib.hid hT
  have HBW := Lib.hid hbw
  have HBB := Lib.hid hbb
  have HS := Lib.hid hs
  have HSO := Lib.hid hso
  have HRC := Lib.hid hrec
  have HH : Hid (1 ≤ T.ps.length ∧ T.ps.length ≤ 8) := Lib.hid ⟨h1, h8⟩
  have HTGL : Hid (T.g < w.heap.size) := Lib.hid hT.nd.lt
  have mixed : Try.prog.follows .mixedOrders = true := by kernel_rfl
  obtain ⟨tg, htg⟩ : ∃ tg, tg = T.g := ⟨_, rfl⟩
  rw [← htg] at HFI HTGL ⊢
  have HTG := Lib.hid htg
  clear hT hbw hbb hs hso hrec h1 h8 htg
  go_enter Try.func50, Try.ntmps50
  go_upto_region 1 with fail
  rw [← hwb, ← hgb]
  have c00 : wb.cell? ⟨gb, 0, none⟩ = some (.string pk) := cell_of_row wb gb 0 _ _ _ HBB.out
  have HGB : Hid (gb < wb.heap.size) := Lib.hid (heap_lt HBB.out)
  have HGW : Hid (gb = w.heap.size) := Lib.hid hgb
  clear hwb hgb
  go_upto_region 2 with (go_at_call 59; refine HFI.out.mono ?_; rintro e w1 ⟨i, rfl, hpl, hb1⟩; have HPL := Lib.hid hpl; have HB1 := Lib.hid (HBW.out.trans (hb1.mono HBW.out.size)); have HBB1 := Lib.hid ((hb1.block _ HGB.out).trans HBB.out); have HGB1 := Lib.hid (Nat.lt_of_lt_of_le HGB.out hb1.size); clear hpl hb1)
  have hT1 : NdD D w1 T := HT.out.under HB1.out
  obtain ⟨aT, nT, cT, bT, mT, eT, -, -, ct0, ct1, htp, htk, -⟩ := hT1.facts
  rw [← HTG.out] at ct0 ct1
  have hnT := htp.1
  rw [← hnT] at ct0
  have HPA := Lib.hid (part_any hT1 HS.out.lens 0 T.ps.length (by have := HH.out; omega) (Nat.le_refl _) (by have := HH.out; omega))
  rw [← HTG.out, List.take_length] at HPA
  have e2 : T.ks.take (T.ps.length + 1) = T.ks := by
    rcases HS.out.lens with h | h
    · rw [h]; simp
    · rw [← h, List.take_length]
  rw [e2] at HPA
  have HTK := Lib.hid htk
  have CT1 := Lib.hid ct1
  clear hT1 htp e2 hnT c00 htk ct1
  go_upto_region 5 with (go_at_call 70; refine HPA.out.mono ?_; rintro e q ⟨c, rfl, hon⟩; have HON0 := Lib.hid hon; clear hon)
  obtain ⟨kp, kk, vp, vk, hon⟩ := HON0.out
  obtain ⟨ps, hps⟩ : ∃ ps, ps = T.ps := ⟨_, rfl⟩
  obtain ⟨ks, hks⟩ : ∃ ks, ks = T.ks := ⟨_, rfl⟩
  obtain ⟨xs, hxs⟩ : ∃ xs, xs = T :: T.ks := ⟨_, rfl⟩
  have hon : ONx D w1 q c kp kk vp vk ps ks xs := by
    have h := hon
    rw [List.drop_zero, List.drop_zero, ← hps, ← hxs, ← hks] at h
    exact h
  have HPS := Lib.hid hps
  have HKS := Lib.hid hks
  have hbq : Below w1.heap.size w1 q := hon.below
  have HBQ : Hid (Below w.heap.size w q) := Lib.hid (HB1.out.trans (hbq.mono HB1.out.size))
  have hbb : q.heap[gb]? = some (.cells (kcells ⟨pk, pv⟩) 65 (0, 0)) := (hbq.block _ HGB1.out).trans HBB1.out
  have HRB : Hid (q.rangeAt gb 0 (KV.mk pk pv).cells) := Lib.hid (range_kv hbb)
  obtain ⟨hcl, c0, c1, -, -⟩ := hon.facts
  have hpl := HPL.out
  have HFIN : Hid (∀ (w' : World) (ps' : List KV) (ks' xs' : List BT), ON D w1 w' c ps' ks' xs' → PutOf k T (.mk c ps' ks') ⟨pk, pv⟩ → PutRes D w k T ⟨pk, pv⟩ (.returned (.pointer (some ⟨c, 0, none⟩))) w') := Lib.hid (fun w' ps' ks' xs' h hp => by
    obtain ⟨_, _, _, _, h⟩ := h
    exact ⟨_, rfl, h.nd.dom (fun b hb => hb.imp id (Nat.le_trans HB1.out.size)), HB1.out.trans (h.below.mono HB1.out.size), hp⟩)
  have HCL := Lib.hid hcl
  have C0 := Lib.hid c0
  have C1 := Lib.hid c1
  have HIE0 : Hid (i ≤ T.ps.length) := Lib.hid hpl.1
  obtain ⟨jp, cv, rfl, rfl, hcv, hcm, hjpl⟩ := hon.pairAt (by rw [hps]; have := HH.out; omega)
  obtain ⟨n, hn⟩ : ∃ n, n = ps.length := ⟨_, rfl⟩
  rw [← hn] at hon C0 hcv
  have HNV := Lib.hid hn
  have HON := Lib.hid hon
  have hcm2 : cv ≤ 9223372036854775807 := hcm
  have HOP : Hid (Own q 65 2 (some jp) (.slice (some ⟨jp, 0, none⟩) n cv) n (pcells ps)) := Lib.hid (by have := hon.hp; rwa [← hn] at this)
  clear hpl hbq hbb hcl c0 c1 hps hks hxs hcm hjpl HON0 HPA
  by_cases hfd : ∃ h : i < T.ps.length, T.ps[i].k = pk
  · rw [decide_eq_true hfd]
    have HIN : Hid (i < ps.length) := Lib.hid (by rw [HPS.out]; exact hfd.1)
    have hin : (i : Int) < (n : Int) := by have := HIN.out; have := HNV.out; omega
    have HRES : Hid (∀ (e : Unit) (w' : World), ONx D w1 w' c (some jp) kk (.slice (some ⟨jp, 0, none⟩) n cv) vk (ps.set i ⟨pk, pv⟩) ks xs → PutRes D w k T ⟨pk, pv⟩ (.returned (.pointer (some ⟨c, 0, none⟩))) w') := Lib.hid (fun _ w' h => HFIN.out w' _ _ _ ⟨_, _, _, _, h⟩ (by rw [HPS.out, HKS.out]; exact put_found HS.out HSO.out hfd.1 hfd.2))
    clear hon hn
    go_upto_region 6 with fail
    refine Roll.region_f 6 64 Dpu6 Lpu6 [(0, .pointer (some ⟨tg, 0, none⟩)), (3, .pointer (some ⟨gb, 0, none⟩)), (5, .int .i64 (i : Int)), (7, .pointer (some ⟨c, 0, none⟩))] (fun p => Below q.heap.size q p) (fun p p2 => Below p.heap.size p p2) [fun vv p => vv = .pointer (some ⟨c, 0, none⟩), fun vv p => vv = .pointer (some ⟨c, 0, none⟩), fun vv p => vv = .pointer (some ⟨c, 0, none⟩), fun vv p => vv = .slice (some ⟨jp, 0, none⟩) n cv, fun vv p => vv = .int .i64 (i : Int), fun vv p => vv = .agg #[.string pk, .string pv]] (by kernel_rfl) (by kernel_rfl) rfl ⟨rfl, rfl, rfl, rfl, trivial⟩ ((Below.refl _ _).drew) ?_ ?_ ?_
    · exact ⟨fun _ _ _ _ h => h, fun _ _ _ _ h => h, fun _ _ _ _ h => h, fun _ _ _ _ h => h, fun _ _ _ _ h => h, fun _ _ _ _ h => h, trivial⟩
    · intro b0 hN hlv
      refine ⟨?_, ?_, ?_, ?_, ?_, ?_, trivial⟩
      · intro vs p hI hp
        have e7 : (Roll.putD Dpu6 vs [] b0).eval (.tmp 7) = .pointer (some ⟨c, 0, none⟩) := (Roll.eval_old rfl).trans (hlv.at 3 (7, .pointer (some ⟨c, 0, none⟩)) rfl)
        clear hp hlv hN
        unfold Roll.Goes
        simp only [Lpu6, List.getD_cons_zero, List.getD_cons_succ]
        generalize Roll.putD Dpu6 vs [] b0 = a1 at *
        refine Roll.goes_val (w' := p) (.pointer (some ⟨c, 0, none⟩)) rfl ?_ ⟨hI, Below.refl _ _, rfl⟩
        (have ec : ∀ x, a1.eval (.const x) = x := fun _ => rfl); (have ef : ∀ x, a1.eval (.func x) = .func (.func x) #[] #[] := fun _ => rfl); generalize a1.eval = ρ at *
        skip
        go_simp <;> (intros; first | (exfalso; omega) | rfl)
      · intro vs p hI hp
        have h0 : (vs 0) = .pointer (some ⟨c, 0, none⟩) := hp 0 (by simp [Lpu6])
        have e42 : (Roll.putD Dpu6 vs [0] b0).eval (.tmp 42) = .pointer (some ⟨c, 0, none⟩) := (Roll.eval_new 0 rfl (by decide) (by decide) (by omega)).trans h0
        clear hp hlv hN
        unfold Roll.Goes
        simp only [Lpu6, List.getD_cons_zero, List.getD_cons_succ]
        generalize Roll.putD Dpu6 vs [0] b0 = a1 at *
        refine Roll.goes_val (w' := p) (.pointer (some ⟨c, 0, none⟩)) rfl ?_ ⟨hI, Below.refl _ _, rfl⟩
        (have ec : ∀ x, a1.eval (.const x) = x := fun _ => rfl); (have ef : ∀ x, a1.eval (.func x) = .func (.func x) #[] #[] := fun _ => rfl); generalize a1.eval = ρ at *
        clear h0
        go_simp <;> (intros; first | (exfalso; omega) | rfl)
      · intro vs p hI hp
        have h1 : (vs 1) = .pointer (some ⟨c, 0, none⟩) := hp 1 (by simp [Lpu6])
        have e43 : (Roll.putD Dpu6 vs [1] b0).eval (.tmp 43) = .pointer (some ⟨c, 0, none⟩) := (Roll.eval_new 1 rfl (by decide) (by decide) (by omega)).trans h1
        clear hp hlv hN
        unfold Roll.Goes
        simp only [Lpu6, List.getD_cons_zero, List.getD_cons_succ]
        generalize Roll.putD Dpu6 vs [1] b0 = a1 at *
        refine Roll.goes_val (w' := p) (.pointer (some ⟨c, 0, none⟩)) rfl ?_ ⟨hI, Below.refl _ _, rfl⟩
        (have ec : ∀ x, a1.eval (.const x) = x := fun _ => rfl); (have ef : ∀ x, a1.eval (.func x) = .func (.func x) #[] #[] := fun _ => rfl); generalize a1.eval = ρ at *
        clear h1
        go_simp <;> (intros; first | (exfalso; omega) | rfl)
      · intro vs p hI hp
        have h2 : (vs 2) = .pointer (some ⟨c, 0, none⟩) := hp 2 (by simp [Lpu6])
        have e44 : (Roll.putD Dpu6 vs [2] b0).eval (.tmp 44) = .pointer (some ⟨c, 0, none⟩) := (Roll.eval_new 2 rfl (by decide) (by decide) (by omega)).trans h2
        clear hp hlv hN
        unfold Roll.Goes
        simp only [Lpu6, List.getD_cons_zero, List.getD_cons_succ]
        generalize Roll.putD Dpu6 vs [2] b0 = a1 at *
        have cf : p.cell? ⟨c, 0, none⟩ = some (.slice (some ⟨jp, 0, none⟩) n cv) := (hI.cell (p := ⟨c, 0, none⟩) HCL.out).trans C0.out
        refine Roll.goes_val (w' := p) (.slice (some ⟨jp, 0, none⟩) n cv) rfl ?_ ⟨hI, Below.refl _ _, rfl⟩
        (have ec : ∀ x, a1.eval (.const x) = x := fun _ => rfl); (have ef : ∀ x, a1.eval (.func x) = .func (.func x) #[] #[] := fun _ => rfl); generalize a1.eval = ρ at *
        clear h2
        go_simp <;> (intros; first | (exfalso; omega) | rfl)
      · intro vs p hI hp
        have e5 : (Roll.putD Dpu6 vs [] b0).eval (.tmp 5) = .int .i64 (i : Int) := (Roll.eval_old rfl).trans (hlv.at 2 (5, .int .i64 (i : Int)) rfl)
        clear hp hlv hN
        unfold Roll.Goes
        simp only [Lpu6, List.getD_cons_zero, List.getD_cons_succ]
        generalize Roll.putD Dpu6 vs [] b0 = a1 at *
        refine Roll.goes_val (w' := p) (.int .i64 (i : Int)) rfl ?_ ⟨hI, Below.refl _ _, rfl⟩
        (have ec : ∀ x, a1.eval (.const x) = x := fun _ => rfl); (have ef : ∀ x, a1.eval (.func x) = .func (.func x) #[] #[] := fun _ => rfl); generalize a1.eval = ρ at *
        skip
        go_simp <;> (intros; first | (exfalso; omega) | rfl)
      · intro vs p hI hp
        have e3 : (Roll.putD Dpu6 vs [] b0).eval (.tmp 3) = .pointer (some ⟨gb, 0, none⟩) := (Roll.eval_old rfl).trans (hlv.at 1 (3, .pointer (some ⟨gb, 0, none⟩)) rfl)
        clear hp hlv hN
        unfold Roll.Goes
        simp only [Lpu6, List.getD_cons_zero, List.getD_cons_succ]
        generalize Roll.putD Dpu6 vs [] b0 = a1 at *
        have ld0 := run_loadPair (range_below HRB.out (by simp [KV.cells]) hI)
        refine Roll.goes_val (w' := p) (.agg #[.string pk, .string pv]) rfl ?_ ⟨hI, Below.refl _ _, rfl⟩
        (have ec : ∀ x, a1.eval (.const x) = x := fun _ => rfl); (have ef : ∀ x, a1.eval (.func x) = .func (.func x) #[] #[] := fun _ => rfl); generalize a1.eval = ρ at *
        skip
        go_simp <;> (intros; first | (exfalso; omega) | rfl)
    · intro vs p hI hR
      have h0 : (vs 0) = .pointer (some ⟨c, 0, none⟩) := hR 0 (by omega)
      have h1 : (vs 1) = .pointer (some ⟨c, 0, none⟩) := hR 1 (by omega)
      have h2 : (vs 2) = .pointer (some ⟨c, 0, none⟩) := hR 2 (by omega)
      have h3 : (vs 3) = .slice (some ⟨jp, 0, none⟩) n cv := hR 3 (by omega)
      have h4 : (vs 4) = .int .i64 (i : Int) := hR 4 (by omega)
      have h5 : (vs 5) = .agg #[.string pk, .string pv] := hR 5 (by omega)
      clear hR
      simp only [List.range_succ, List.range_zero, List.nil_append, List.cons_append, Roll.putD, Act.put, List.getD_cons_zero, List.getD_cons_succ, List.setIfInBounds_toArray, List.set_cons_zero, List.set_cons_succ, List.drop_succ_cons, List.drop_zero, Dpu6]
      simp only [h0, h1, h2, h3, h4, h5]
      clear h0 h1 h2 h3 h4 h5
      have th := (HON.out.under hI).there i HIN.out
      have st0 := run_storePairAt p jp (i * 2) pk pv th
      clear th
      have HON2 := Lib.hid ((HON.out.under hI).setP i HIN.out ⟨pk, pv⟩)
      clear hI
      go_wp2_with fail
      go_ret
      exact HRES.out () _ HON2.out
  · rw [decide_eq_false hfd]
    have HFD := Lib.hid hfd
    by_cases hk0 : T.ks = []
    · have HLF : Hid (Calls Try.prog 69 #[.pointer (some ⟨tg, 0, none⟩)] q fun e w' => e = .returned (.bool true) ∧ q = w') := Lib.hid (by
        have := leaf_any (HT.out.under HBQ.out).nd
        rw [← HTG.out, hk0] at this
        exact this)
      have HIE : Hid (i ≤ n) := Lib.hid (by have := HIE0.out; rw [HNV.out, HPS.out]; exact this)
      have HNB : Hid (n ≤ 1000) := Lib.hid (by have := HH.out; rw [HNV.out, HPS.out]; omega)
      have ND1 : Hid (¬ some jp = some c) := Lib.hid hon.d1
      have ND2 : Hid (¬ some jp = some gb) := Lib.hid (fun e => by cases e; have := hon.n1 gb rfl; have := HGB1.out; omega)
      have HRES2 : Hid (∀ (e : Unit) (w' : World), ON D w1 w' c (ps.take i ++ ⟨pk, pv⟩ :: ps.drop i) ks xs → PutRes D w k T ⟨pk, pv⟩ (.returned (.pointer (some ⟨c, 0, none⟩))) w') := Lib.hid (fun _ w' h => HFIN.out w' _ _ _ h (by rw [HPS.out, HKS.out]; exact put_leaf HS.out hk0 HSO.out HPL.out HFD.out))
      clear hon hn hk0 hfd
      go_upto_region 8 with (go_at_call 69; refine HLF.out.mono ?_; rintro e w4 ⟨rfl, rfl⟩)
      refine Roll.region_v 9 64 Dpu8 Lpu8 [(0, .pointer (some ⟨tg, 0, none⟩)), (3, .pointer (some ⟨gb, 0, none⟩)), (5, .int .i64 (i : Int)), (7, .pointer (some ⟨c, 0, none⟩))] 8 [true, true, true, true, true, true, true, false, false] (fun p => Below q.heap.size q p) (fun vv p => ∃ k2, Own p 65 2 k2 vv (n + 1) (insC (pcells ps) [.string pk, .string pv] (i * 2)) ∧ RowTo q p (some jp) k2) (fun p => Kept (fun j => some jp = some j) q p) (fun p p2 => Kept (fun j => some jp = some j) p p2) [fun vv p => (vv 0) = .pointer (some ⟨c, 0, none⟩), fun vv p => (vv 1) = .pointer (some ⟨c, 0, none⟩), fun vv p => (vv 2) = .pointer (some ⟨c, 0, none⟩), fun vv p => (vv 3) = .pointer (some ⟨c, 0, none⟩), fun vv p => (vv 4) = .slice (some ⟨jp, 0, none⟩) n cv, fun vv p => (vv 5) = .int .i64 (i : Int), fun vv p => (vv 6) = .agg #[.string pk, .string pv], fun vv p => ∃ x, (vv 7) = .slice (some ⟨x, 0, none⟩) 1 1 ∧ q.heap.size ≤ x ∧ p.heap[x]? = some (.cells #[.string pk, .string pv] 65 (0, 0)), fun vv p => True] (by kernel_rfl) (by kernel_rfl) rfl ⟨rfl, rfl, rfl, rfl, trivial⟩ ((Below.refl _ _).drew) (by decide) (by kernel_rfl) (fun _ h => Kept.of_below _ h) (fun _ _ h => by obtain ⟨_, _, h⟩ := h; exact h.2) (fun _ => Kept.refl _ _) ?_ ?_ ?_
      · exact ⟨fun _ _ _ _ h => h, fun _ _ _ _ h => h, fun _ _ _ _ h => h, fun _ _ _ _ h => h, fun _ _ _ _ h => h, fun _ _ _ _ h => h, fun _ _ _ _ h => h, fun _ _ _ hs h => by obtain ⟨x, e1, e2, e3⟩ := h; exact ⟨x, e1, e2, hs.heap e3 (fun e => by have := HOP.out.lt _ e; omega)⟩, fun _ _ _ _ h => h, trivial⟩
      · intro b0 hN hlv
        refine ⟨?_, ?_, ?_, ?_, ?_, ?_, ?_, ?_, ?_, trivial⟩
        · intro vs p hI0 hp
          have hI := Roll.inw_pure (by decide) rfl hI0
          clear hI0
          have e7 : (Roll.putD Dpu8 vs [] b0).eval (.tmp 7) = .pointer (some ⟨c, 0, none⟩) := (Roll.eval_old rfl).trans (hlv.at 3 (7, .pointer (some ⟨c, 0, none⟩)) rfl)
          clear hp hlv hN
          unfold Roll.Goes
          simp only [Lpu8, List.getD_cons_zero, List.getD_cons_succ]
          generalize Roll.putD Dpu8 vs [] b0 = a1 at *
          refine Roll.goes_val (w' := p) (.pointer (some ⟨c, 0, none⟩)) rfl ?_ ⟨(Roll.outw_pure (by decide) rfl), rfl⟩
          (have ec : ∀ x, a1.eval (.const x) = x := fun _ => rfl); (have ef : ∀ x, a1.eval (.func x) = .func (.func x) #[] #[] := fun _ => rfl); generalize a1.eval = ρ at *
          skip
          go_simp <;> (intros; first | (exfalso; omega) | rfl)
        · intro vs p hI0 hp
          have hI := Roll.inw_pure (by decide) rfl hI0
          clear hI0
          have e7 : (Roll.putD Dpu8 vs [] b0).eval (.tmp 7) = .pointer (some ⟨c, 0, none⟩) := (Roll.eval_old rfl).trans (hlv.at 3 (7, .pointer (some ⟨c, 0, none⟩)) rfl)
          clear hp hlv hN
          unfold Roll.Goes
          simp only [Lpu8, List.getD_cons_zero, List.getD_cons_succ]
          generalize Roll.putD Dpu8 vs [] b0 = a1 at *
          refine Roll.goes_val (w' := p) (.pointer (some ⟨c, 0, none⟩)) rfl ?_ ⟨(Roll.outw_pure (by decide) rfl), rfl⟩
          (have ec : ∀ x, a1.eval (.const x) = x := fun _ => rfl); (have ef : ∀ x, a1.eval (.func x) = .func (.func x) #[] #[] := fun _ => rfl); generalize a1.eval = ρ at *
          skip
          go_simp <;> (intros; first | (exfalso; omega) | rfl)
        · intro vs p hI0 hp
          have hI := Roll.inw_pure (by decide) rfl hI0
          clear hI0
          have h1 : (vs 1) = .pointer (some ⟨c, 0, none⟩) := hp 1 (by simp [Lpu8])
          have e53 : (Roll.putD Dpu8 vs [1] b0).eval (.tmp 53) = .pointer (some ⟨c, 0, none⟩) := (Roll.eval_new 1 rfl (by decide) (by decide) (by omega)).trans h1
          clear hp hlv hN
          unfold Roll.Goes
          simp only [Lpu8, List.getD_cons_zero, List.getD_cons_succ]
          generalize Roll.putD Dpu8 vs [1] b0 = a1 at *
          refine Roll.goes_val (w' := p) (.pointer (some ⟨c, 0, none⟩)) rfl ?_ ⟨(Roll.outw_pure (by decide) rfl), rfl⟩
          (have ec : ∀ x, a1.eval (.const x) = x := fun _ => rfl); (have ef : ∀ x, a1.eval (.func x) = .func (.func x) #[] #[] := fun _ => rfl); generalize a1.eval = ρ at *
          clear h1
          go_simp <;> (intros; first | (exfalso; omega) | rfl)
        · intro vs p hI0 hp
          have hI := Roll.inw_pure (by decide) rfl hI0
          clear hI0
          have h2 : (vs 2) = .pointer (some ⟨c, 0, none⟩) := hp 2 (by simp [Lpu8])
          have e54 : (Roll.putD Dpu8 vs [2] b0).eval (.tmp 54) = .pointer (some ⟨c, 0, none⟩) := (Roll.eval_new 2 rfl (by decide) (by decide) (by omega)).trans h2
          clear hp hlv hN
          unfold Roll.Goes
          simp only [Lpu8, List.getD_cons_zero, List.getD_cons_succ]
          generalize Roll.putD Dpu8 vs [2] b0 = a1 at *
          refine Roll.goes_val (w' := p) (.pointer (some ⟨c, 0, none⟩)) rfl ?_ ⟨(Roll.outw_pure (by decide) rfl), rfl⟩
          (have ec : ∀ x, a1.eval (.const x) = x := fun _ => rfl); (have ef : ∀ x, a1.eval (.func x) = .func (.func x) #[] #[] := fun _ => rfl); generalize a1.eval = ρ at *
          clear h2
          go_simp <;> (intros; first | (exfalso; omega) | rfl)
        · intro vs p hI0 hp
          have hI := Roll.inw_pure (by decide) rfl hI0
          clear hI0
          have h3 : (vs 3) = .pointer (some ⟨c, 0, none⟩) := hp 3 (by simp [Lpu8])
          have e55 : (Roll.putD Dpu8 vs [3] b0).eval (.tmp 55) = .pointer (some ⟨c, 0, none⟩) := (Roll.eval_new 3 rfl (by decide) (by decide) (by omega)).trans h3
          clear hp hlv hN
          unfold Roll.Goes
          simp only [Lpu8, List.getD_cons_zero, List.getD_cons_succ]
          generalize Roll.putD Dpu8 vs [3] b0 = a1 at *
          have cf : p.cell? ⟨c, 0, none⟩ = some (.slice (some ⟨jp, 0, none⟩) n cv) := (hI.cell (p := ⟨c, 0, none⟩) HCL.out ND1.out).trans C0.out
          refine Roll.goes_val (w' := p) (.slice (some ⟨jp, 0, none⟩) n cv) rfl ?_ ⟨(Roll.outw_pure (by decide) rfl), rfl⟩
          (have ec : ∀ x, a1.eval (.const x) = x := fun _ => rfl); (have ef : ∀ x, a1.eval (.func x) = .func (.func x) #[] #[] := fun _ => rfl); generalize a1.eval = ρ at *
          clear h3
          go_simp <;> (intros; first | (exfalso; omega) | rfl)
        · intro vs p hI0 hp
          have hI := Roll.inw_pure (by decide) rfl hI0
          clear hI0
          have e5 : (Roll.putD Dpu8 vs [] b0).eval (.tmp 5) = .int .i64 (i : Int) := (Roll.eval_old rfl).trans (hlv.at 2 (5, .int .i64 (i : Int)) rfl)
          clear hp hlv hN
          unfold Roll.Goes
          simp only [Lpu8, List.getD_cons_zero, List.getD_cons_succ]
          generalize Roll.putD Dpu8 vs [] b0 = a1 at *
          refine Roll.goes_val (w' := p) (.int .i64 (i : Int)) rfl ?_ ⟨(Roll.outw_pure (by decide) rfl), rfl⟩
          (have ec : ∀ x, a1.eval (.const x) = x := fun _ => rfl); (have ef : ∀ x, a1.eval (.func x) = .func (.func x) #[] #[] := fun _ => rfl); generalize a1.eval = ρ at *
          skip
          go_simp <;> (intros; first | (exfalso; omega) | rfl)
        · intro vs p hI0 hp
          have hI := Roll.inw_pure (by decide) rfl hI0
          clear hI0
          have e3 : (Roll.putD Dpu8 vs [] b0).eval (.tmp 3) = .pointer (some ⟨gb, 0, none⟩) := (Roll.eval_old rfl).trans (hlv.at 1 (3, .pointer (some ⟨gb, 0, none⟩)) rfl)
          clear hp hlv hN
          unfold Roll.Goes
          simp only [Lpu8, List.getD_cons_zero, List.getD_cons_succ]
          generalize Roll.putD Dpu8 vs [] b0 = a1 at *
          have ld0 := run_loadPair (range_kept HRB.out (by simp [KV.cells]) hI ND2.out)
          refine Roll.goes_val (w' := p) (.agg #[.string pk, .string pv]) rfl ?_ ⟨(Roll.outw_pure (by decide) rfl), rfl⟩
          (have ec : ∀ x, a1.eval (.const x) = x := fun _ => rfl); (have ef : ∀ x, a1.eval (.func x) = .func (.func x) #[] #[] := fun _ => rfl); generalize a1.eval = ρ at *
          skip
          go_simp <;> (intros; first | (exfalso; omega) | rfl)
        · intro vs p hI0 hp
          have hI := Roll.inw_pre (by decide) rfl hI0
          clear hI0
          have h6 : (vs 6) = .agg #[.string pk, .string pv] := hp 6 (by simp [Lpu8])
          have e58 : (Roll.putD Dpu8 vs [6] b0).eval (.tmp 58) = .agg #[.string pk, .string pv] := (Roll.eval_new 6 rfl (by decide) (by decide) (by omega)).trans h6
          clear hp hlv hN
          unfold Roll.Goes
          simp only [Lpu8, List.getD_cons_zero, List.getD_cons_succ]
          generalize Roll.putD Dpu8 vs [6] b0 = a1 at *
          have hal : Below p.heap.size p (p.alloc (.cells #[.string pk, .string pv] 65)) := (Below.refl _ _).alloc (Nat.le_refl _) _
          refine Roll.goes_val (w' := p.alloc (.cells #[.string pk, .string pv] 65)) (.slice (some ⟨p.heap.size, 0, none⟩) 1 1) rfl (by have ec : ∀ x, a1.eval (.const x) = x := fun _ => rfl; have ef : ∀ x, a1.eval (.func x) = .func (.func x) #[] #[] := fun _ => rfl; have hbs := run_bs1P; generalize a1.eval = ρ at *; go_simp <;> (intros; first | (exfalso; omega) | rfl)) ⟨Roll.outw_pre (by decide) rfl (hI.trans (hal.mono hI.size)) (Kept.of_below _ hal), p.heap.size, rfl, hI.size, heap_new rfl⟩
        · intro vs p hI0 hp
          have hI := Roll.inw_k0 rfl hI0
          clear hI0
          have h4 : (vs 4) = .slice (some ⟨jp, 0, none⟩) n cv := hp 4 (by simp [Lpu8])
          have h5 : (vs 5) = .int .i64 (i : Int) := hp 5 (by simp [Lpu8])
          have h7 : ∃ x, (vs 7) = .slice (some ⟨x, 0, none⟩) 1 1 ∧ q.heap.size ≤ x ∧ p.heap[x]? = some (.cells #[.string pk, .string pv] 65 (0, 0)) := hp 7 (by simp [Lpu8])
          have e56 : (Roll.putD Dpu8 vs [4, 5, 7] b0).eval (.tmp 56) = .slice (some ⟨jp, 0, none⟩) n cv := (Roll.eval_new 4 rfl (by decide) (by decide) (by omega)).trans h4
          have e57 : (Roll.putD Dpu8 vs [4, 5, 7] b0).eval (.tmp 57) = .int .i64 (i : Int) := (Roll.eval_new 5 rfl (by decide) (by decide) (by omega)).trans h5
          have e59 : (Roll.putD Dpu8 vs [4, 5, 7] b0).eval (.tmp 59) = vs 7 := (Roll.eval_new 7 rfl (by decide) (by decide) (by omega))
          clear hp hlv hN
          unfold Roll.Goes
          simp only [Lpu8, List.getD_cons_zero, List.getD_cons_succ]
          generalize Roll.putD Dpu8 vs [4, 5, 7] b0 = a1 at *
          obtain ⟨x, hvx, hxq, hhx⟩ := h7
          rw [hvx] at e59
          refine Roll.goes_call 71 #[.slice (some ⟨jp, 0, none⟩) n cv, .int .i64 (i : Int), .slice (some ⟨x, 0, none⟩) 1 1] p rfl (by have ec : ∀ x, a1.eval (.const x) = x := fun _ => rfl; have ef : ∀ x, a1.eval (.func x) = .func (.func x) #[] #[] := fun _ => rfl; generalize a1.eval = ρ at *; go_simp) ?_
          refine (insertP_any p (some jp) (.slice (some ⟨jp, 0, none⟩) n cv) n (pcells ps) [.string pk, .string pv] i x 65 (HOP.out.kept (Kept.of_below (fun _ => False) hI) (fun _ _ h => h)) rfl (pcells_one ps) (by simp [Value.oneCell']) HIE.out HNB.out hhx (fun e => by have := HOP.out.lt x e; omega)).mono ?_
          rintro y p2 ⟨k2, v2, rfl, ho, hr⟩
          exact ⟨_, rfl, Roll.outw_k0 rfl ⟨k2, ho, fun j hj => (hr.1 j hj).imp id (fun e => Nat.le_trans hI.size e), (Kept.of_below _ hI).trans hr.2 (fun _ _ h => h)⟩ hr.2, trivial⟩
      · intro vs p hI hR
        have h0 : (vs 0) = .pointer (some ⟨c, 0, none⟩) := hR 0 (by omega)
        have h1 : (vs 1) = .pointer (some ⟨c, 0, none⟩) := hR 1 (by omega)
        have h2 : (vs 2) = .pointer (some ⟨c, 0, none⟩) := hR 2 (by omega)
        have h3 : (vs 3) = .pointer (some ⟨c, 0, none⟩) := hR 3 (by omega)
        have h4 : (vs 4) = .slice (some ⟨jp, 0, none⟩) n cv := hR 4 (by omega)
        have h5 : (vs 5) = .int .i64 (i : Int) := hR 5 (by omega)
        have h6 : (vs 6) = .agg #[.string pk, .string pv] := hR 6 (by omega)
        have h7 : ∃ x, (vs 7) = .slice (some ⟨x, 0, none⟩) 1 1 ∧ q.heap.size ≤ x ∧ p.heap[x]? = some (.cells #[.string pk, .string pv] 65 (0, 0)) := hR 7 (by omega)
        have h8 : True := hR 8 (by omega)
        clear hR
        simp only [List.range_succ, List.range_zero, List.nil_append, List.cons_append, Roll.putD, Act.put, List.getD_cons_zero, List.getD_cons_succ, List.setIfInBounds_toArray, List.set_cons_zero, List.set_cons_succ, List.drop_succ_cons, List.drop_zero, Dpu8]
        simp only [h0, h1, h2, h3, h4, h5, h6]
        clear h0 h1 h2 h3 h4 h5 h6
        clear h7 h8
        generalize vs 7 = v7 at *; generalize vs 8 = v8 at *
        obtain ⟨k2, ho, hr⟩ := hI
        obtain ⟨a2, c2, rfl, -⟩ := id ho.sl
        have hgp := hr.2.heap HON.out.blk HON.out.d1
        have cg0 := cell_of_row p c 0 _ _ _ hgp
        have fg0 := frozen_of_row p c 0 _ _ hgp
        have HON2 : Hid (ONx D w1 (p.setCell ⟨c, 0, none⟩ (.slice a2 (n + 1) c2)) c k2 kk (.slice a2 (n + 1) c2) vk (ps.take i ++ ⟨pk, pv⟩ :: ps.drop i) ks xs) := Lib.hid (HON.out.newP2 (by
          have e1 : (ps.take i ++ KV.mk pk pv :: ps.drop i).length = n + 1 := by have := HNV.out; have := HIE.out; simp only [List.length_append, List.length_take, List.length_cons, List.length_drop]; omega
          rw [e1, pcells_ins ps i (by have := HNV.out; have := HIE.out; omega)]
          exact ho) hr)
        clear ho hr hgp
        go_wp2_with fail
        go_ret
        exact HRES2.out () _ ⟨_, _, _, _, HON2.out⟩
    · have hkl : T.ks.length = T.ps.length + 1 := by
        rcases HS.out.lens with h | h
        · exact absurd h hk0
        · exact h
      have HKL := Lib.hid hkl
      obtain ⟨k', rfl⟩ : ∃ k', k = k' + 1 := by
        rcases HS.out with ⟨-, h⟩ | ⟨h, -⟩
        · exact absurd h hk0
        · exact ⟨k - 1, by omega⟩
      have hkw : ∀ x ∈ T.ks, x.Wf (k' + 1) ∧ 3 ≤ x.ps.length := by
        rcases HS.out with ⟨h, -⟩ | ⟨-, -, h⟩
        · omega
        · exact h
      have hik : i < T.ks.length := by have := HIE0.out; omega
      obtain ⟨C, hC⟩ : ∃ C, C = T.ks[i]'hik := ⟨_, rfl⟩
      have hCm : C ∈ T.ks := by rw [hC]; exact List.getElem_mem hik
      have HLF : Hid (Calls Try.prog 69 #[.pointer (some ⟨tg, 0, none⟩)] q fun e w' => e = .returned (.bool false) ∧ q = w') := Lib.hid (by
        have := leaf_any (HT.out.under HBQ.out).nd
        rw [← HTG.out, decide_eq_false (by omega)] at this
        exact this)
      obtain ⟨jk, kc, rfl, rfl, hkc, hkm, hjl, hcell⟩ := hon.kidAt (by rw [HKS.out]; omega)
      have hiks : i < ks.length := by rw [HKS.out]; exact hik
      have hcellk := hcell i hiks
      obtain ⟨kn, hkn⟩ : ∃ kn, kn = ks.length := ⟨_, rfl⟩
      have hmT := HTK.out.1
      rw [List.length_map] at hmT
      have hmT2 : mT = kn := by rw [hkn, HKS.out]; exact hmT.symm
      subst hmT2
      rw [← hkn] at hkc
      simp only [← hkn] at hon
      have C1 : Hid (q.cell? ⟨c, 1, none⟩ = some (.slice (some ⟨jk, 0, none⟩) mT kc)) := Lib.hid (by have := C1.out; rwa [← hkn] at this)
      have HON : Hid (ONx D w1 q c (some jp) (some jk) (.slice (some ⟨jp, 0, none⟩) n cv) (.slice (some ⟨jk, 0, none⟩) mT kc) ps ks xs) := Lib.hid hon
      obtain ⟨bk, ok, -, hbk, rfl, hkcell⟩ := HTK.out.cells (by omega)
      have hko := hkcell i (by rw [List.length_map]; exact hik)
      rw [List.getElem_map, ← hC] at hko
      obtain ⟨ob, hob⟩ : ∃ ob, ob = ok + i := ⟨_, rfl⟩
      rw [← hob] at hko
      have hob2 : ok + i = ob := hob.symm
      obtain ⟨kg, hkg⟩ : ∃ kg, kg = C.g := ⟨_, rfl⟩
      rw [← hkg] at hko
      have hbq : Below w1.heap.size w1 q := hon.below
      have HTL : Hid (tg < q.heap.size) := Lib.hid (Nat.lt_of_lt_of_le HTGL.out HBQ.out.size)
      have CT1 : Hid (q.cell? ⟨tg, 1, none⟩ = some (.slice (some ⟨bk, ok, none⟩) mT eT)) := Lib.hid ((hbq.cell (p := ⟨tg, 1, none⟩) (Nat.lt_of_lt_of_le HTGL.out HB1.out.size)).trans CT1.out)
      have HBK : Hid (bk < q.heap.size) := Lib.hid (Nat.lt_of_lt_of_le hbk hbq.size)
      have CKG : Hid (q.cell? ⟨bk, ob, none⟩ = some (.pointer (some ⟨kg, 0, none⟩))) := Lib.hid ((hbq.cell (p := ⟨bk, ob, none⟩) hbk).trans hko)
      have hse := (place_inner hkl (by rw [← toL_eq]; exact HSO.out) HPL.out hik hfd).2.2
      have HREC : Hid (∀ (E : Nat → Prop) (u : World), NdD E u C → Calls Try.prog 50 #[.pointer (some ⟨kg, 0, none⟩), .agg #[.string pk, .string pv]] u (PutRes E u (k' + 1 - 1) C ⟨pk, pv⟩)) := Lib.hid (fun E u h => by rw [hkg]; exact HRC.out E u C hCm (by rw [hC]; exact hse) h)
      have HCM : Hid (C ∈ ks) := Lib.hid (by rw [HKS.out]; exact hCm)
      have HJL := Lib.hid hjl
      have CK : Hid (q.cell? ⟨jk, i, none⟩ = some (.pointer (some ⟨(ks[i]'hiks).g, 0, none⟩)) ∧ q.frozen? ⟨jk, i, none⟩ = false) := Lib.hid hcellk
      have HIK : Hid (i < ks.length) := Lib.hid (by rw [HKS.out]; exact hik)
      have hCw := hkw C hCm
      have HMEND : Hid (∀ r : BT, PutOf (k' + 1 - 1) C r ⟨pk, pv⟩ → ∀ (u : World) (ys : List BT), ON D w1 u c ps (ks.set i r) ys → Calls Try.prog 72 #[.pointer (some ⟨c, 0, none⟩), .int .i64 (i : Int)] u fun e w' => e = .returned (.tuple #[]) ∧ ∃ ps' ks', ON D w1 w' c ps' ks' ys ∧ Mended k' r.ps.length T.ps (T.ks.set i r) ps' ks') := Lib.hid (fun r hr u ys h => by
        rw [HPS.out, HKS.out] at h
        have hg : (T.ks.set i r)[i]'(by rw [List.length_set]; exact hik) = r := List.getElem_set_self _
        have hw := (wf_iff _ _).1 hCw.1
        have := mend_any h k' i (by rw [List.length_set]; exact hik) (by rw [List.length_set]; exact hkl) (by have := HH.out; omega) (by have := HH.out; omega) (fun j hj hji => by
          rw [List.length_set] at hj
          rw [List.getElem_set_ne (Ne.symm hji)]
          exact hkw _ (List.getElem_mem hj)) (by rw [hg]; exact hr.sh) (by rw [hg]; have := hr.low; omega) (by rw [hg]; have := hr.high; omega)
        rw [hg] at this
        exact this)
      have HRES3 : Hid (∀ r : BT, PutOf (k' + 1 - 1) C r ⟨pk, pv⟩ → ∀ (w' : World) (ps' : List KV) (ks' ys : List BT), ON D w1 w' c ps' ks' ys → Mended k' r.ps.length T.ps (T.ks.set i r) ps' ks' → PutRes D w (k' + 1) T ⟨pk, pv⟩ (.returned (.pointer (some ⟨c, 0, none⟩))) w') := Lib.hid (fun r hr w' ps' ks' ys h hm => HFIN.out w' _ _ _ h (put_inner hkl hik HSO.out HPL.out hfd (by rw [← hC]; exact hr) (by rw [← hC]; exact hCw.2) hm))
      have hik2 : (i : Int) < (mT : Int) := by omega
      have hkm2 : kc ≤ 9223372036854775807 := hkm
      have heT : eT ≤ 9223372036854775807 := HTK.out.2.2.2.1
      have hmeT : mT ≤ eT := HTK.out.2.2.1
      clear hon hn hk0 hfd hkw hC hCm hcell hcellk hkn hmT hkcell hko hob hkg hbq hse hCw hkm hbk hjl hkl hik
      go_upto_region 3 with (go_at_call 69; refine HLF.out.mono ?_; rintro e w4 ⟨rfl, rfl⟩)
      refine Roll.region_f 14 64 Dpu3 Lpu3 [(0, .pointer (some ⟨tg, 0, none⟩)), (3, .pointer (some ⟨gb, 0, none⟩)), (5, .int .i64 (i : Int)), (7, .pointer (some ⟨c, 0, none⟩))] (fun p => Below q.heap.size q p) (fun p p2 => Below p.heap.size p p2) [fun vv p => vv = .pointer (some ⟨c, 0, none⟩), fun vv p => vv = .pointer (some ⟨c, 0, none⟩), fun vv p => vv = .pointer (some ⟨c, 1, none⟩), fun vv p => vv = .slice (some ⟨jk, 0, none⟩) mT kc, fun vv p => vv = .int .i64 (i : Int), fun vv p => vv = .pointer (some ⟨tg, 0, none⟩), fun vv p => vv = .pointer (some ⟨tg, 0, none⟩), fun vv p => vv = .pointer (some ⟨tg, 1, none⟩), fun vv p => vv = .slice (some ⟨bk, ok, none⟩) mT eT, fun vv p => vv = .int .i64 (i : Int), fun vv p => vv = .pointer (some ⟨bk, ob, none⟩), fun vv p => vv = .pointer (some ⟨kg, 0, none⟩), fun vv p => vv = .agg #[.string pk, .string pv], fun vv p => ∃ r : BT, vv = .pointer (some ⟨r.g, 0, none⟩) ∧ NdD (fun b => Off D w1.heap.size c (some jp) (some jk) b ∨ q.heap.size ≤ b) p r ∧ PutOf (k' + 1 - 1) C r ⟨pk, pv⟩] (by kernel_rfl) (by kernel_rfl) rfl ⟨rfl, rfl, rfl, rfl, trivial⟩ ((Below.refl _ _).drew) ?_ ?_ ?_
      · exact ⟨fun _ _ _ _ h => h, fun _ _ _ _ h => h, fun _ _ _ _ h => h, fun _ _ _ _ h => h, fun _ _ _ _ h => h, fun _ _ _ _ h => h, fun _ _ _ _ h => h, fun _ _ _ _ h => h, fun _ _ _ _ h => h, fun _ _ _ _ h => h, fun _ _ _ _ h => h, fun _ _ _ _ h => h, fun _ _ _ _ h => h, fun _ _ _ hs h => by obtain ⟨r, e1, e2, e3⟩ := h; exact ⟨r, e1, e2.under hs, e3⟩, trivial⟩
      · intro b0 hN hlv
        refine ⟨?_, ?_, ?_, ?_, ?_, ?_, ?_, ?_, ?_, ?_, ?_, ?_, ?_, ?_, trivial⟩
        · intro vs p hI hp
          have e7 : (Roll.putD Dpu3 vs [] b0).eval (.tmp 7) = .pointer (some ⟨c, 0, none⟩) := (Roll.eval_old rfl).trans (hlv.at 3 (7, .pointer (some ⟨c, 0, none⟩)) rfl)
          clear hp hlv hN
          unfold Roll.Goes
          simp only [Lpu3, List.getD_cons_zero, List.getD_cons_succ]
          generalize Roll.putD Dpu3 vs [] b0 = a1 at *
          refine Roll.goes_val (w' := p) (.pointer (some ⟨c, 0, none⟩)) rfl ?_ ⟨hI, Below.refl _ _, rfl⟩
          (have ec : ∀ x, a1.eval (.const x) = x := fun _ => rfl); (have ef : ∀ x, a1.eval (.func x) = .func (.func x) #[] #[] := fun _ => rfl); generalize a1.eval = ρ at *
          skip
          go_simp <;> (intros; first | (exfalso; omega) | rfl)
        · intro vs p hI hp
          have h0 : (vs 0) = .pointer (some ⟨c, 0, none⟩) := hp 0 (by simp [Lpu3])
          have e22 : (Roll.putD Dpu3 vs [0] b0).eval (.tmp 22) = .pointer (some ⟨c, 0, none⟩) := (Roll.eval_new 0 rfl (by decide) (by decide) (by omega)).trans h0
          clear hp hlv hN
          unfold Roll.Goes
          simp only [Lpu3, List.getD_cons_zero, List.getD_cons_succ]
          generalize Roll.putD Dpu3 vs [0] b0 = a1 at *
          refine Roll.goes_val (w' := p) (.pointer (some ⟨c, 0, none⟩)) rfl ?_ ⟨hI, Below.refl _ _, rfl⟩
          (have ec : ∀ x, a1.eval (.const x) = x := fun _ => rfl); (have ef : ∀ x, a1.eval (.func x) = .func (.func x) #[] #[] := fun _ => rfl); generalize a1.eval = ρ at *
          clear h0
          go_simp <;> (intros; first | (exfalso; omega) | rfl)
        · intro vs p hI hp
          have h1 : (vs 1) = .pointer (some ⟨c, 0, none⟩) := hp 1 (by simp [Lpu3])
          have e23 : (Roll.putD Dpu3 vs [1] b0).eval (.tmp 23) = .pointer (some ⟨c, 0, none⟩) := (Roll.eval_new 1 rfl (by decide) (by decide) (by omega)).trans h1
          clear hp hlv hN
          unfold Roll.Goes
          simp only [Lpu3, List.getD_cons_zero, List.getD_cons_succ]
          generalize Roll.putD Dpu3 vs [1] b0 = a1 at *
          refine Roll.goes_val (w' := p) (.pointer (some ⟨c, 1, none⟩)) rfl ?_ ⟨hI, Below.refl _ _, rfl⟩
          (have ec : ∀ x, a1.eval (.const x) = x := fun _ => rfl); (have ef : ∀ x, a1.eval (.func x) = .func (.func x) #[] #[] := fun _ => rfl); generalize a1.eval = ρ at *
          clear h1
          go_simp <;> (intros; first | (exfalso; omega) | rfl)
        · intro vs p hI hp
          have h2 : (vs 2) = .pointer (some ⟨c, 1, none⟩) := hp 2 (by simp [Lpu3])
          have e24 : (Roll.putD Dpu3 vs [2] b0).eval (.tmp 24) = .pointer (some ⟨c, 1, none⟩) := (Roll.eval_new 2 rfl (by decide) (by decide) (by omega)).trans h2
          clear hp hlv hN
          unfold Roll.Goes
          simp only [Lpu3, List.getD_cons_zero, List.getD_cons_succ]
          generalize Roll.putD Dpu3 vs [2] b0 = a1 at *
          have cf : p.cell? ⟨c, 1, none⟩ = some (.slice (some ⟨jk, 0, none⟩) mT kc) := (hI.cell (p := ⟨c, 1, none⟩) HCL.out).trans C1.out
          refine Roll.goes_val (w' := p) (.slice (some ⟨jk, 0, none⟩) mT kc) rfl ?_ ⟨hI, Below.refl _ _, rfl⟩
          (have ec : ∀ x, a1.eval (.const x) = x := fun _ => rfl); (have ef : ∀ x, a1.eval (.func x) = .func (.func x) #[] #[] := fun _ => rfl); generalize a1.eval = ρ at *
          clear h2
          go_simp <;> (intros; first | (exfalso; omega) | rfl)
        · intro vs p hI hp
          have e5 : (Roll.putD Dpu3 vs [] b0).eval (.tmp 5) = .int .i64 (i : Int) := (Roll.eval_old rfl).trans (hlv.at 2 (5, .int .i64 (i : Int)) rfl)
          clear hp hlv hN
          unfold Roll.Goes
          simp only [Lpu3, List.getD_cons_zero, List.getD_cons_succ]
          generalize Roll.putD Dpu3 vs [] b0 = a1 at *
          refine Roll.goes_val (w' := p) (.int .i64 (i : Int)) rfl ?_ ⟨hI, Below.refl _ _, rfl⟩
          (have ec : ∀ x, a1.eval (.const x) = x := fun _ => rfl); (have ef : ∀ x, a1.eval (.func x) = .func (.func x) #[] #[] := fun _ => rfl); generalize a1.eval = ρ at *
          skip
          go_simp <;> (intros; first | (exfalso; omega) | rfl)
        · intro vs p hI hp
          have e0 : (Roll.putD Dpu3 vs [] b0).eval (.tmp 0) = .pointer (some ⟨tg, 0, none⟩) := (Roll.eval_old rfl).trans (hlv.at 0 (0, .pointer (some ⟨tg, 0, none⟩)) rfl)
          clear hp hlv hN
          unfold Roll.Goes
          simp only [Lpu3, List.getD_cons_zero, List.getD_cons_succ]
          generalize Roll.putD Dpu3 vs [] b0 = a1 at *
          refine Roll.goes_val (w' := p) (.pointer (some ⟨tg, 0, none⟩)) rfl ?_ ⟨hI, Below.refl _ _, rfl⟩
          (have ec : ∀ x, a1.eval (.const x) = x := fun _ => rfl); (have ef : ∀ x, a1.eval (.func x) = .func (.func x) #[] #[] := fun _ => rfl); generalize a1.eval = ρ at *
          skip
          go_simp <;> (intros; first | (exfalso; omega) | rfl)
        · intro vs p hI hp
          have h5 : (vs 5) = .pointer (some ⟨tg, 0, none⟩) := hp 5 (by simp [Lpu3])
          have e27 : (Roll.putD Dpu3 vs [5] b0).eval (.tmp 27) = .pointer (some ⟨tg, 0, none⟩) := (Roll.eval_new 5 rfl (by decide) (by decide) (by omega)).trans h5
          clear hp hlv hN
          unfold Roll.Goes
          simp only [Lpu3, List.getD_cons_zero, List.getD_cons_succ]
          generalize Roll.putD Dpu3 vs [5] b0 = a1 at *
          refine Roll.goes_val (w' := p) (.pointer (some ⟨tg, 0, none⟩)) rfl ?_ ⟨hI, Below.refl _ _, rfl⟩
          (have ec : ∀ x, a1.eval (.const x) = x := fun _ => rfl); (have ef : ∀ x, a1.eval (.func x) = .func (.func x) #[] #[] := fun _ => rfl); generalize a1.eval = ρ at *
          clear h5
          go_simp <;> (intros; first | (exfalso; omega) | rfl)
        · intro vs p hI hp
          have h6 : (vs 6) = .pointer (some ⟨tg, 0, none⟩) := hp 6 (by simp [Lpu3])
          have e28 : (Roll.putD Dpu3 vs [6] b0).eval (.tmp 28) = .pointer (some ⟨tg, 0, none⟩) := (Roll.eval_new 6 rfl (by decide) (by decide) (by omega)).trans h6
          clear hp hlv hN
          unfold Roll.Goes
          simp only [Lpu3, List.getD_cons_zero, List.getD_cons_succ]
          generalize Roll.putD Dpu3 vs [6] b0 = a1 at *
          refine Roll.goes_val (w' := p) (.pointer (some ⟨tg, 1, none⟩)) rfl ?_ ⟨hI, Below.refl _ _, rfl⟩
          (have ec : ∀ x, a1.eval (.const x) = x := fun _ => rfl); (have ef : ∀ x, a1.eval (.func x) = .func (.func x) #[] #[] := fun _ => rfl); generalize a1.eval = ρ at *
          clear h6
          go_simp <;> (intros; first | (exfalso; omega) | rfl)
        · intro vs p hI hp
          have h7 : (vs 7) = .pointer (some ⟨tg, 1, none⟩) := hp 7 (by simp [Lpu3])
          have e29 : (Roll.putD Dpu3 vs [7] b0).eval (.tmp 29) = .pointer (some ⟨tg, 1, none⟩) := (Roll.eval_new 7 rfl (by decide) (by decide) (by omega)).trans h7
          clear hp hlv hN
          unfold Roll.Goes
          simp only [Lpu3, List.getD_cons_zero, List.getD_cons_succ]
          generalize Roll.putD Dpu3 vs [7] b0 = a1 at *
          have cf : p.cell? ⟨tg, 1, none⟩ = some (.slice (some ⟨bk, ok, none⟩) mT eT) := (hI.cell (p := ⟨tg, 1, none⟩) HTL.out).trans CT1.out
          refine Roll.goes_val (w' := p) (.slice (some ⟨bk, ok, none⟩) mT eT) rfl ?_ ⟨hI, Below.refl _ _, rfl⟩
          (have ec : ∀ x, a1.eval (.const x) = x := fun _ => rfl); (have ef : ∀ x, a1.eval (.func x) = .func (.func x) #[] #[] := fun _ => rfl); generalize a1.eval = ρ at *
          clear h7
          go_simp <;> (intros; first | (exfalso; omega) | rfl)
        · intro vs p hI hp
          have e5 : (Roll.putD Dpu3 vs [] b0).eval (.tmp 5) = .int .i64 (i : Int) := (Roll.eval_old rfl).trans (hlv.at 2 (5, .int .i64 (i : Int)) rfl)
          clear hp hlv hN
          unfold Roll.Goes
          simp only [Lpu3, List.getD_cons_zero, List.getD_cons_succ]
          generalize Roll.putD Dpu3 vs [] b0 = a1 at *
          refine Roll.goes_val (w' := p) (.int .i64 (i : Int)) rfl ?_ ⟨hI, Below.refl _ _, rfl⟩
          (have ec : ∀ x, a1.eval (.const x) = x := fun _ => rfl); (have ef : ∀ x, a1.eval (.func x) = .func (.func x) #[] #[] := fun _ => rfl); generalize a1.eval = ρ at *
          skip
          go_simp <;> (intros; first | (exfalso; omega) | rfl)
        · intro vs p hI hp
          have h8 : (vs 8) = .slice (some ⟨bk, ok, none⟩) mT eT := hp 8 (by simp [Lpu3])
          have h9 : (vs 9) = .int .i64 (i : Int) := hp 9 (by simp [Lpu3])
          have e30 : (Roll.putD Dpu3 vs [8, 9] b0).eval (.tmp 30) = .slice (some ⟨bk, ok, none⟩) mT eT := (Roll.eval_new 8 rfl (by decide) (by decide) (by omega)).trans h8
          have e31 : (Roll.putD Dpu3 vs [8, 9] b0).eval (.tmp 31) = .int .i64 (i : Int) := (Roll.eval_new 9 rfl (by decide) (by decide) (by omega)).trans h9
          clear hp hlv hN
          unfold Roll.Goes
          simp only [Lpu3, List.getD_cons_zero, List.getD_cons_succ]
          generalize Roll.putD Dpu3 vs [8, 9] b0 = a1 at *
          refine Roll.goes_val (w' := p) (.pointer (some ⟨bk, ob, none⟩)) rfl ?_ ⟨hI, Below.refl _ _, rfl⟩
          (have ec : ∀ x, a1.eval (.const x) = x := fun _ => rfl); (have ef : ∀ x, a1.eval (.func x) = .func (.func x) #[] #[] := fun _ => rfl); generalize a1.eval = ρ at *
          clear h8 h9
          go_simp <;> (intros; first | (exfalso; omega) | rfl)
        · intro vs p hI hp
          have h10 : (vs 10) = .pointer (some ⟨bk, ob, none⟩) := hp 10 (by simp [Lpu3])
          have e32 : (Roll.putD Dpu3 vs [10] b0).eval (.tmp 32) = .pointer (some ⟨bk, ob, none⟩) := (Roll.eval_new 10 rfl (by decide) (by decide) (by omega)).trans h10
          clear hp hlv hN
          unfold Roll.Goes
          simp only [Lpu3, List.getD_cons_zero, List.getD_cons_succ]
          generalize Roll.putD Dpu3 vs [10] b0 = a1 at *
          have cf : p.cell? ⟨bk, ob, none⟩ = some (.pointer (some ⟨kg, 0, none⟩)) := (hI.cell (p := ⟨bk, ob, none⟩) HBK.out).trans CKG.out
          refine Roll.goes_val (w' := p) (.pointer (some ⟨kg, 0, none⟩)) rfl ?_ ⟨hI, Below.refl _ _, rfl⟩
          (have ec : ∀ x, a1.eval (.const x) = x := fun _ => rfl); (have ef : ∀ x, a1.eval (.func x) = .func (.func x) #[] #[] := fun _ => rfl); generalize a1.eval = ρ at *
          clear h10
          go_simp <;> (intros; first | (exfalso; omega) | rfl)
        · intro vs p hI hp
          have e3 : (Roll.putD Dpu3 vs [] b0).eval (.tmp 3) = .pointer (some ⟨gb, 0, none⟩) := (Roll.eval_old rfl).trans (hlv.at 1 (3, .pointer (some ⟨gb, 0, none⟩)) rfl)
          clear hp hlv hN
          unfold Roll.Goes
          simp only [Lpu3, List.getD_cons_zero, List.getD_cons_succ]
          generalize Roll.putD Dpu3 vs [] b0 = a1 at *
          have ld0 := run_loadPair (range_below HRB.out (by simp [KV.cells]) hI)
          refine Roll.goes_val (w' := p) (.agg #[.string pk, .string pv]) rfl ?_ ⟨hI, Below.refl _ _, rfl⟩
          (have ec : ∀ x, a1.eval (.const x) = x := fun _ => rfl); (have ef : ∀ x, a1.eval (.func x) = .func (.func x) #[] #[] := fun _ => rfl); generalize a1.eval = ρ at *
          skip
          go_simp <;> (intros; first | (exfalso; omega) | rfl)
        · intro vs p hI hp
          have h11 : (vs 11) = .pointer (some ⟨kg, 0, none⟩) := hp 11 (by simp [Lpu3])
          have h12 : (vs 12) = .agg #[.string pk, .string pv] := hp 12 (by simp [Lpu3])
          have e33 : (Roll.putD Dpu3 vs [11, 12] b0).eval (.tmp 33) = .pointer (some ⟨kg, 0, none⟩) := (Roll.eval_new 11 rfl (by decide) (by decide) (by omega)).trans h11
          have e34 : (Roll.putD Dpu3 vs [11, 12] b0).eval (.tmp 34) = .agg #[.string pk, .string pv] := (Roll.eval_new 12 rfl (by decide) (by decide) (by omega)).trans h12
          clear hp hlv hN
          unfold Roll.Goes
          simp only [Lpu3, List.getD_cons_zero, List.getD_cons_succ]
          generalize Roll.putD Dpu3 vs [11, 12] b0 = a1 at *
          refine Roll.goes_call 50 #[.pointer (some ⟨kg, 0, none⟩), .agg #[.string pk, .string pv]] p rfl (by have ec : ∀ x, a1.eval (.const x) = x := fun _ => rfl; have ef : ∀ x, a1.eval (.func x) = .func (.func x) #[] #[] := fun _ => rfl; generalize a1.eval = ρ at *; go_simp) ?_
          have hc := HREC.out (Off D w1.heap.size c (some jp) (some jk)) p ((HON.out.kids C (List.mem_append.2 (.inl HCM.out))).under hI)
          refine hc.mono ?_
          rintro y p2 ⟨r, rfl, hnd, hb2, hpo⟩
          exact ⟨_, rfl, hI.trans (hb2.mono hI.size), hb2, r, rfl, hnd.dom (fun b hb => hb.imp id (Nat.le_trans hI.size)), hpo⟩
      · intro vs p hI hR
        have h0 : (vs 0) = .pointer (some ⟨c, 0, none⟩) := hR 0 (by omega)
        have h1 : (vs 1) = .pointer (some ⟨c, 0, none⟩) := hR 1 (by omega)
        have h2 : (vs 2) = .pointer (some ⟨c, 1, none⟩) := hR 2 (by omega)
        have h3 : (vs 3) = .slice (some ⟨jk, 0, none⟩) mT kc := hR 3 (by omega)
        have h4 : (vs 4) = .int .i64 (i : Int) := hR 4 (by omega)
        have h5 : (vs 5) = .pointer (some ⟨tg, 0, none⟩) := hR 5 (by omega)
        have h6 : (vs 6) = .pointer (some ⟨tg, 0, none⟩) := hR 6 (by omega)
        have h7 : (vs 7) = .pointer (some ⟨tg, 1, none⟩) := hR 7 (by omega)
        have h8 : (vs 8) = .slice (some ⟨bk, ok, none⟩) mT eT := hR 8 (by omega)
        have h9 : (vs 9) = .int .i64 (i : Int) := hR 9 (by omega)
        have h10 : (vs 10) = .pointer (some ⟨bk, ob, none⟩) := hR 10 (by omega)
        have h11 : (vs 11) = .pointer (some ⟨kg, 0, none⟩) := hR 11 (by omega)
        have h12 : (vs 12) = .agg #[.string pk, .string pv] := hR 12 (by omega)
        have h13 : ∃ r : BT, (vs 13) = .pointer (some ⟨r.g, 0, none⟩) ∧ NdD (fun b => Off D w1.heap.size c (some jp) (some jk) b ∨ q.heap.size ≤ b) p r ∧ PutOf (k' + 1 - 1) C r ⟨pk, pv⟩ := hR 13 (by omega)
        clear hR
        simp only [List.range_succ, List.range_zero, List.nil_append, List.cons_append, Roll.putD, Act.put, List.getD_cons_zero, List.getD_cons_succ, List.setIfInBounds_toArray, List.set_cons_zero, List.set_cons_succ, List.drop_succ_cons, List.drop_zero, Dpu3]
        simp only [h0, h1, h2, h3, h4, h5, h6, h7, h8, h9, h10, h11, h12]
        clear h0 h1 h2 h3 h4 h5 h6 h7 h8 h9 h10 h11 h12
        generalize vs 13 = v13 at *
        obtain ⟨r, rfl, hnd, hpo⟩ := h13
        have HPO := Lib.hid hpo
        have eTi := (hI.cell (p := ⟨jk, i, none⟩) HJL.out).trans CK.out.1
        have fki := ((Kept.of_below (fun _ => False) hI).frozen (p := ⟨jk, i, none⟩) HJL.out (fun h => h)).trans CK.out.2
        have HON3 : Hid (ONx D w1 (p.setCell ⟨jk, i, none⟩ (.pointer (some ⟨r.g, 0, none⟩))) c (some jp) (some jk) (.slice (some ⟨jp, 0, none⟩) n cv) (.slice (some ⟨jk, 0, none⟩) mT kc) ps (ks.set i r) (r :: xs)) := Lib.hid ((HON.out.add hI hnd).setK i HIK.out _ (List.mem_append.2 (.inr (List.mem_cons_self ..))))
        clear hnd hI hpo
        go_upto_region 4 with fail
        obtain ⟨q4, hq4⟩ : ∃ q4, q4 = p.setCell ⟨jk, i, none⟩ (.pointer (some ⟨r.g, 0, none⟩)) := ⟨_, rfl⟩
        rw [← hq4] at HON3 ⊢
        clear hq4 eTi fki
        have HMC := Lib.hid (HMEND.out r HPO.out q4 _ ⟨_, _, _, _, HON3.out⟩)
        go_wp2_with (go_at_call 72; refine HMC.out.mono ?_; rintro e q5 ⟨rfl, ps5, ks5, hon5, hm5⟩; have HON5 := Lib.hid hon5; have HM5 := Lib.hid hm5; clear hon5 hm5)
        go_ret
        exact HRES3.out r HPO.out _ _ _ _ HON5.out HM5.out
end Go.Proofs.Ytfgmhidgkemfoaa
namespace Go.Proofs.Ytfgmhidgkemfoaa
open Go.RowKit
set_option linter.unusedSimpArgs false
set_option linter.unusedVariables false
theorem put_any (pk pv : ByteArray) : ∀ (k : Nat) {D : Nat → Prop} {w : World} {T : BT}, NdD D w T → T.Sh k → T.ps.length ≤ 8 → 1 ≤ T.ps.length → Sorted T.toL →
    Calls Try.prog 50 #[.pointer (some ⟨T.g, 0, none⟩), .agg #[.string pk, .string pv]] w (PutRes D w k T ⟨pk, pv⟩)
  | 0, D, w, T, hT, hs, h8, h1, hso => put_step hT 0 hs h8 h1 hso pk pv (fun E u C hC _ _ => by
      rcases hs with ⟨-, h⟩ | ⟨h, -⟩
      · rw [h] at hC; cases hC
      · exact absurd rfl h)
  | k + 1, D, w, T, hT, hs, h8, h1, hso => put_step hT (k + 1) hs h8 h1 hso pk pv (fun E u C hC hsc hE => by
      rcases hs with ⟨h, -⟩ | ⟨-, -, h⟩
      · omega
      · have hw := h C hC
        have hw2 := (wf_iff _ _).1 hw.1
        exact put_any pk pv k hE hw2.2 hw2.1 (by omega) hsc)
end Go.Proofs.Ytfgmhidgkemfoaa
namespace Go.Proofs.Ytfgmhidgkemfoaa
open Go.RowKit
set_option linter.unusedSimpArgs false
set_option linter.unusedVariables false
attribute [local go_sem ↓] exec_loadPair exec_storePair exec_at_zeroP exec_at_succP Go.wp_at_zero Go.wp_at_succ
attribute [local go_sem] run_storePair
theorem toLs_getLast : ∀ (ps : List KV) (ks : List BT) (hl : ks.length = ps.length + 1), (ks[ks.length - 1]'(by omega)).toL ≠ [] → (toLs ps ks).getLast? = (ks[ks.length - 1]'(by omega)).toL.getLast?
  | [], [k], _, _ => by rw [toLs_last]; rfl
  | [], [], h, _ => by simp at h
  | [], _ :: _ :: _, h, _ => by simp at h
  | p :: ps, k :: ks, h, hne => by
    have hl : ks.length = ps.length + 1 := by simpa using h
    have e : ((k :: ks)[(k :: ks).length - 1]'(by simp)) = ks[ks.length - 1]'(by omega) := by
      simp only [List.length_cons, Nat.add_sub_cancel]
      rw [List.getElem_cons]
      rw [dif_neg (by omega)]
    rw [e] at hne ⊢
    have ih := toLs_getLast ps ks hl hne
    have hn2 : toLs ps ks ≠ [] := fun e2 => by
      rw [e2] at ih
      exact hne (List.getLast?_eq_none_iff.1 ih.symm)
    rw [toLs_cons, List.getLast?_append, List.getLast?_cons, ih]
    cases hq : (ks[ks.length - 1]'(by omega)).toL.getLast? with
    | none => exact absurd (List.getLast?_eq_none_iff.1 hq) hne
    | some q => rfl
  | p :: ps, [], h, _ => by simp at h
theorem toL_ne : ∀ (k : Nat) (T : BT), T.Sh k → 1 ≤ T.ps.length → T.toL ≠ [] := fun k T hs h1 e => by
  rw [toL_eq] at e
  rcases hs.lens with h | h
  · rw [h, toLs_leaf] at e
    rw [e] at h1
    simp at h1
  · have := (ps_sub T.ps T.ks h).length_le
    rw [e] at this
    simp at this
    rw [this] at h1
    simp at h1
def Dla3 : List (Option Tmp) := [some 18, some 19, some 20, some 21, some 22, some 23, some 24, some 25, some 26, some 27, some 28, some 29, none]
def Lla3 : List (List Nat) := [[], [0], [1], [2], [], [4], [5], [6], [7], [8], [3, 9], [10], [11]]
set_option maxRecDepth 100000 in
set_option maxHeartbeats 2000000 in
theorem last_any {D : Nat → Prop} {w : World} {T : BT} (hT : NdD D w T) (K : Nat) (hs : T.Sh K) (h1 : 1 ≤ T.ps.length ∧ T.ps.length ≤ 8) (q : KV) (hq : T.toL.getLast? = some q) :
    Calls Try.prog 75 #[.pointer (some ⟨T.g, 0, none⟩)] w fun e w' => e = .returned (.agg #[.string q.k, .string q.v]) ∧ Below w.heap.size w w' := by
  have HT := Lib.hid hT
  have HS := Lib.hid hs
  have HH := Lib.hid h1
  have HQ := Lib.hid hq
  have mixed : Try.prog.follows .mixedOrders = true := by kernel_rfl
  obtain ⟨tg, htg⟩ : ∃ tg, tg = T.g := ⟨_, rfl⟩
  rw [← htg]
  have HTG := Lib.hid htg
  clear hT hs h1 hq htg
  go_enter Try.func75, Try.ntmps75
  go_wp2_with fail
  obtain ⟨w1, hw1⟩ : ∃ w1, w1 = w.alloc (.cells #[.string ⟨#[]⟩, .string ⟨#[]⟩] 65) := ⟨_, rfl⟩
  obtain ⟨g2, hg2⟩ : ∃ g2, g2 = w.heap.size := ⟨_, rfl⟩
  have hb1 : Below w.heap.size w w1 := by rw [hw1]; exact (Below.refl _ _).alloc (Nat.le_refl _) _
  have h2 : w1.heap[g2]? = some (.cells (kcells (fkv none)) 65 (0, 0)) := by rw [hw1, hg2]; exact heap_new rfl
  rw [← hw1, ← hg2]
  have HB1 := Lib.hid hb1
  have H2 := Lib.hid h2
  have HG2 : Hid (g2 = w.heap.size) := Lib.hid hg2
  clear hw1 hg2 hb1 h2
  go_loopg [0] K (fun k u0 wr => ∃ C : BT, u0 = .pointer (some ⟨C.g, 0, none⟩) ∧ NdD D w C ∧ C.Sh k ∧ (1 ≤ C.ps.length ∧ C.ps.length ≤ 8) ∧ C.toL.getLast? = some q ∧ Below w.heap.size w wr ∧ wr.heap[g2]? = some (.cells (kcells (fkv none)) 65 (0, 0)))
  case atStart => exact ⟨T, by rw [HTG.out], HT.out, HS.out, HH.out, HQ.out, HB1.out, H2.out⟩
  case round =>
    clear HT HS HH HQ HB1 H2 HTG
    obtain ⟨C, rfl, hC, hs, hh, hq, hb, h2⟩ := hrel
    have HC := Lib.hid hC
    have HS := Lib.hid hs
    have HH := Lib.hid hh
    have HQ := Lib.hid hq
    have HB := Lib.hid hb
    have H2 := Lib.hid h2
    obtain ⟨aC, nC, cC, bC, mC, eC, -, hblk, cc0, cc1, hcp, hck, hkd⟩ := hC.facts
    have hcl : C.g < w.heap.size := (Array.getElem?_eq_some_iff.1 hblk).1
    have hmC := hck.1
    rw [List.length_map] at hmC
    have hnC := hcp.1
    have hme : mC ≤ eC := hck.2.2.1
    have heb : eC ≤ 9223372036854775807 := hck.2.2.2.1
    have hnc : nC ≤ cC := hcp.2.2.1
    have hcb : cC ≤ 9223372036854775807 := hcp.2.2.2.1
    by_cases hk0 : C.ks = []
    · have HL : Hid (Calls Try.prog 69 #[.pointer (some ⟨C.g, 0, none⟩)] wr fun e w' => e = .returned (.bool true) ∧ wr = w') := Lib.hid (by
        have := leaf_any (hC.under hb).nd
        rw [hk0] at this
        exact this)
      obtain ⟨bb, off, -, hbb, rfl, hcell⟩ := hcp.at (by omega)
      have hr := hcell (nC - 1) (by omega)
      have hkv : C.ps[nC - 1]'(by omega) = q := by
        rw [toL_eq, hk0, toLs_leaf, List.getLast?_eq_getElem?, List.getElem?_eq_getElem (by omega)] at hq
        have := Option.some.inj hq
        simp only [hnC] at this
        exact this
      rw [hkv] at hr
      obtain ⟨ob, hob⟩ : ∃ ob, ob = off + (nC - 1) * 2 := ⟨_, rfl⟩
      rw [← hob] at hr
      have hob2 : off + (nC - 1) * 2 = ob := hob.symm
      have HRQ : Hid (wr.rangeAt bb ob q.cells) := Lib.hid (range_below hr (by simp [KV.cells]) hb)
      have HCW := Lib.hid (Nat.lt_of_lt_of_le hcl hb.size)
      have CC0 := Lib.hid ((hb.cell (p := ⟨C.g, 0, none⟩) hcl).trans cc0)
      have hn1 : IntKind.i64.wrap ((nC : Int) - 1) = ((nC - 1 : Nat) : Int) := by rw [i64_id _ (by omega) (by omega)]; omega
      have hn2 : ((nC - 1 : Nat) : Int) < (nC : Int) := by omega
      clear hC hs hh hq hb h2 hblk cc1 hcp hck hkd hkv hr hob hcell hk0 cc0
      go_upto_region 3 with (go_at_call 69; refine HL.out.mono ?_; rintro e w4 ⟨rfl, rfl⟩)
      refine Roll.region_f 12 30 Dla3 Lla3 [(0, .pointer (some ⟨C.g, 0, none⟩)), (2, .pointer (some ⟨g2, 0, none⟩))] (fun p => Below wr.heap.size wr p) (fun p p2 => Below p.heap.size p p2) [fun vv p => vv = .pointer (some ⟨C.g, 0, none⟩), fun vv p => vv = .pointer (some ⟨C.g, 0, none⟩), fun vv p => vv = .pointer (some ⟨C.g, 0, none⟩), fun vv p => vv = .slice (some ⟨bb, off, none⟩) nC cC, fun vv p => vv = .pointer (some ⟨C.g, 0, none⟩), fun vv p => vv = .pointer (some ⟨C.g, 0, none⟩), fun vv p => vv = .pointer (some ⟨C.g, 0, none⟩), fun vv p => vv = .slice (some ⟨bb, off, none⟩) nC cC, fun vv p => vv = .int .i64 (nC : Int), fun vv p => vv = .int .i64 ((nC - 1 : Nat) : Int), fun vv p => vv = .pointer (some ⟨bb, ob, none⟩), fun vv p => vv = .agg #[.string q.k, .string q.v]] (by kernel_rfl) (by kernel_rfl) rfl ⟨rfl, rfl, trivial⟩ ((Below.refl _ _).drew) ?_ ?_ ?_
      · exact ⟨fun _ _ _ _ h => h, fun _ _ _ _ h => h, fun _ _ _ _ h => h, fun _ _ _ _ h => h, fun _ _ _ _ h => h, fun _ _ _ _ h => h, fun _ _ _ _ h => h, fun _ _ _ _ h => h, fun _ _ _ _ h => h, fun _ _ _ _ h => h, fun _ _ _ _ h => h, fun _ _ _ _ h => h, trivial⟩
      · intro b0 hN hlv
        refine ⟨?_, ?_, ?_, ?_, ?_, ?_, ?_, ?_, ?_, ?_, ?_, ?_, trivial⟩
        · intro vs p hI hp
          have e0 : (Roll.putD Dla3 vs [] b0).eval (.tmp 0) = .pointer (some ⟨C.g, 0, none⟩) := (Roll.eval_old rfl).trans (hlv.at 0 (0, .pointer (some ⟨C.g, 0, none⟩)) rfl)
          clear hp hlv hN
          unfold Roll.Goes
          simp only [Lla3, List.getD_cons_zero, List.getD_cons_succ]
          generalize Roll.putD Dla3 vs [] b0 = a1 at *
          refine Roll.goes_val (w' := p) (.pointer (some ⟨C.g, 0, none⟩)) rfl ?_ ⟨hI, Below.refl _ _, rfl⟩
          (have ec : ∀ x, a1.eval (.const x) = x := fun _ => rfl); (have ef : ∀ x, a1.eval (.func x) = .func (.func x) #[] #[] := fun _ => rfl); generalize a1.eval = ρ at *
          skip
          go_simp <;> (intros; first | (exfalso; omega) | rfl)
        · intro vs p hI hp
          have h0 : (vs 0) = .pointer (some ⟨C.g, 0, none⟩) := hp 0 (by simp [Lla3])
          have e18 : (Roll.putD Dla3 vs [0] b0).eval (.tmp 18) = .pointer (some ⟨C.g, 0, none⟩) := (Roll.eval_new 0 rfl (by decide) (by decide) (by omega)).trans h0
          clear hp hlv hN
          unfold Roll.Goes
          simp only [Lla3, List.getD_cons_zero, List.getD_cons_succ]
          generalize Roll.putD Dla3 vs [0] b0 = a1 at *
          refine Roll.goes_val (w' := p) (.pointer (some ⟨C.g, 0, none⟩)) rfl ?_ ⟨hI, Below.refl _ _, rfl⟩
          (have ec : ∀ x, a1.eval (.const x) = x := fun _ => rfl); (have ef : ∀ x, a1.eval (.func x) = .func (.func x) #[] #[] := fun _ => rfl); generalize a1.eval = ρ at *
          clear h0
          go_simp <;> (intros; first | (exfalso; omega) | rfl)
        · intro vs p hI hp
          have h1 : (vs 1) = .pointer (some ⟨C.g, 0, none⟩) := hp 1 (by simp [Lla3])
          have e19 : (Roll.putD Dla3 vs [1] b0).eval (.tmp 19) = .pointer (some ⟨C.g, 0, none⟩) := (Roll.eval_new 1 rfl (by decide) (by decide) (by omega)).trans h1
          clear hp hlv hN
          unfold Roll.Goes
          simp only [Lla3, List.getD_cons_zero, List.getD_cons_succ]
          generalize Roll.putD Dla3 vs [1] b0 = a1 at *
          refine Roll.goes_val (w' := p) (.pointer (some ⟨C.g, 0, none⟩)) rfl ?_ ⟨hI, Below.refl _ _, rfl⟩
          (have ec : ∀ x, a1.eval (.const x) = x := fun _ => rfl); (have ef : ∀ x, a1.eval (.func x) = .func (.func x) #[] #[] := fun _ => rfl); generalize a1.eval = ρ at *
          clear h1
          go_simp <;> (intros; first | (exfalso; omega) | rfl)
        · intro vs p hI hp
          have h2 : (vs 2) = .pointer (some ⟨C.g, 0, none⟩) := hp 2 (by simp [Lla3])
          have e20 : (Roll.putD Dla3 vs [2] b0).eval (.tmp 20) = .pointer (some ⟨C.g, 0, none⟩) := (Roll.eval_new 2 rfl (by decide) (by decide) (by omega)).trans h2
          clear hp hlv hN
          unfold Roll.Goes
          simp only [Lla3, List.getD_cons_zero, List.getD_cons_succ]
          generalize Roll.putD Dla3 vs [2] b0 = a1 at *
          have cf : p.cell? ⟨C.g, 0, none⟩ = some (.slice (some ⟨bb, off, none⟩) nC cC) := (hI.cell (p := ⟨C.g, 0, none⟩) HCW.out).trans CC0.out
          refine Roll.goes_val (w' := p) (.slice (some ⟨bb, off, none⟩) nC cC) rfl ?_ ⟨hI, Below.refl _ _, rfl⟩
          (have ec : ∀ x, a1.eval (.const x) = x := fun _ => rfl); (have ef : ∀ x, a1.eval (.func x) = .func (.func x) #[] #[] := fun _ => rfl); generalize a1.eval = ρ at *
          clear h2
          go_simp <;> (intros; first | (exfalso; omega) | rfl)
        · intro vs p hI hp
          have e0 : (Roll.putD Dla3 vs [] b0).eval (.tmp 0) = .pointer (some ⟨C.g, 0, none⟩) := (Roll.eval_old rfl).trans (hlv.at 0 (0, .pointer (some ⟨C.g, 0, none⟩)) rfl)
          clear hp hlv hN
          unfold Roll.Goes
          simp only [Lla3, List.getD_cons_zero, List.getD_cons_succ]
          generalize Roll.putD Dla3 vs [] b0 = a1 at *
          refine Roll.goes_val (w' := p) (.pointer (some ⟨C.g, 0, none⟩)) rfl ?_ ⟨hI, Below.refl _ _, rfl⟩
          (have ec : ∀ x, a1.eval (.const x) = x := fun _ => rfl); (have ef : ∀ x, a1.eval (.func x) = .func (.func x) #[] #[] := fun _ => rfl); generalize a1.eval = ρ at *
          skip
          go_simp <;> (intros; first | (exfalso; omega) | rfl)
        · intro vs p hI hp
          have h4 : (vs 4) = .pointer (some ⟨C.g, 0, none⟩) := hp 4 (by simp [Lla3])
          have e22 : (Roll.putD Dla3 vs [4] b0).eval (.tmp 22) = .pointer (some ⟨C.g, 0, none⟩) := (Roll.eval_new 4 rfl (by decide) (by decide) (by omega)).trans h4
          clear hp hlv hN
          unfold Roll.Goes
          simp only [Lla3, List.getD_cons_zero, List.getD_cons_succ]
          generalize Roll.putD Dla3 vs [4] b0 = a1 at *
          refine Roll.goes_val (w' := p) (.pointer (some ⟨C.g, 0, none⟩)) rfl ?_ ⟨hI, Below.refl _ _, rfl⟩
          (have ec : ∀ x, a1.eval (.const x) = x := fun _ => rfl); (have ef : ∀ x, a1.eval (.func x) = .func (.func x) #[] #[] := fun _ => rfl); generalize a1.eval = ρ at *
          clear h4
          go_simp <;> (intros; first | (exfalso; omega) | rfl)
        · intro vs p hI hp
          have h5 : (vs 5) = .pointer (some ⟨C.g, 0, none⟩) := hp 5 (by simp [Lla3])
          have e23 : (Roll.putD Dla3 vs [5] b0).eval (.tmp 23) = .pointer (some ⟨C.g, 0, none⟩) := (Roll.eval_new 5 rfl (by decide) (by decide) (by omega)).trans h5
          clear hp hlv hN
          unfold Roll.Goes
          simp only [Lla3, List.getD_cons_zero, List.getD_cons_succ]
          generalize Roll.putD Dla3 vs [5] b0 = a1 at *
          refine Roll.goes_val (w' := p) (.pointer (some ⟨C.g, 0, none⟩)) rfl ?_ ⟨hI, Below.refl _ _, rfl⟩
          (have ec : ∀ x, a1.eval (.const x) = x := fun _ => rfl); (have ef : ∀ x, a1.eval (.func x) = .func (.func x) #[] #[] := fun _ => rfl); generalize a1.eval = ρ at *
          clear h5
          go_simp <;> (intros; first | (exfalso; omega) | rfl)
        · intro vs p hI hp
          have h6 : (vs 6) = .pointer (some ⟨C.g, 0, none⟩) := hp 6 (by simp [Lla3])
          have e24 : (Roll.putD Dla3 vs [6] b0).eval (.tmp 24) = .pointer (some ⟨C.g, 0, none⟩) := (Roll.eval_new 6 rfl (by decide) (by decide) (by omega)).trans h6
          clear hp hlv hN
          unfold Roll.Goes
          simp only [Lla3, List.getD_cons_zero, List.getD_cons_succ]
          generalize Roll.putD Dla3 vs [6] b0 = a1 at *
          have cf : p.cell? ⟨C.g, 0, none⟩ = some (.slice (some ⟨bb, off, none⟩) nC cC) := (hI.cell (p := ⟨C.g, 0, none⟩) HCW.out).trans CC0.out
          refine Roll.goes_val (w' := p) (.slice (some ⟨bb, off, none⟩) nC cC) rfl ?_ ⟨hI, Below.refl _ _, rfl⟩
          (have ec : ∀ x, a1.eval (.const x) = x := fun _ => rfl); (have ef : ∀ x, a1.eval (.func x) = .func (.func x) #[] #[] := fun _ => rfl); generalize a1.eval = ρ at *
          clear h6
          go_simp <;> (intros; first | (exfalso; omega) | rfl)
        · intro vs p hI hp
          have h7 : (vs 7) = .slice (some ⟨bb, off, none⟩) nC cC := hp 7 (by simp [Lla3])
          have e25 : (Roll.putD Dla3 vs [7] b0).eval (.tmp 25) = .slice (some ⟨bb, off, none⟩) nC cC := (Roll.eval_new 7 rfl (by decide) (by decide) (by omega)).trans h7
          clear hp hlv hN
          unfold Roll.Goes
          simp only [Lla3, List.getD_cons_zero, List.getD_cons_succ]
          generalize Roll.putD Dla3 vs [7] b0 = a1 at *
          refine Roll.goes_val (w' := p) (.int .i64 (nC : Int)) rfl ?_ ⟨hI, Below.refl _ _, rfl⟩
          (have ec : ∀ x, a1.eval (.const x) = x := fun _ => rfl); (have ef : ∀ x, a1.eval (.func x) = .func (.func x) #[] #[] := fun _ => rfl); generalize a1.eval = ρ at *
          clear h7
          go_simp <;> (intros; first | (exfalso; omega) | rfl)
        · intro vs p hI hp
          have h8 : (vs 8) = .int .i64 (nC : Int) := hp 8 (by simp [Lla3])
          have e26 : (Roll.putD Dla3 vs [8] b0).eval (.tmp 26) = .int .i64 (nC : Int) := (Roll.eval_new 8 rfl (by decide) (by decide) (by omega)).trans h8
          clear hp hlv hN
          unfold Roll.Goes
          simp only [Lla3, List.getD_cons_zero, List.getD_cons_succ]
          generalize Roll.putD Dla3 vs [8] b0 = a1 at *
          refine Roll.goes_val (w' := p) (.int .i64 ((nC - 1 : Nat) : Int)) rfl ?_ ⟨hI, Below.refl _ _, rfl⟩
          (have ec : ∀ x, a1.eval (.const x) = x := fun _ => rfl); (have ef : ∀ x, a1.eval (.func x) = .func (.func x) #[] #[] := fun _ => rfl); generalize a1.eval = ρ at *
          clear h8
          go_simp <;> (intros; first | (exfalso; omega) | rfl)
        · intro vs p hI hp
          have h3 : (vs 3) = .slice (some ⟨bb, off, none⟩) nC cC := hp 3 (by simp [Lla3])
          have h9 : (vs 9) = .int .i64 ((nC - 1 : Nat) : Int) := hp 9 (by simp [Lla3])
          have e21 : (Roll.putD Dla3 vs [3, 9] b0).eval (.tmp 21) = .slice (some ⟨bb, off, none⟩) nC cC := (Roll.eval_new 3 rfl (by decide) (by decide) (by omega)).trans h3
          have e27 : (Roll.putD Dla3 vs [3, 9] b0).eval (.tmp 27) = .int .i64 ((nC - 1 : Nat) : Int) := (Roll.eval_new 9 rfl (by decide) (by decide) (by omega)).trans h9
          clear hp hlv hN
          unfold Roll.Goes
          simp only [Lla3, List.getD_cons_zero, List.getD_cons_succ]
          generalize Roll.putD Dla3 vs [3, 9] b0 = a1 at *
          refine Roll.goes_val (w' := p) (.pointer (some ⟨bb, ob, none⟩)) rfl ?_ ⟨hI, Below.refl _ _, rfl⟩
          (have ec : ∀ x, a1.eval (.const x) = x := fun _ => rfl); (have ef : ∀ x, a1.eval (.func x) = .func (.func x) #[] #[] := fun _ => rfl); generalize a1.eval = ρ at *
          clear h3 h9
          go_simp <;> (intros; first | (exfalso; omega) | rfl)
        · intro vs p hI hp
          have h10 : (vs 10) = .pointer (some ⟨bb, ob, none⟩) := hp 10 (by simp [Lla3])
          have e28 : (Roll.putD Dla3 vs [10] b0).eval (.tmp 28) = .pointer (some ⟨bb, ob, none⟩) := (Roll.eval_new 10 rfl (by decide) (by decide) (by omega)).trans h10
          clear hp hlv hN
          unfold Roll.Goes
          simp only [Lla3, List.getD_cons_zero, List.getD_cons_succ]
          generalize Roll.putD Dla3 vs [10] b0 = a1 at *
          have ld0 := run_loadPair (range_below HRQ.out (by simp [KV.cells]) hI)
          refine Roll.goes_val (w' := p) (.agg #[.string q.k, .string q.v]) rfl ?_ ⟨hI, Below.refl _ _, rfl⟩
          (have ec : ∀ x, a1.eval (.const x) = x := fun _ => rfl); (have ef : ∀ x, a1.eval (.func x) = .func (.func x) #[] #[] := fun _ => rfl); generalize a1.eval = ρ at *
          clear h10
          go_simp <;> (intros; first | (exfalso; omega) | rfl)
      · intro vs p hI hR
        have h0 : (vs 0) = .pointer (some ⟨C.g, 0, none⟩) := hR 0 (by omega)
        have h1 : (vs 1) = .pointer (some ⟨C.g, 0, none⟩) := hR 1 (by omega)
        have h2 : (vs 2) = .pointer (some ⟨C.g, 0, none⟩) := hR 2 (by omega)
        have h3 : (vs 3) = .slice (some ⟨bb, off, none⟩) nC cC := hR 3 (by omega)
        have h4 : (vs 4) = .pointer (some ⟨C.g, 0, none⟩) := hR 4 (by omega)
        have h5 : (vs 5) = .pointer (some ⟨C.g, 0, none⟩) := hR 5 (by omega)
        have h6 : (vs 6) = .pointer (some ⟨C.g, 0, none⟩) := hR 6 (by omega)
        have h7 : (vs 7) = .slice (some ⟨bb, off, none⟩) nC cC := hR 7 (by omega)
        have h8 : (vs 8) = .int .i64 (nC : Int) := hR 8 (by omega)
        have h9 : (vs 9) = .int .i64 ((nC - 1 : Nat) : Int) := hR 9 (by omega)
        have h10 : (vs 10) = .pointer (some ⟨bb, ob, none⟩) := hR 10 (by omega)
        have h11 : (vs 11) = .agg #[.string q.k, .string q.v] := hR 11 (by omega)
        clear hR
        simp only [List.range_succ, List.range_zero, List.nil_append, List.cons_append, Roll.putD, Act.put, List.getD_cons_zero, List.getD_cons_succ, List.setIfInBounds_toArray, List.set_cons_zero, List.set_cons_succ, List.drop_succ_cons, List.drop_zero, Dla3]
        simp only [h0, h1, h2, h3, h4, h5, h6, h7, h8, h9, h10, h11]
        clear h0 h1 h2 h3 h4 h5 h6 h7 h8 h9 h10 h11
        have p2 : PB p g2 := ⟨_, (hI.block _ (heap_lt H2.out)).trans H2.out⟩
        have HI := Lib.hid hI
        clear hI
        go_wp2_with fail
        refine bodyPost_ret (results_cell_row rfl _ _ g2 65 #[.string q.k, .string q.v] (0, 0) _ rfl (setRow_heap _ _ _ _ _ _ ((HI.out.block _ (heap_lt H2.out)).trans H2.out)) Try.underlying65 rfl kcells_info) rfl ⟨rfl, ?_⟩
        exact ((Kept.of_below (fun _ => False) (HB.out.trans (HI.out.mono HB.out.size))).setRow (fun h => by have := HG2.out; omega) _).below (Nat.le_refl _) (fun _ _ h => h)
    · have hkl : C.ks.length = C.ps.length + 1 := by
        rcases hs.lens with h | h
        · exact absurd h hk0
        · exact h
      have HL : Hid (Calls Try.prog 69 #[.pointer (some ⟨C.g, 0, none⟩)] wr fun e w' => e = .returned (.bool false) ∧ wr = w') := Lib.hid (by
        have := leaf_any (hC.under hb).nd
        rw [decide_eq_false (by omega)] at this
        exact this)
      obtain ⟨bk, ok, -, hbk, rfl, hkcell⟩ := hck.cells (by omega)
      have hko := hkcell (mC - 1) (by rw [List.length_map]; omega)
      obtain ⟨X, hX⟩ : ∃ X, X = C.ks[mC - 1]'(by omega) := ⟨_, rfl⟩
      have hXm : X ∈ C.ks := by rw [hX]; exact List.getElem_mem _
      rw [List.getElem_map, ← hX] at hko
      obtain ⟨ob, hob⟩ : ∃ ob, ob = ok + (mC - 1) := ⟨_, rfl⟩
      rw [← hob] at hko
      have hob2 : ok + (mC - 1) = ob := hob.symm
      have cko := (hb.cell (p := ⟨bk, ob, none⟩) hbk).trans hko
      have cc1' := (hb.cell (p := ⟨C.g, 1, none⟩) hcl).trans cc1
      have hm1 : IntKind.i64.wrap ((mC : Int) - 1) = ((mC - 1 : Nat) : Int) := by rw [i64_id _ (by omega) (by omega)]; omega
      have hm2 : ((mC - 1 : Nat) : Int) < (mC : Int) := by omega
      have HX : Hid (∃ k', gk = k' + 1 ∧ NdD D w X ∧ X.Sh k' ∧ (1 ≤ X.ps.length ∧ X.ps.length ≤ 8) ∧ X.toL.getLast? = some q) := Lib.hid (by
        rcases hs with ⟨-, h⟩ | ⟨h0, -, h⟩
        · exact absurd h hk0
        · obtain ⟨k', rfl⟩ : ∃ k', gk = k' + 1 := ⟨gk - 1, by omega⟩
          have hw := h X hXm
          have hw2 := (wf_iff _ _).1 hw.1
          refine ⟨k', rfl, hkd X hXm, hw2.2, ⟨by omega, hw2.1⟩, ?_⟩
          have e1 : C.ks[C.ks.length - 1]'(by omega) = X := by rw [hX]; simp only [hmC]
          have := toLs_getLast C.ps C.ks hkl (by rw [e1]; exact toL_ne k' X hw2.2 (by omega))
          rw [e1] at this
          rw [← this, ← toL_eq]
          exact hq)
      clear hC hs hh hq hb h2 hblk cc0 hcp hck hkd hko hob hkcell hk0 cc1 hX hXm hkl hmC hnC
      go_upto_region 2 with (go_at_call 69; refine HL.out.mono ?_; rintro e w4 ⟨rfl, rfl⟩)
      go_quiet (fail)
      go_wp2_with fail
      obtain ⟨k', rfl, x1, x2, x3, x4⟩ := HX.out
      go_roundg k'
      case measure => omega
      case rel => exact ⟨X, rfl, x1, x2, x3, x4, below_drewN HB.out nq, H2.out⟩
end Go.Proofs.Ytfgmhidgkemfoaa

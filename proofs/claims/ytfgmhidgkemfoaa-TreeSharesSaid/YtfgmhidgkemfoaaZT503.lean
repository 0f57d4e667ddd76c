/-
  Texts NQ, NR, NS, NU, NV, PF, one behind the other.
-/
import Derived.WalkKit
import Derived.WalkSpells
import Derived.WalkLawsBesides
import Derived.Laws.AppendOwn
import Derived.Laws.OwnMore
import Derived.Deep.AppendSrc
import Derived.Deep.MidRow
import Derived.Lib.Hide
import GoSem.Claim
import Derived.Lib.Bytealg
import Derived.Laws.Externs
import Derived.Deep.QuietTactic
import Derived.BigQuiet
import Derived.Deep.CutBlock
import Derived.OwnWalk
import Derived.Deep.DrawnRows
import Derived.Deep.CutRange
import Derived.Deep.LoopGhost
import Derived.Laws.Tables
import Derived.Laws.ResultCell
import Derived.Deep.WholeRow
import Derived.Lib.Strings
import Derived.Shelf.Spec.SlicesInsert
import Derived.Lib.AppendZerosOnto
import Derived.Lib.Overlaps
import Derived.Laws.CopyRow
import Derived.Deep.RegionLaw
import Derived.Orders
import Derived.Tactics
import Derived.StillTailTactics
import Derived.LaidEql
import Derived.MapKept
import Derived.ChangeMaps
import Derived.Carry
import Derived.Test.YtfgmhidgkemfoaaRows
import Derived.Test.YtfgmhidgkemfoaaZT502
namespace Go.Proofs.Ytfgmhidgkemfoaa
open Go.RowKit
set_option linter.unusedSimpArgs false
set_option linter.unusedVariables false
attribute [local go_sem ↓] exec_loadPair exec_storePair exec_at_zeroP exec_at_succP Go.wp_at_zero Go.wp_at_succ
def Dpu6 : List (Option Tmp) := [some 42, some 43, some 44, some 45, some 46, some 47, some 48, none]
def Lpu6 : List (List Nat) := [[], [0], [1], [2], [], [], [3, 4], [6, 5]]
def Dpu8 : List (Option Tmp) := [some 52, some 53, some 54, some 55, some 56, some 57, some 58, some 59, some 60, some 61, some 62, none]
def Lpu8 : List (List Nat) := [[], [], [1], [2], [3], [], [], [6], [4, 5, 7], [0], [9], [10, 8]]
def Dpu3 : List (Option Tmp) := [some 22, some 23, some 24, some 25, some 26, some 27, some 28, some 29, some 30, some 31, some 32, some 33, some 34, some 35, some 36, none]
def Lpu3 : List (List Nat) := [[], [0], [1], [2], [], [], [5], [6], [7], [], [8, 9], [10], [], [11, 12], [3, 4], [14, 13]]
theorem run_storePairAt (w : World) (b o : Nat) (k v : ByteArray) (h : w.there b o 2) : (storePairA (.pointer (some ⟨b, o, none⟩)) (.agg #[.string k, .string v])).run Try.prog w = .ok .skip (w.setCells b o (KV.mk k v).cells) := by
  unfold storePairA
  simp only [Sem.run_bind, Sem.run_pure, Result.andThen_ok, run_storeAt_mid w b o 65 #[.string k, .string v] h kcells_info (by simp [Value.oneCell'])]
  rfl
theorem ONx.there {D : Nat → Prop} {w0 w : World} {g jp : Nat} {kk : Option Nat} {vp vk : Value} {ps : List KV} {ks xs : List BT} (h : ONx D w0 w g (some jp) kk vp vk ps ks xs) (i : Nat) (hi : i < ps.length) : w.there jp (i * 2) 2 := by
  obtain ⟨cap, cur, -, hg, hn, -, hs, -⟩ := h.hp.row
  intro j hj
  refine ⟨?_, frozen_of_row w jp _ _ _ hg⟩
  rw [cell_of_row w jp _ _ _ _ hg]
  have : i * 2 + j < cur.size := by rw [hs]; omega
  simp [this]
/-- what put makes of a node -/
structure PutOf (k : Nat) (T T' : BT) (p : KV) : Prop where
  sh : T'.Sh k
  list : T'.toL = insL T.toL p
  low : T.ps.length ≤ T'.ps.length
  high : T'.ps.length ≤ T.ps.length + 1
  cnt : ∀ P, T'.cnt P ≤ T.cnt P + (3 * k + 1)
def PutRes (D : Nat → Prop) (w : World) (k : Nat) (T : BT) (p : KV) (e : Ending) (w' : World) : Prop := ∃ T' : BT, e = .returned (.pointer (some ⟨T'.g, 0, none⟩)) ∧ NdD (fun b => D b ∨ w.heap.size ≤ b) w' T' ∧ Below w.heap.size w w' ∧ PutOf k T T' p
theorem cntL_set (P : Nat → Bool) (ks : List BT) (i : Nat) (hi : i < ks.length) (r : BT) : cntL P (ks.set i r) + ks[i].cnt P = cntL P ks + r.cnt P := by
  rw [List.set_eq_take_append_cons_drop, if_pos hi, cntL_app, cntL_cons]
  have := cntL_at P ks i hi
  omega
theorem cnt_new (P : Nat → Bool) (T T' : BT) (d : Nat) (h : cntL P T'.ks ≤ cntL P T.ks + d) : T'.cnt P ≤ T.cnt P + (d + 1) := by
  rw [cnt_eq, cnt_eq P T]
  have := toNat_le (P T'.g)
  omega
/-- a pair in place of another one -/
theorem put_found {k : Nat} {T : BT} {p : KV} {c i : Nat} (hs : T.Sh k) (hso : Sorted T.toL) (hi : i < T.ps.length) (hk : T.ps[i].k = p.k) : PutOf k T (.mk c (T.ps.set i p) T.ks) p := by
  refine ⟨?_, ?_, by show _ ≤ (T.ps.set i p).length; simp, by show (T.ps.set i p).length ≤ _; simp, fun P => ?_⟩
  · rcases hs with h | ⟨h1, h2, h3⟩
    · exact .inl h
    · exact .inr ⟨h1, by show T.ks.length = (T.ps.set i p).length + 1; simpa using h2, h3⟩
  · rw [toL_mk]
    rw [toL_eq] at hso ⊢
    rcases hs.lens with h | h
    · rw [h, toLs_leaf] at hso ⊢
      rw [toLs_leaf]
      exact (ins_leaf_old hso hi hk).symm
    · exact (ins_inner_old h hso hi hk).symm
  · have := cnt_new P T (.mk c (T.ps.set i p) T.ks) 0 (Nat.le_refl _)
    omega
theorem put_leaf {k : Nat} {T : BT} {p : KV} {c i : Nat} (hs : T.Sh k) (hk0 : T.ks = []) (hso : Sorted T.toL) (hp : Place T.ps p.k i) (hf : ¬ ∃ h : i < T.ps.length, T.ps[i].k = p.k) : PutOf k T (.mk c (T.ps.take i ++ p :: T.ps.drop i) T.ks) p := by
  have hl : (T.ps.take i ++ p :: T.ps.drop i).length = T.ps.length + 1 := by have := hp.1; simp only [List.length_append, List.length_take, List.length_cons, List.length_drop]; omega
  refine ⟨?_, ?_, by show _ ≤ (T.ps.take i ++ p :: T.ps.drop i).length; omega, by show (T.ps.take i ++ p :: T.ps.drop i).length ≤ _; omega, fun P => ?_⟩
  · rcases hs with h | ⟨h1, h2, h3⟩
    · exact .inl h
    · rw [hk0] at h2; simp at h2
  · rw [toL_mk, hk0, toLs_leaf]
    rw [toL_eq, hk0, toLs_leaf] at hso ⊢
    exact (ins_leaf hso hp hf).symm
  · have := cnt_new P T (.mk c (T.ps.take i ++ p :: T.ps.drop i) T.ks) 0 (Nat.le_refl _)
    omega
theorem put_inner {k : Nat} {T r : BT} {p : KV} {c i : Nat} {ps5 : List KV} {ks5 : List BT} (hl : T.ks.length = T.ps.length + 1) (hi : i < T.ks.length) (hso : Sorted T.toL) (hp : Place T.ps p.k i) (hf : ¬ ∃ h : i < T.ps.length, T.ps[i].k = p.k) (hr : PutOf k T.ks[i] r p) (h3 : 3 ≤ T.ks[i].ps.length) (hm : Mended k r.ps.length T.ps (T.ks.set i r) ps5 ks5) : PutOf (k + 1) T (.mk c ps5 ks5) p := by
  refine ⟨.inr ⟨by omega, hm.lens, hm.kids⟩, ?_, ?_, hm.high, fun P => ?_⟩
  · rw [toL_mk, hm.list, toL_eq]
    rw [toL_eq] at hso
    exact (ins_inner hl hso hp hi hf r hr.list).symm
  · exact hm.low2 (Nat.le_trans h3 hr.low)
  · have h1 := hm.cnt P
    have h2 := cntL_set P T.ks i hi r
    have h4 := hr.cnt P
    have := cnt_new P T (.mk c ps5 ks5) (3 * k + 3) (by show cntL P ks5 ≤ _; omega)
    omega
set_option maxRecDepth 100000 in
set_option maxHeartbeats 4000000 in
theorem put_step {D : Nat → Prop} {w : World} {T : BT} (hT : NdD D w T) (k : Nat) (hs : T.Sh k) (h8 : T.ps.length ≤ 8) (h1 : 1 ≤ T.ps.length) (hso : Sorted T.toL) (pk pv : ByteArray) (hrec : ∀ (E : Nat → Prop) (u : World) (C : BT), C ∈ T.ks → Sorted C.toL → NdD E u C → Calls Try.prog 50 #[.pointer (some ⟨C.g, 0, none⟩), .agg #[.string pk, .string pv]] u (PutRes E u (k - 1) C ⟨pk, pv⟩)) :
    Calls Try.prog 50 #[.pointer (some ⟨T.g, 0, none⟩), .agg #[.string pk, .string pv]] w (PutRes D w k T ⟨pk, pv⟩) := by
  obtain ⟨gb, hgb⟩ : ∃ gb, gb = w.heap.size := ⟨_, rfl⟩
  obtain ⟨wb, hwb⟩ : ∃ wb, wb = w.alloc (.cells #[.string pk, .string pv] 65) := ⟨_, rfl⟩
  have hbw : Below w.heap.size w wb := by rw [hwb]; exact (Below.refl _ _).alloc (Nat.le_refl _) _
  have hbb : wb.heap[gb]? = some (.cells (kcells ⟨pk, pv⟩) 65 (0, 0)) := by rw [hwb, hgb]; exact heap_new rfl
  have HFI := Lib.hid (find_any (hT.under hbw).nd pk (by rcases k with _ | k; exact Sorted.ps ((wf_iff _ _).2 ⟨h8, hs⟩) hso; exact Sorted.ps ((wf_iff _ _).2 ⟨h8, hs⟩) hso) (by omega))
  have HT := Lib.hid hT
  have HBW := Lib.hid hbw
  have HBB := Lib.hid hbb
  have HS := Lib.hid hs
  have HSO := Lib.hid hso
  have HRC := Lib.hid hrec
  have HH : Hid (1 ≤ T.ps.length ∧ T.ps.length ≤ 8) := Lib.hid ⟨h1, h8⟩
  have HTGL : Hid (T.g < w.heap.size) := Lib.hid hT.nd.lt
  have mixed : Try.prog.follows .mixedOrders = true := by kernel_rfl
  obtain ⟨tg, htg⟩ : ∃ tg, tg = T.g := ⟨_, rfl⟩
  rw [← htg] at HFI HTGL ⊢
  have HTG := Lib.hid htg
  clear hT hbw hbb hs hso hrec h1 h8 htg
  go_enter Try.func50, Try.ntmps50
  go_upto_region 1 with fail
  rw [← hwb, ← hgb]
  have c00 : wb.cell? ⟨gb, 0, none⟩ = some (.string pk) := cell_of_row wb gb 0 _ _ _ HBB.out
  have HGB : Hid (gb < wb.heap.size) := Lib.hid (heap_lt HBB.out)
  have HGW : Hid (gb = w.heap.size) := Lib.hid hgb
  clear hwb hgb
  go_upto_region 2 with (go_at_call 59; refine HFI.out.mono ?_; rintro e w1 ⟨i, rfl, hpl, hb1⟩; have HPL := Lib.hid hpl; have HB1 := Lib.hid (HBW.out.trans (hb1.mono HBW.out.size)); have HBB1 := Lib.hid ((hb1.block _ HGB.out).trans HBB.out); have HGB1 := Lib.hid (Nat.lt_of_lt_of_le HGB.out hb1.size); clear hpl hb1)
  have hT1 : NdD D w1 T := HT.out.under HB1.out
  obtain ⟨aT, nT, cT, bT, mT, eT, -, -, ct0, ct1, htp, htk, -⟩ := hT1.facts
  rw [← HTG.out] at ct0 ct1
  have hnT := htp.1
  rw [← hnT] at ct0
  have HPA := Lib.hid (part_any hT1 HS.out.lens 0 T.ps.length (by have := HH.out; omega) (Nat.le_refl _) (by have := HH.out; omega))
  rw [← HTG.out, List.take_length] at HPA
  have e2 : T.ks.take (T.ps.length + 1) = T.ks := by
    rcases HS.out.lens with h | h
    · rw [h]; simp
    · rw [← h, List.take_length]
  rw [e2] at HPA
  have HTK := Lib.hid htk
  have CT1 := Lib.hid ct1
  clear hT1 htp e2 hnT c00 htk ct1
  go_upto_region 5 with (go_at_call 70; refine HPA.out.mono ?_; rintro e q ⟨c, rfl, hon⟩; have HON0 := Lib.hid hon; clear hon)
  obtain ⟨kp, kk, vp, vk, hon⟩ := HON0.out
  obtain ⟨ps, hps⟩ : ∃ ps, ps = T.ps := ⟨_, rfl⟩
  obtain ⟨ks, hks⟩ : ∃ ks, ks = T.ks := ⟨_, rfl⟩
  obtain ⟨xs, hxs⟩ : ∃ xs, xs = T :: T.ks := ⟨_, rfl⟩
  have hon : ONx D w1 q c kp kk vp vk ps ks xs := by
    have h := hon
    rw [List.drop_zero, List.drop_zero, ← hps, ← hxs, ← hks] at h
    exact h
  have HPS := Lib.hid hps
  have HKS := Lib.hid hks
  have hbq : Below w1.heap.size w1 q := hon.below
  have HBQ : Hid (Below w.heap.size w q) := Lib.hid (HB1.out.trans (hbq.mono HB1.out.size))
  have hbb : q.heap[gb]? = some (.cells (kcells ⟨pk, pv⟩) 65 (0, 0)) := (hbq.block _ HGB1.out).trans HBB1.out
  have HRB : Hid (q.rangeAt gb 0 (KV.mk pk pv).cells) := Lib.hid (range_kv hbb)
  obtain ⟨hcl, c0, c1, -, -⟩ := hon.facts
  have hpl := HPL.out
  have HFIN : Hid (∀ (w' : World) (ps' : List KV) (ks' xs' : List BT), ON D w1 w' c ps' ks' xs' → PutOf k T (.mk c ps' ks') ⟨pk, pv⟩ → PutRes D w k T ⟨pk, pv⟩ (.returned (.pointer (some ⟨c, 0, none⟩))) w') := Lib.hid (fun w' ps' ks' xs' h hp => by
    obtain ⟨_, _, _, _, h⟩ := h
    exact ⟨_, rfl, h.nd.dom (fun b hb => hb.imp id (Nat.le_trans HB1.out.size)), HB1.out.trans (h.below.mono HB1.out.size), hp⟩)
  have HCL := Lib.hid hcl
  have C0 := Lib.hid c0
  have C1 := Lib.hid c1
  have HIE0 : Hid (i ≤ T.ps.length) := Lib.hid hpl.1
  obtain ⟨jp, cv, rfl, rfl, hcv, hcm, hjpl⟩ := hon.pairAt (by rw [hps]; have := HH.out; omega)
  obtain ⟨n, hn⟩ : ∃ n, n = ps.length := ⟨_, rfl⟩
  rw [← hn] at hon C0 hcv
  have HNV := Lib.hid hn
  have HON := Lib.hid hon
  have hcm2 : cv ≤ 9223372036854775807 := hcm
  have HOP : Hid (Own q 65 2 (some jp) (.slice (some ⟨jp, 0, none⟩) n cv) n (pcells ps)) := Lib.hid (by have := hon.hp; rwa [← hn] at this)
  clear hpl hbq hbb hcl c0 c1 hps hks hxs hcm hjpl HON0 HPA
  by_cases hfd : ∃ h : i < T.ps.length, T.ps[i].k = pk
  · rw [decide_eq_true hfd]
    have HIN : Hid (i < ps.length) := Lib.hid (by rw [HPS.out]; exact hfd.1)
    have hin : (i : Int) < (n : Int) := by have := HIN.out; have := HNV.out; omega
    have HRES : Hid (∀ (e : Unit) (w' : World), ONx D w1 w' c (some jp) kk (.slice (some ⟨jp, 0, none⟩) n cv) vk (ps.set i ⟨pk, pv⟩) ks xs → PutRes D w k T ⟨pk, pv⟩ (.returned (.pointer (some ⟨c, 0, none⟩))) w') := Lib.hid (fun _ w' h => HFIN.out w' _ _ _ ⟨_, _, _, _, h⟩ (by rw [HPS.out, HKS.out]; exact put_found HS.out HSO.out hfd.1 hfd.2))
    clear hon hn
    go_upto_region 6 with fail
    refine Roll.region_f 6 64 Dpu6 Lpu6 [(0, .pointer (some ⟨tg, 0, none⟩)), (3, .pointer (some ⟨gb, 0, none⟩)), (5, .int .i64 (i : Int)), (7, .pointer (some ⟨c, 0, none⟩))] (fun p => Below q.heap.size q p) (fun p p2 => Below p.heap.size p p2) [fun vv p => vv = .pointer (some ⟨c, 0, none⟩), fun vv p => vv = .pointer (some ⟨c, 0, none⟩), fun vv p => vv = .pointer (some ⟨c, 0, none⟩), fun vv p => vv = .slice (some ⟨jp, 0, none⟩) n cv, fun vv p => vv = .int .i64 (i : Int), fun vv p => vv = .agg #[.string pk, .string pv]] (by kernel_rfl) (by kernel_rfl) rfl ⟨rfl, rfl, rfl, rfl, trivial⟩ ((Below.refl _ _).drew) ?_ ?_ ?_
    · exact ⟨fun _ _ _ _ h => h, fun _ _ _ _ h => h, fun _ _ _ _ h => h, fun _ _ _ _ h => h, fun _ _ _ _ h => h, fun _ _ _ _ h => h, trivial⟩
    · intro b0 hN hlv
      refine ⟨?_, ?_, ?_, ?_, ?_, ?_, trivial⟩
      · intro vs p hI hp
        have e7 : (Roll.putD Dpu6 vs [] b0).eval (.tmp 7) = .pointer (some ⟨c, 0, none⟩) := (Roll.eval_old rfl).trans (hlv.at 3 (7, .pointer (some ⟨c, 0, none⟩)) rfl)
        clear hp hlv hN
        unfold Roll.Goes
        simp only [Lpu6, List.getD_cons_zero, List.getD_cons_succ]
        generalize Roll.putD Dpu6 vs [] b0 = a1 at *
        refine Roll.goes_val (w' := p) (.pointer (some ⟨c, 0, none⟩)) rfl ?_ ⟨hI, Below.refl _ _, rfl⟩
        (have ec : ∀ x, a1.eval (.const x) = x := fun _ => rfl); (have ef : ∀ x, a1.eval (.func x) = .func (.func x) #[] #[] := fun _ => rfl); generalize a1.eval = ρ at *
        skip
        go_simp <;> (intros; first | (exfalso; omega) | rfl)
      · intro vs p hI hp
        have h0 : (vs 0) = .pointer (some ⟨c, 0, none⟩) := hp 0 (by simp [Lpu6])
        have e42 : (Roll.putD Dpu6 vs [0] b0).eval (.tmp 42) = .pointer (some ⟨c, 0, none⟩) := (Roll.eval_new 0 rfl (by decide) (by decide) (by omega)).trans h0
        clear hp hlv hN
        unfold Roll.Goes
        simp only [Lpu6, List.getD_cons_zero, List.getD_cons_succ]
        generalize Roll.putD Dpu6 vs [0] b0 = a1 at *
        refine Roll.goes_val (w' := p) (.pointer (some ⟨c, 0, none⟩)) rfl ?_ ⟨hI, Below.refl _ _, rfl⟩
        (have ec : ∀ x, a1.eval (.const x) = x := fun _ => rfl); (have ef : ∀ x, a1.eval (.func x) = .func (.func x) #[] #[] := fun _ => rfl); generalize a1.eval = ρ at *
        clear h0
        go_simp <;> (intros; first | (exfalso; omega) | rfl)
      · intro vs p hI hp
        have h1 : (vs 1) = .pointer (some ⟨c, 0, none⟩) := hp 1 (by simp [Lpu6])
        have e43 : (Roll.putD Dpu6 vs [1] b0).eval (.tmp 43) = .pointer (some ⟨c, 0, none⟩) := (Roll.eval_new 1 rfl (by decide) (by decide) (by omega)).trans h1
        clear hp hlv hN
        unfold Roll.Goes
        simp only [Lpu6, List.getD_cons_zero, List.getD_cons_succ]
        generalize Roll.putD Dpu6 vs [1] b0 = a1 at *
        refine Roll.goes_val (w' := p) (.pointer (some ⟨c, 0, none⟩)) rfl ?_ ⟨hI, Below.refl _ _, rfl⟩
        (have ec : ∀ x, a1.eval (.const x) = x := fun _ => rfl); (have ef : ∀ x, a1.eval (.func x) = .func (.func x) #[] #[] := fun _ => rfl); generalize a1.eval = ρ at *
        clear h1
        go_simp <;> (intros; first | (exfalso; omega) | rfl)
      · intro vs p hI hp
        have h2 : (vs 2) = .pointer (some ⟨c, 0, none⟩) := hp 2 (by simp [Lpu6])
        have e44 : (Roll.putD Dpu6 vs [2] b0).eval (.tmp 44) = .pointer (some ⟨c, 0, none⟩) := (Roll.eval_new 2 rfl (by decide) (by decide) (by omega)).trans h2
        clear hp hlv hN
        unfold Roll.Goes
        simp only [Lpu6, List.getD_cons_zero, List.getD_cons_succ]
        generalize Roll.putD Dpu6 vs [2] b0 = a1 at *
        have cf : p.cell? ⟨c, 0, none⟩ = some (.slice (some ⟨jp, 0, none⟩) n cv) := (hI.cell (p := ⟨c, 0, none⟩) HCL.out).trans C0.out
        refine Roll.goes_val (w' := p) (.slice (some ⟨jp, 0, none⟩) n cv) rfl ?_ ⟨hI, Below.refl _ _, rfl⟩
        (have ec : ∀ x, a1.eval (.const x) = x := fun _ => rfl); (have ef : ∀ x, a1.eval (.func x) = .func (.func x) #[] #[] := fun _ => rfl); generalize a1.eval = ρ at *
        clear h2
        go_simp <;> (intros; first | (exfalso; omega) | rfl)
      · intro vs p hI hp
        have e5 : (Roll.putD Dpu6 vs [] b0).eval (.tmp 5) = .int .i64 (i : Int) := (Roll.eval_old rfl).trans (hlv.at 2 (5, .int .i64 (i : Int)) rfl)
        clear hp hlv hN
        unfold Roll.Goes
        simp only [Lpu6, List.getD_cons_zero, List.getD_cons_succ]
        generalize Roll.putD Dpu6 vs [] b0 = a1 at *
        refine Roll.goes_val (w' := p) (.int .i64 (i : Int)) rfl ?_ ⟨hI, Below.refl _ _, rfl⟩
        (have ec : ∀ x, a1.eval (.const x) = x := fun _ => rfl); (have ef : ∀ x, a1.eval (.func x) = .func (.func x) #[] #[] := fun _ => rfl); generalize a1.eval = ρ at *
        skip
        go_simp <;> (intros; first | (exfalso; omega) | rfl)
      · intro vs p hI hp
        have e3 : (Roll.putD Dpu6 vs [] b0).eval (.tmp 3) = .pointer (some ⟨gb, 0, none⟩) := (Roll.eval_old rfl).trans (hlv.at 1 (3, .pointer (some ⟨gb, 0, none⟩)) rfl)
        clear hp hlv hN
        unfold Roll.Goes
        simp only [Lpu6, List.getD_cons_zero, List.getD_cons_succ]
        generalize Roll.putD Dpu6 vs [] b0 = a1 at *
        have ld0 := run_loadPair (range_below HRB.out (by simp [KV.cells]) hI)
        refine Roll.goes_val (w' := p) (.agg #[.string pk, .string pv]) rfl ?_ ⟨hI, Below.refl _ _, rfl⟩
        (have ec : ∀ x, a1.eval (.const x) = x := fun _ => rfl); (have ef : ∀ x, a1.eval (.func x) = .func (.func x) #[] #[] := fun _ => rfl); generalize a1.eval = ρ at *
        skip
        go_simp <;> (intros; first | (exfalso; omega) | rfl)
    · intro vs p hI hR
      have h0 : (vs 0) = .pointer (some ⟨c, 0, none⟩) := hR 0 (by omega)
      have h1 : (vs 1) = .pointer (some ⟨c, 0, none⟩) := hR 1 (by omega)
      have h2 : (vs 2) = .pointer (some ⟨c, 0, none⟩) := hR 2 (by omega)
      have h3 : (vs 3) = .slice (some ⟨jp, 0, none⟩) n cv := hR 3 (by omega)
      have h4 : (vs 4) = .int .i64 (i : Int) := hR 4 (by omega)
      have h5 : (vs 5) = .agg #[.string pk, .string pv] := hR 5 (by omega)
      clear hR
      simp only [List.range_succ, List.range_zero, List.nil_append, List.cons_append, Roll.putD, Act.put, List.getD_cons_zero, List.getD_cons_succ, List.setIfInBounds_toArray, List.set_cons_zero, List.set_cons_succ, List.drop_succ_cons, List.drop_zero, Dpu6]
      simp only [h0, h1, h2, h3, h4, h5]
      clear h0 h1 h2 h3 h4 h5
      have th := (HON.out.under hI).there i HIN.out
      have st0 := run_storePairAt p jp (i * 2) pk pv th
      clear th
      have HON2 := Lib.hid ((HON.out.under hI).setP i HIN.out ⟨pk, pv⟩)
      clear hI
      go_wp2_with fail
      go_ret
      exact HRES.out () _ HON2.out
  · rw [decide_eq_false hfd]
    have HFD := Lib.hid hfd
    by_cases hk0 : T.ks = []
    · have HLF : Hid (Calls Try.prog 69 #[.pointer (some ⟨tg, 0, none⟩)] q fun e w' => e = .returned (.bool true) ∧ q = w') := Lib.hid (by
        have := leaf_any (HT.out.under HBQ.out).nd
        rw [← HTG.out, hk0] at this
        exact this)
      have HIE : Hid (i ≤ n) := Lib.hid (by have := HIE0.out; rw [HNV.out, HPS.out]; exact this)
      have HNB : Hid (n ≤ 1000) := Lib.hid (by have := HH.out; rw [HNV.out, HPS.out]; omega)
      have ND1 : Hid (¬ some jp = some c) := Lib.hid hon.d1
      have ND2 : Hid (¬ some jp = some gb) := Lib.hid (fun e => by cases e; have := hon.n1 gb rfl; have := HGB1.out; omega)
      have HRES2 : Hid (∀ (e : Unit) (w' : World), ON D w1 w' c (ps.take i ++ ⟨pk, pv⟩ :: ps.drop i) ks xs → PutRes D w k T ⟨pk, pv⟩ (.returned (.pointer (some ⟨c, 0, none⟩))) w') := Lib.hid (fun _ w' h => HFIN.out w' _ _ _ h (by rw [HPS.out, HKS.out]; exact put_leaf HS.out hk0 HSO.out HPL.out HFD.out))
      clear hon hn hk0 hfd
      go_upto_region 8 with (go_at_call 69; refine HLF.out.mono ?_; rintro e w4 ⟨rfl, rfl⟩)
      refine Roll.region_v 9 64 Dpu8 Lpu8 [(0, .pointer (some ⟨tg, 0, none⟩)), (3, .pointer (some ⟨gb, 0, none⟩)), (5, .int .i64 (i : Int)), (7, .pointer (some ⟨c, 0, none⟩))] 8 [true, true, true, true, true, true, true, false, false] (fun p => Below q.heap.size q p) (fun vv p => ∃ k2, Own p 65 2 k2 vv (n + 1) (insC (pcells ps) [.string pk, .string pv] (i * 2)) ∧ RowTo q p (some jp) k2) (fun p => Kept (fun j => some jp = some j) q p) (fun p p2 => Kept (fun j => some jp = some j) p p2) [fun vv p => (vv 0) = .pointer (some ⟨c, 0, none⟩), fun vv p => (vv 1) = .pointer (some ⟨c, 0, none⟩), fun vv p => (vv 2) = .pointer (some ⟨c, 0, none⟩), fun vv p => (vv 3) = .pointer (some ⟨c, 0, none⟩), fun vv p => (vv 4) = .slice (some ⟨jp, 0, none⟩) n cv, fun vv p => (vv 5) = .int .i64 (i : Int), fun vv p => (vv 6) = .agg #[.string pk, .string pv], fun vv p => ∃ x, (vv 7) = .slice (some ⟨x, 0, none⟩) 1 1 ∧ q.heap.size ≤ x ∧ p.heap[x]? = some (.cells #[.string pk, .string pv] 65 (0, 0)), fun vv p => True] (by kernel_rfl) (by kernel_rfl) rfl ⟨rfl, rfl, rfl, rfl, trivial⟩ ((Below.refl _ _).drew) (by decide) (by kernel_rfl) (fun _ h => Kept.of_below _ h) (fun _ _ h => by obtain ⟨_, _, h⟩ := h; exact h.2) (fun _ => Kept.refl _ _) ?_ ?_ ?_
      · exact ⟨fun _ _ _ _ h => h, fun _ _ _ _ h => h, fun _ _ _ _ h => h, fun _ _ _ _ h => h, fun _ _ _ _ h => h, fun _ _ _ _ h => h, fun _ _ _ _ h => h, fun _ _ _ hs h => by obtain ⟨x, e1, e2, e3⟩ := h; exact ⟨x, e1, e2, hs.heap e3 (fun e => by have := HOP.out.lt _ e; omega)⟩, fun _ _ _ _ h => h, trivial⟩
      · intro b0 hN hlv
        refine ⟨?_, ?_, ?_, ?_, ?_, ?_, ?_, ?_, ?_, trivial⟩
        · intro vs p hI0 hp
          have hI := Roll.inw_pure (by decide) rfl hI0
          clear hI0
          have e7 : (Roll.putD Dpu8 vs [] b0).eval (.tmp 7) = .pointer (some ⟨c, 0, none⟩) := (Roll.eval_old rfl).trans (hlv.at 3 (7, .pointer (some ⟨c, 0, none⟩)) rfl)
          clear hp hlv hN
          unfold Roll.Goes
          simp only [Lpu8, List.getD_cons_zero, List.getD_cons_succ]
          generalize Roll.putD Dpu8 vs [] b0 = a1 at *
          refine Roll.goes_val (w' := p) (.pointer (some ⟨c, 0, none⟩)) rfl ?_ ⟨(Roll.outw_pure (by decide) rfl), rfl⟩
          (have ec : ∀ x, a1.eval (.const x) = x := fun _ => rfl); (have ef : ∀ x, a1.eval (.func x) = .func (.func x) #[] #[] := fun _ => rfl); generalize a1.eval = ρ at *
          skip
          go_simp <;> (intros; first | (exfalso; omega) | rfl)
        · intro vs p hI0 hp
          have hI := Roll.inw_pure (by decide) rfl hI0
          clear hI0
          have e7 : (Roll.putD Dpu8 vs [] b0).eval (.tmp 7) = .pointer (some ⟨c, 0, none⟩) := (Roll.eval_old rfl).trans (hlv.at 3 (7, .pointer (some ⟨c, 0, none⟩)) rfl)
          clear hp hlv hN
          unfold Roll.Goes
          simp only [Lpu8, List.getD_cons_zero, List.getD_cons_succ]
          generalize Roll.putD Dpu8 vs [] b0 = a1 at *
          refine Roll.goes_val (w' := p) (.pointer (some ⟨c, 0, none⟩)) rfl ?_ ⟨(Roll.outw_pure (by decide) rfl), rfl⟩
          (have ec : ∀ x, a1.eval (.const x) = x := fun _ => rfl); (have ef : ∀ x, a1.eval (.func x) = .func (.func x) #[] #[] := fun _ => rfl); generalize a1.eval = ρ at *
          skip
          go_simp <;> (intros; first | (exfalso; omega) | rfl)
        · intro vs p hI0 hp
          have hI := Roll.inw_pure (by decide) rfl hI0
          clear hI0
          have h1 : (vs 1) = .pointer (some ⟨c, 0, none⟩) := hp 1 (by simp [Lpu8])
          have e53 : (Roll.putD Dpu8 vs [1] b0).eval (.tmp 53) = .pointer (some ⟨c, 0, none⟩) := (Roll.eval_new 1 rfl (by decide) (by decide) (by omega)).trans h1
          clear hp hlv hN
          unfold Roll.Goes
          simp only [Lpu8, List.getD_cons_zero, List.getD_cons_succ]
          generalize Roll.putD Dpu8 vs [1] b0 = a1 at *
          refine Roll.goes_val (w' := p) (.pointer (some ⟨c, 0, none⟩)) rfl ?_ ⟨(Roll.outw_pure (by decide) rfl), rfl⟩
          (have ec : ∀ x, a1.eval (.const x) = x := fun _ => rfl); (have ef : ∀ x, a1.eval (.func x) = .func (.func x) #[] #[] := fun _ => rfl); generalize a1.eval = ρ at *
          clear h1
          go_simp <;> (intros; first | (exfalso; omega) | rfl)
        · intro vs p hI0 hp
          have hI := Roll.inw_pure (by decide) rfl hI0
          clear hI0
          have h2 : (vs 2) = .pointer (some ⟨c, 0, none⟩) := hp 2 (by simp [Lpu8])
          have e54 : (Roll.putD Dpu8 vs [2] b0).eval (.tmp 54) = .pointer (some ⟨c, 0, none⟩) := (Roll.eval_new 2 rfl (by decide) (by decide) (by omega)).trans h2
          clear hp hlv hN
          unfold Roll.Goes
          simp only [Lpu8, List.getD_cons_zero, List.getD_cons_succ]
          generalize Roll.putD Dpu8 vs [2] b0 = a1 at *
          refine Roll.goes_val (w' := p) (.pointer (some ⟨c, 0, none⟩)) rfl ?_ ⟨(Roll.outw_pure (by decide) rfl), rfl⟩
          (have ec : ∀ x, a1.eval (.const x) = x := fun _ => rfl); (have ef : ∀ x, a1.eval (.func x) = .func (.func x) #[] #[] := fun _ => rfl); generalize a1.eval = ρ at *
          clear h2
          go_simp <;> (intros; first | (exfalso; omega) | rfl)
        · intro vs p hI0 hp
          have hI := Roll.inw_pure (by decide) rfl hI0
          clear hI0
          have h3 : (vs 3) = .pointer (some ⟨c, 0, none⟩) := hp 3 (by simp [Lpu8])
          have e55 : (Roll.putD Dpu8 vs [3] b0).eval (.tmp 55) = .pointer (some ⟨c, 0, none⟩) := (Roll.eval_new 3 rfl (by decide) (by decide) (by omega)).trans h3
          clear hp hlv hN
          unfold Roll.Goes
          simp only [Lpu8, List.getD_cons_zero, List.getD_cons_succ]
          generalize Roll.putD Dpu8 vs [3] b0 = a1 at *
          have cf : p.cell? ⟨c, 0, none⟩ = some (.slice (some ⟨jp, 0, none⟩) n cv) := (hI.cell (p := ⟨c, 0, none⟩) HCL.out ND1.out).trans C0.out
          refine Roll.goes_val (w' := p) (.slice (some ⟨jp, 0, none⟩) n cv) rfl ?_ ⟨(Roll.outw_pure (by decide) rfl), rfl⟩
          (have ec : ∀ x, a1.eval (.const x) = x := fun _ => rfl); (have ef : ∀ x, a1.eval (.func x) = .func (.func x) #[] #[] := fun _ => rfl); generalize a1.eval = ρ at *
          clear h3
          go_simp <;> (intros; first | (exfalso; omega) | rfl)
        · intro vs p hI0 hp
          have hI := Roll.inw_pure (by decide) rfl hI0
          clear hI0
          have e5 : (Roll.putD Dpu8 vs [] b0).eval (.tmp 5) = .int .i64 (i : Int) := (Roll.eval_old rfl).trans (hlv.at 2 (5, .int .i64 (i : Int)) rfl)
          clear hp hlv hN
          unfold Roll.Goes
          simp only [Lpu8, List.getD_cons_zero, List.getD_cons_succ]
          generalize Roll.putD Dpu8 vs [] b0 = a1 at *
          refine Roll.goes_val (w' := p) (.int .i64 (i : Int)) rfl ?_ ⟨(Roll.outw_pure (by decide) rfl), rfl⟩
          (have ec : ∀ x, a1.eval (.const x) = x := fun _ => rfl); (have ef : ∀ x, a1.eval (.func x) = .func (.func x) #[] #[] := fun _ => rfl); generalize a1.eval = ρ at *
          skip
          go_simp <;> (intros; first | (exfalso; omega) | rfl)
        · intro vs p hI0 hp
          have hI := Roll.inw_pure (by decide) rfl hI0
          clear hI0
          have e3 : (Roll.putD Dpu8 vs [] b0).eval (.tmp 3) = .pointer (some ⟨gb, 0, none⟩) := (Roll.eval_old rfl).trans (hlv.at 1 (3, .pointer (some ⟨gb, 0, none⟩)) rfl)
          clear hp hlv hN
          unfold Roll.Goes
          simp only [Lpu8, List.getD_cons_zero, List.getD_cons_succ]
          generalize Roll.putD Dpu8 vs [] b0 = a1 at *
          have ld0 := run_loadPair (range_kept HRB.out (by simp [KV.cells]) hI ND2.out)
          refine Roll.goes_val (w' := p) (.agg #[.string pk, .string pv]) rfl ?_ ⟨(Roll.outw_pure (by decide) rfl), rfl⟩
          (have ec : ∀ x, a1.eval (.const x) = x := fun _ => rfl); (have ef : ∀ x, a1.eval (.func x) = .func (.func x) #[] #[] := fun _ => rfl); generalize a1.eval = ρ at *
          skip
          go_simp <;> (intros; first | (exfalso; omega) | rfl)
        · intro vs p hI0 hp
          have hI := Roll.inw_pre (by decide) rfl hI0
          clear hI0
          have h6 : (vs 6) = .agg #[.string pk, .string pv] := hp 6 (by simp [Lpu8])
          have e58 : (Roll.putD Dpu8 vs [6] b0).eval (.tmp 58) = .agg #[.string pk, .string pv] := (Roll.eval_new 6 rfl (by decide) (by decide) (by omega)).trans h6
          clear hp hlv hN
          unfold Roll.Goes
          simp only [Lpu8, List.getD_cons_zero, List.getD_cons_succ]
          generalize Roll.putD Dpu8 vs [6] b0 = a1 at *
          have hal : Below p.heap.size p (p.alloc (.cells #[.string pk, .string pv] 65)) := (Below.refl _ _).alloc (Nat.le_refl _) _
          refine Roll.goes_val (w' := p.alloc (.cells #[.string pk, .string pv] 65)) (.slice (some ⟨p.heap.size, 0, none⟩) 1 1) rfl (by have ec : ∀ x, a1.eval (.const x) = x := fun _ => rfl; have ef : ∀ x, a1.eval (.func x) = .func (.func x) #[] #[] := fun _ => rfl; have hbs := run_bs1P; generalize a1.eval = ρ at *; go_simp <;> (intros; first | (exfalso; omega) | rfl)) ⟨Roll.outw_pre (by decide) rfl (hI.trans (hal.mono hI.size)) (Kept.of_below _ hal), p.heap.size, rfl, hI.size, heap_new rfl⟩
        · intro vs p hI0 hp
          have hI := Roll.inw_k0 rfl hI0
          clear hI0
          have h4 : (vs 4) = .slice (some ⟨jp, 0, none⟩) n cv := hp 4 (by simp [Lpu8])
          have h5 : (vs 5) = .int .i64 (i : Int) := hp 5 (by simp [Lpu8])
          have h7 : ∃ x, (vs 7) = .slice (some ⟨x, 0, none⟩) 1 1 ∧ q.heap.size ≤ x ∧ p.heap[x]? = some (.cells #[.string pk, .string pv] 65 (0, 0)) := hp 7 (by simp [Lpu8])
          have e56 : (Roll.putD Dpu8 vs [4, 5, 7] b0).eval (.tmp 56) = .slice (some ⟨jp, 0, none⟩) n cv := (Roll.eval_new 4 rfl (by decide) (by decide) (by omega)).trans h4
          have e57 : (Roll.putD Dpu8 vs [4, 5, 7] b0).eval (.tmp 57) = .int .i64 (i : Int) := (Roll.eval_new 5 rfl (by decide) (by decide) (by omega)).trans h5
          have e59 : (Roll.putD Dpu8 vs [4, 5, 7] b0).eval (.tmp 59) = vs 7 := (Roll.eval_new 7 rfl (by decide) (by decide) (by omega))
          clear hp hlv hN
          unfold Roll.Goes
          simp only [Lpu8, List.getD_cons_zero, List.getD_cons_succ]
          generalize Roll.putD Dpu8 vs [4, 5, 7] b0 = a1 at *
          obtain ⟨x, hvx, hxq, hhx⟩ := h7
          rw [hvx] at e59
          refine Roll.goes_call 71 #[.slice (some ⟨jp, 0, none⟩) n cv, .int .i64 (i : Int), .slice (some ⟨x, 0, none⟩) 1 1] p rfl (by have ec : ∀ x, a1.eval (.const x) = x := fun _ => rfl; have ef : ∀ x, a1.eval (.func x) = .func (.func x) #[] #[] := fun _ => rfl; generalize a1.eval = ρ at *; go_simp) ?_
          refine (insertP_any p (some jp) (.slice (some ⟨jp, 0, none⟩) n cv) n (pcells ps) [.string pk, .string pv] i x 65 (HOP.out.kept (Kept.of_below (fun _ => False) hI) (fun _ _ h => h)) rfl (pcells_one ps) (by simp [Value.oneCell']) HIE.out HNB.out hhx (fun e => by have := HOP.out.lt x e; omega)).mono ?_
          rintro y p2 ⟨k2, v2, rfl, ho, hr⟩
          exact ⟨_, rfl, Roll.outw_k0 rfl ⟨k2, ho, fun j hj => (hr.1 j hj).imp id (fun e => Nat.le_trans hI.size e), (Kept.of_below _ hI).trans hr.2 (fun _ _ h => h)⟩ hr.2, trivial⟩
      · intro vs p hI hR
        have h0 : (vs 0) = .pointer (some ⟨c, 0, none⟩) := hR 0 (by omega)
        have h1 : (vs 1) = .pointer (some ⟨c, 0, none⟩) := hR 1 (by omega)
        have h2 : (vs 2) = .pointer (some ⟨c, 0, none⟩) := hR 2 (by omega)
        have h3 : (vs 3) = .pointer (some ⟨c, 0, none⟩) := hR 3 (by omega)
        have h4 : (vs 4) = .slice (some ⟨jp, 0, none⟩) n cv := hR 4 (by omega)
        have h5 : (vs 5) = .int .i64 (i : Int) := hR 5 (by omega)
        have h6 : (vs 6) = .agg #[.string pk, .string pv] := hR 6 (by omega)
        have h7 : ∃ x, (vs 7) = .slice (some ⟨x, 0, none⟩) 1 1 ∧ q.heap.size ≤ x ∧ p.heap[x]? = some (.cells #[.string pk, .string pv] 65 (0, 0)) := hR 7 (by omega)
        have h8 : True := hR 8 (by omega)
        clear hR
        simp only [List.range_succ, List.range_zero, List.nil_append, List.cons_append, Roll.putD, Act.put, List.getD_cons_zero, List.getD_cons_succ, List.setIfInBounds_toArray, List.set_cons_zero, List.set_cons_succ, List.drop_succ_cons, List.drop_zero, Dpu8]
        simp only [h0, h1, h2, h3, h4, h5, h6]
        clear h0 h1 h2 h3 h4 h5 h6
        clear h7 h8
        generalize vs 7 = v7 at *; generalize vs 8 = v8 at *
        obtain ⟨k2, ho, hr⟩ := hI
        obtain ⟨a2, c2, rfl, -⟩ := id ho.sl
        have hgp := hr.2.heap HON.out.blk HON.out.d1
        have cg0 := cell_of_row p c 0 _ _ _ hgp
        have fg0 := frozen_of_row p c 0 _ _ hgp
        have HON2 : Hid (ONx D w1 (p.setCell ⟨c, 0, none⟩ (.slice a2 (n + 1) c2)) c k2 kk (.slice a2 (n + 1) c2) vk (ps.take i ++ ⟨pk, pv⟩ :: ps.drop i) ks xs) := Lib.hid (HON.out.newP2 (by
          have e1 : (ps.take i ++ KV.mk pk pv :: ps.drop i).length = n + 1 := by have := HNV.out; have := HIE.out; simp only [List.length_append, List.length_take, List.length_cons, List.length_drop]; omega
          rw [e1, pcells_ins ps i (by have := HNV.out; have := HIE.out; omega)]
          exact ho) hr)
        clear ho hr hgp
        go_wp2_with fail
        go_ret
        exact HRES2.out () _ ⟨_, _, _, _, HON2.out⟩
    · have hkl : T.ks.length = T.ps.length + 1 := by
        rcases HS.out.lens with h | h
        · exact absurd h hk0
        · exact h
      have HKL := Lib.hid hkl
      obtain ⟨k', rfl⟩ : ∃ k', k = k' + 1 := by
        rcases HS.out with ⟨-, h⟩ | ⟨h, -⟩
        · exact absurd h hk0
        · exact ⟨k - 1, by omega⟩
      have hkw : ∀ x ∈ T.ks, x.Wf (k' + 1) ∧ 3 ≤ x.ps.length := by
        rcases HS.out with ⟨h, -⟩ | ⟨-, -, h⟩
        · omega
        · exact h
      have hik : i < T.ks.length := by have := HIE0.out; omega
      obtain ⟨C, hC⟩ : ∃ C, C = T.ks[i]'hik := ⟨_, rfl⟩
      have hCm : C ∈ T.ks := by rw [hC]; exact List.getElem_mem hik
      have HLF : Hid (Calls Try.prog 69 #[.pointer (some ⟨tg, 0, none⟩)] q fun e w' => e = .returned (.bool false) ∧ q = w') := Lib.hid (by
        have := leaf_any (HT.out.under HBQ.out).nd
        rw [← HTG.out, decide_eq_false (by omega)] at this
        exact this)
      obtain ⟨jk, kc, rfl, rfl, hkc, hkm, hjl, hcell⟩ := hon.kidAt (by rw [HKS.out]; omega)
      have hiks : i < ks.length := by rw [HKS.out]; exact hik
      have hcellk := hcell i hiks
      obtain ⟨kn, hkn⟩ : ∃ kn, kn = ks.length := ⟨_, rfl⟩
      have hmT := HTK.out.1
      rw [List.length_map] at hmT
      have hmT2 : mT = kn := by rw [hkn, HKS.out]; exact hmT.symm
      subst hmT2
      rw [← hkn] at hkc
      simp only [← hkn] at hon
      have C1 : Hid (q.cell? ⟨c, 1, none⟩ = some (.slice (some ⟨jk, 0, none⟩) mT kc)) := Lib.hid (by have := C1.out; rwa [← hkn] at this)
      have HON : Hid (ONx D w1 q c (some jp) (some jk) (.slice (some ⟨jp, 0, none⟩) n cv) (.slice (some ⟨jk, 0, none⟩) mT kc) ps ks xs) := Lib.hid hon
      obtain ⟨bk, ok, -, hbk, rfl, hkcell⟩ := HTK.out.cells (by omega)
      have hko := hkcell i (by rw [List.length_map]; exact hik)
      rw [List.getElem_map, ← hC] at hko
      obtain ⟨ob, hob⟩ : ∃ ob, ob = ok + i := ⟨_, rfl⟩
      rw [← hob] at hko
      have hob2 : ok + i = ob := hob.symm
      obtain ⟨kg, hkg⟩ : ∃ kg, kg = C.g := ⟨_, rfl⟩
      rw [← hkg] at hko
      have hbq : Below w1.heap.size w1 q := hon.below
      have HTL : Hid (tg < q.heap.size) := Lib.hid (Nat.lt_of_lt_of_le HTGL.out HBQ.out.size)
      have CT1 : Hid (q.cell? ⟨tg, 1, none⟩ = some (.slice (some ⟨bk, ok, none⟩) mT eT)) := Lib.hid ((hbq.cell (p := ⟨tg, 1, none⟩) (Nat.lt_of_lt_of_le HTGL.out HB1.out.size)).trans CT1.out)
      have HBK : Hid (bk < q.heap.size) := Lib.hid (Nat.lt_of_lt_of_le hbk hbq.size)
      have CKG : Hid (q.cell? ⟨bk, ob, none⟩ = some (.pointer (some ⟨kg, 0, none⟩))) := Lib.hid ((hbq.cell (p := ⟨bk, ob, none⟩) hbk).trans hko)
      have hse := (place_inner hkl (by rw [← toL_eq]; exact HSO.out) HPL.out hik hfd).2.2
      have HREC : Hid (∀ (E : Nat → Prop) (u : World), NdD E u C → Calls Try.prog 50 #[.pointer (some ⟨kg, 0, none⟩), .agg #[.string pk, .string pv]] u (PutRes E u (k' + 1 - 1) C ⟨pk, pv⟩)) := Lib.hid (fun E u h => by rw [hkg]; exact HRC.out E u C hCm (by rw [hC]; exact hse) h)
      have HCM : Hid (C ∈ ks) := Lib.hid (by rw [HKS.out]; exact hCm)
      have HJL := Lib.hid hjl
      have CK : Hid (q.cell? ⟨jk, i, none⟩ = some (.pointer (some ⟨(ks[i]'hiks).g, 0, none⟩)) ∧ q.frozen? ⟨jk, i, none⟩ = false) := Lib.hid hcellk
      have HIK : Hid (i < ks.length) := Lib.hid (by rw [HKS.out]; exact hik)
      have hCw := hkw C hCm
      have HMEND : Hid (∀ r : BT, PutOf (k' + 1 - 1) C r ⟨pk, pv⟩ → ∀ (u : World) (ys : List BT), ON D w1 u c ps (ks.set i r) ys → Calls Try.prog 72 #[.pointer (some ⟨c, 0, none⟩), .int .i64 (i : Int)] u fun e w' => e = .returned (.tuple #[]) ∧ ∃ ps' ks', ON D w1 w' c ps' ks' ys ∧ Mended k' r.ps.length T.ps (T.ks.set i r) ps' ks') := Lib.hid (fun r hr u ys h => by
        rw [HPS.out, HKS.out] at h
        have hg : (T.ks.set i r)[i]'(by rw [List.length_set]; exact hik) = r := List.getElem_set_self _
        have hw := (wf_iff _ _).1 hCw.1
        have := mend_any h k' i (by rw [List.length_set]; exact hik) (by rw [List.length_set]; exact hkl) (by have := HH.out; omega) (by have := HH.out; omega) (fun j hj hji => by
          rw [List.length_set] at hj
          rw [List.getElem_set_ne (Ne.symm hji)]
          exact hkw _ (List.getElem_mem hj)) (by rw [hg]; exact hr.sh) (by rw [hg]; have := hr.low; omega) (by rw [hg]; have := hr.high; omega)
        rw [hg] at this
        exact this)
      have HRES3 : Hid (∀ r : BT, PutOf (k' + 1 - 1) C r ⟨pk, pv⟩ → ∀ (w' : World) (ps' : List KV) (ks' ys : List BT), ON D w1 w' c ps' ks' ys → Mended k' r.ps.length T.ps (T.ks.set i r) ps' ks' → PutRes D w (k' + 1) T ⟨pk, pv⟩ (.returned (.pointer (some ⟨c, 0, none⟩))) w') := Lib.hid (fun r hr w' ps' ks' ys h hm => HFIN.out w' _ _ _ h (put_inner hkl hik HSO.out HPL.out hfd (by rw [← hC]; exact hr) (by rw [← hC]; exact hCw.2) hm))
      have hik2 : (i : Int) < (mT : Int) := by omega
      have hkm2 : kc ≤ 9223372036854775807 := hkm
      have heT : eT ≤ 9223372036854775807 := HTK.out.2.2.2.1
      have hmeT : mT ≤ eT := HTK.out.2.2.1
      clear hon hn hk0 hfd hkw hC hCm hcell hcellk hkn hmT hkcell hko hob hkg hbq hse hCw hkm hbk hjl hkl hik
      go_upto_region 3 with (go_at_call 69; refine HLF.out.mono ?_; rintro e w4 ⟨rfl, rfl⟩)
      refine Roll.region_f 14 64 Dpu3 Lpu3 [(0, .pointer (some ⟨tg, 0, none⟩)), (3, .pointer (some ⟨gb, 0, none⟩)), (5, .int .i64 (i : Int)), (7, .pointer (some ⟨c, 0, none⟩))] (fun p => Below q.heap.size q p) (fun p p2 => Below p.heap.size p p2) [fun vv p => vv = .pointer (some ⟨c, 0, none⟩), fun vv p => vv = .pointer (some ⟨c, 0, none⟩), fun vv p => vv = .pointer (some ⟨c, 1, none⟩), fun vv p => vv = .slice (some ⟨jk, 0, none⟩) mT kc, fun vv p => vv = .int .i64 (i : Int), fun vv p => vv = .pointer (some ⟨tg, 0, none⟩), fun vv p => vv = .pointer (some ⟨tg, 0, none⟩), fun vv p => vv = .pointer (some ⟨tg, 1, none⟩), fun vv p => vv = .slice (some ⟨bk, ok, none⟩) mT eT, fun vv p => vv = .int .i64 (i : Int), fun vv p => vv = .pointer (some ⟨bk, ob, none⟩), fun vv p => vv = .pointer (some ⟨kg, 0, none⟩), fun vv p => vv = .agg #[.string pk, .string pv], fun vv p => ∃ r : BT, vv = .pointer (some ⟨r.g, 0, none⟩) ∧ NdD (fun b => Off D w1.heap.size c (some jp) (some jk) b ∨ q.heap.size ≤ b) p r ∧ PutOf (k' + 1 - 1) C r ⟨pk, pv⟩] (by kernel_rfl) (by kernel_rfl) rfl ⟨rfl, rfl, rfl, rfl, trivial⟩ ((Below.refl _ _).drew) ?_ ?_ ?_
      · exact ⟨fun _ _ _ _ h => h, fun _ _ _ _ h => h, fun _ _ _ _ h => h, fun _ _ _ _ h => h, fun _ _ _ _ h => h, fun _ _ _ _ h => h, fun _ _ _ _ h => h, fun _ _ _ _ h => h, fun _ _ _ _ h => h, fun _ _ _ _ h => h, fun _ _ _ _ h => h, fun _ _ _ _ h => h, fun _ _ _ _ h => h, fun _ _ _ hs h => by obtain ⟨r, e1, e2, e3⟩ := h; exact ⟨r, e1, e2.under hs, e3⟩, trivial⟩
      · intro b0 hN hlv
        refine ⟨?_, ?_, ?_, ?_, ?_, ?_, ?_, ?_, ?_, ?_, ?_, ?_, ?_, ?_, trivial⟩
        · intro vs p hI hp
          have e7 : (Roll.putD Dpu3 vs [] b0).eval (.tmp 7) = .pointer (some ⟨c, 0, none⟩) := (Roll.eval_old rfl).trans (hlv.at 3 (7, .pointer (some ⟨c, 0, none⟩)) rfl)
          clear hp hlv hN
          unfold Roll.Goes
          simp only [Lpu3, List.getD_cons_zero, List.getD_cons_succ]
          generalize Roll.putD Dpu3 vs [] b0 = a1 at *
          refine Roll.goes_val (w' := p) (.pointer (some ⟨c, 0, none⟩)) rfl ?_ ⟨hI, Below.refl _ _, rfl⟩
          (have ec : ∀ x, a1.eval (.const x) = x := fun _ => rfl); (have ef : ∀ x, a1.eval (.func x) = .func (.func x) #[] #[] := fun _ => rfl); generalize a1.eval = ρ at *
          skip
          go_simp <;> (intros; first | (exfalso; omega) | rfl)
        · intro vs p hI hp
          have h0 : (vs 0) = .pointer (some ⟨c, 0, none⟩) := hp 0 (by simp [Lpu3])
          have e22 : (Roll.putD Dpu3 vs [0] b0).eval (.tmp 22) = .pointer (some ⟨c, 0, none⟩) := (Roll.eval_new 0 rfl (by decide) (by decide) (by omega)).trans h0
          clear hp hlv hN
          unfold Roll.Goes
          simp only [Lpu3, List.getD_cons_zero, List.getD_cons_succ]
          generalize Roll.putD Dpu3 vs [0] b0 = a1 at *
          refine Roll.goes_val (w' := p) (.pointer (some ⟨c, 0, none⟩)) rfl ?_ ⟨hI, Below.refl _ _, rfl⟩
          (have ec : ∀ x, a1.eval (.const x) = x := fun _ => rfl); (have ef : ∀ x, a1.eval (.func x) = .func (.func x) #[] #[] := fun _ => rfl); generalize a1.eval = ρ at *
          clear h0
          go_simp <;> (intros; first | (exfalso; omega) | rfl)
        · intro vs p hI hp
          have h1 : (vs 1) = .pointer (some ⟨c, 0, none⟩) := hp 1 (by simp [Lpu3])
          have e23 : (Roll.putD Dpu3 vs [1] b0).eval (.tmp 23) = .pointer (some ⟨c, 0, none⟩) := (Roll.eval_new 1 rfl (by decide) (by decide) (by omega)).trans h1
          clear hp hlv hN
          unfold Roll.Goes
          simp only [Lpu3, List.getD_cons_zero, List.getD_cons_succ]
          generalize Roll.putD Dpu3 vs [1] b0 = a1 at *
          refine Roll.goes_val (w' := p) (.pointer (some ⟨c, 1, none⟩)) rfl ?_ ⟨hI, Below.refl _ _, rfl⟩
          (have ec : ∀ x, a1.eval (.const x) = x := fun _ => rfl); (have ef : ∀ x, a1.eval (.func x) = .func (.func x) #[] #[] := fun _ => rfl); generalize a1.eval = ρ at *
          clear h1
          go_simp <;> (intros; first | (exfalso; omega) | rfl)
        · intro vs p hI hp
          have h2 : (vs 2) = .pointer (some ⟨c, 1, none⟩) := hp 2 (by simp [Lpu3])
          have e24 : (Roll.putD Dpu3 vs [2] b0).eval (.tmp 24) = .pointer (some ⟨c, 1, none⟩) := (Roll.eval_new 2 rfl (by decide) (by decide) (by omega)).trans h2
          clear hp hlv hN
          unfold Roll.Goes
          simp only [Lpu3, List.getD_cons_zero, List.getD_cons_succ]
          generalize Roll.putD Dpu3 vs [2] b0 = a1 at *
          have cf : p.cell? ⟨c, 1, none⟩ = some (.slice (some ⟨jk, 0, none⟩) mT kc) := (hI.cell (p := ⟨c, 1, none⟩) HCL.out).trans C1.out
          refine Roll.goes_val (w' := p) (.slice (some ⟨jk, 0, none⟩) mT kc) rfl ?_ ⟨hI, Below.refl _ _, rfl⟩
          (have ec : ∀ x, a1.eval (.const x) = x := fun _ => rfl); (have ef : ∀ x, a1.eval (.func x) = .func (.func x) #[] #[] := fun _ => rfl); generalize a1.eval = ρ at *
          clear h2
          go_simp <;> (intros; first | (exfalso; omega) | rfl)
        · intro vs p hI hp
          have e5 : (Roll.putD Dpu3 vs [] b0).eval (.tmp 5) = .int .i64 (i : Int) := (Roll.eval_old rfl).trans (hlv.at 2 (5, .int .i64 (i : Int)) rfl)
          clear hp hlv hN
          unfold Roll.Goes
          simp only [Lpu3, List.getD_cons_zero, List.getD_cons_succ]
          generalize Roll.putD Dpu3 vs [] b0 = a1 at *
          refine Roll.goes_val (w' := p) (.int .i64 (i : Int)) rfl ?_ ⟨hI, Below.refl _ _, rfl⟩
          (have ec : ∀ x, a1.eval (.const x) = x := fun _ => rfl); (have ef : ∀ x, a1.eval (.func x) = .func (.func x) #[] #[] := fun _ => rfl); generalize a1.eval = ρ at *
          skip
          go_simp <;> (intros; first | (exfalso; omega) | rfl)
        · intro vs p hI hp
          have e0 : (Roll.putD Dpu3 vs [] b0).eval (.tmp 0) = .pointer (some ⟨tg, 0, none⟩) := (Roll.eval_old rfl).trans (hlv.at 0 (0, .pointer (some ⟨tg, 0, none⟩)) rfl)
          clear hp hlv hN
          unfold Roll.Goes
          simp only [Lpu3, List.getD_cons_zero, List.getD_cons_succ]
          generalize Roll.putD Dpu3 vs [] b0 = a1 at *
          refine Roll.goes_val (w' := p) (.pointer (some ⟨tg, 0, none⟩)) rfl ?_ ⟨hI, Below.refl _ _, rfl⟩
          (have ec : ∀ x, a1.eval (.const x) = x := fun _ => rfl); (have ef : ∀ x, a1.eval (.func x) = .func (.func x) #[] #[] := fun _ => rfl); generalize a1.eval = ρ at *
          skip
          go_simp <;> (intros; first | (exfalso; omega) | rfl)
        · intro vs p hI hp
          have h5 : (vs 5) = .pointer (some ⟨tg, 0, none⟩) := hp 5 (by simp [Lpu3])
          have e27 : (Roll.putD Dpu3 vs [5] b0).eval (.tmp 27) = .pointer (some ⟨tg, 0, none⟩) := (Roll.eval_new 5 rfl (by decide) (by decide) (by omega)).trans h5
          clear hp hlv hN
          unfold Roll.Goes
          simp only [Lpu3, List.getD_cons_zero, List.getD_cons_succ]
          generalize Roll.putD Dpu3 vs [5] b0 = a1 at *
          refine Roll.goes_val (w' := p) (.pointer (some ⟨tg, 0, none⟩)) rfl ?_ ⟨hI, Below.refl _ _, rfl⟩
          (have ec : ∀ x, a1.eval (.const x) = x := fun _ => rfl); (have ef : ∀ x, a1.eval (.func x) = .func (.func x) #[] #[] := fun _ => rfl); generalize a1.eval = ρ at *
          clear h5
          go_simp <;> (intros; first | (exfalso; omega) | rfl)
        · intro vs p hI hp
          have h6 : (vs 6) = .pointer (some ⟨tg, 0, none⟩) := hp 6 (by simp [Lpu3])
          have e28 : (Roll.putD Dpu3 vs [6] b0).eval (.tmp 28) = .pointer (some ⟨tg, 0, none⟩) := (Roll.eval_new 6 rfl (by decide) (by decide) (by omega)).trans h6
          clear hp hlv hN
          unfold Roll.Goes
          simp only [Lpu3, List.getD_cons_zero, List.getD_cons_succ]
          generalize Roll.putD Dpu3 vs [6] b0 = a1 at *
          refine Roll.goes_val (w' := p) (.pointer (some ⟨tg, 1, none⟩)) rfl ?_ ⟨hI, Below.refl _ _, rfl⟩
          (have ec : ∀ x, a1.eval (.const x) = x := fun _ => rfl); (have ef : ∀ x, a1.eval (.func x) = .func (.func x) #[] #[] := fun _ => rfl); generalize a1.eval = ρ at *
          clear h6
          go_simp <;> (intros; first | (exfalso; omega) | rfl)
        · intro vs p hI hp
          have h7 : (vs 7) = .pointer (some ⟨tg, 1, none⟩) := hp 7 (by simp [Lpu3])
          have e29 : (Roll.putD Dpu3 vs [7] b0).eval (.tmp 29) = .pointer (some ⟨tg, 1, none⟩) := (Roll.eval_new 7 rfl (by decide) (by decide) (by omega)).trans h7
          clear hp hlv hN
          unfold Roll.Goes
          simp only [Lpu3, List.getD_cons_zero, List.getD_cons_succ]
          generalize Roll.putD Dpu3 vs [7] b0 = a1 at *
          have cf : p.cell? ⟨tg, 1, none⟩ = some (.slice (some ⟨bk, ok, none⟩) mT eT) := (hI.cell (p := ⟨tg, 1, none⟩) HTL.out).trans CT1.out
          refine Roll.goes_val (w' := p) (.slice (some ⟨bk, ok, none⟩) mT eT) rfl ?_ ⟨hI, Below.refl _ _, rfl⟩
          (have ec : ∀ x, a1.eval (.const x) = x := fun _ => rfl); (have ef : ∀ x, a1.eval (.func x) = .func (.func x) #[] #[] := fun _ => rfl); generalize a1.eval = ρ at *
          clear h7
          go_simp <;> (intros; first | (exfalso; omega) | rfl)
        · intro vs p hI hp
          have e5 : (Roll.putD Dpu3 vs [] b0).eval (.tmp 5) = .int .i64 (i : Int) := (Roll.eval_old rfl).trans (hlv.at 2 (5, .int .i64 (i : Int)) rfl)
          clear hp hlv hN
          unfold Roll.Goes
          simp only [Lpu3, List.getD_cons_zero, List.getD_cons_succ]
          generalize Roll.putD Dpu3 vs [] b0 = a1 at *
          refine Roll.goes_val (w' := p) (.int .i64 (i : Int)) rfl ?_ ⟨hI, Below.refl _ _, rfl⟩
          (have ec : ∀ x, a1.eval (.const x) = x := fun _ => rfl); (have ef : ∀ x, a1.eval (.func x) = .func (.func x) #[] #[] := fun _ => rfl); generalize a1.eval = ρ at *
          skip
          go_simp <;> (intros; first | (exfalso; omega) | rfl)
        · intro vs p hI hp
          have h8 : (vs 8) = .slice (some ⟨bk, ok, none⟩) mT eT := hp 8 (by simp [Lpu3])
          have h9 : (vs 9) = .int .i64 (i : Int) := hp 9 (by simp [Lpu3])
          have e30 : (Roll.putD Dpu3 vs [8, 9] b0).eval (.tmp 30) = .slice (some ⟨bk, ok, none⟩) mT eT := (Roll.eval_new 8 rfl (by decide) (by decide) (by omega)).trans h8
          have e31 : (Roll.putD Dpu3 vs [8, 9] b0).eval (.tmp 31) = .int .i64 (i : Int) := (Roll.eval_new 9 rfl (by decide) (by decide) (by omega)).trans h9
          clear hp hlv hN
          unfold Roll.Goes
          simp only [Lpu3, List.getD_cons_zero, List.getD_cons_succ]
          generalize Roll.putD Dpu3 vs [8, 9] b0 = a1 at *
          refine Roll.goes_val (w' := p) (.pointer (some ⟨bk, ob, none⟩)) rfl ?_ ⟨hI, Below.refl _ _, rfl⟩
          (have ec : ∀ x, a1.eval (.const x) = x := fun _ => rfl); (have ef : ∀ x, a1.eval (.func x) = .func (.func x) #[] #[] := fun _ => rfl); generalize a1.eval = ρ at *
          clear h8 h9
          go_simp <;> (intros; first | (exfalso; omega) | rfl)
        · intro vs p hI hp
          have h10 : (vs 10) = .pointer (some ⟨bk, ob, none⟩) := hp 10 (by simp [Lpu3])
          have e32 : (Roll.putD Dpu3 vs [10] b0).eval (.tmp 32) = .pointer (some ⟨bk, ob, none⟩) := (Roll.eval_new 10 rfl (by decide) (by decide) (by omega)).trans h10
          clear hp hlv hN
          unfold Roll.Goes
          simp only [Lpu3, List.getD_cons_zero, List.getD_cons_succ]
          generalize Roll.putD Dpu3 vs [10] b0 = a1 at *
          have cf : p.cell? ⟨bk, ob, none⟩ = some (.pointer (some ⟨kg, 0, none⟩)) := (hI.cell (p := ⟨bk, ob, none⟩) HBK.out).trans CKG.out
          refine Roll.goes_val (w' := p) (.pointer (some ⟨kg, 0, none⟩)) rfl ?_ ⟨hI, Below.refl _ _, rfl⟩
          (have ec : ∀ x, a1.eval (.const x) = x := fun _ => rfl); (have ef : ∀ x, a1.eval (.func x) = .func (.func x) #[] #[] := fun _ => rfl); generalize a1.eval = ρ at *
          clear h10
          go_simp <;> (intros; first | (exfalso; omega) | rfl)
        · intro vs p hI hp
          have e3 : (Roll.putD Dpu3 vs [] b0).eval (.tmp 3) = .pointer (some ⟨gb, 0, none⟩) := (Roll.eval_old rfl).trans (hlv.at 1 (3, .pointer (some ⟨gb, 0, none⟩)) rfl)
          clear hp hlv hN
          unfold Roll.Goes
          simp only [Lpu3, List.getD_cons_zero, List.getD_cons_succ]
          generalize Roll.putD Dpu3 vs [] b0 = a1 at *
          have ld0 := run_loadPair (range_below HRB.out (by simp [KV.cells]) hI)
          refine Roll.goes_val (w' := p) (.agg #[.string pk, .string pv]) rfl ?_ ⟨hI, Below.refl _ _, rfl⟩
          (have ec : ∀ x, a1.eval (.const x) = x := fun _ => rfl); (have ef : ∀ x, a1.eval (.func x) = .func (.func x) #[] #[] := fun _ => rfl); generalize a1.eval = ρ at *
          skip
          go_simp <;> (intros; first | (exfalso; omega) | rfl)
        · intro vs p hI hp
          have h11 : (vs 11) = .pointer (some ⟨kg, 0, none⟩) := hp 11 (by simp [Lpu3])
          have h12 : (vs 12) = .agg #[.string pk, .string pv] := hp 12 (by simp [Lpu3])
          have e33 : (Roll.putD Dpu3 vs [11, 12] b0).eval (.tmp 33) = .pointer (some ⟨kg, 0, none⟩) := (Roll.eval_new 11 rfl (by decide) (by decide) (by omega)).trans h11
          have e34 : (Roll.putD Dpu3 vs [11, 12] b0).eval (.tmp 34) = .agg #[.string pk, .string pv] := (Roll.eval_new 12 rfl (by decide) (by decide) (by omega)).trans h12
          clear hp hlv hN
          unfold Roll.Goes
          simp only [Lpu3, List.getD_cons_zero, List.getD_cons_succ]
          generalize Roll.putD Dpu3 vs [11, 12] b0 = a1 at *
          refine Roll.goes_call 50 #[.pointer (some ⟨kg, 0, none⟩), .agg #[.string pk, .string pv]] p rfl (by have ec : ∀ x, a1.eval (.const x) = x := fun _ => rfl; have ef : ∀ x, a1.eval (.func x) = .func (.func x) #[] #[] := fun _ => rfl; generalize a1.eval = ρ at *; go_simp) ?_
          have hc := HREC.out (Off D w1.heap.size c (some jp) (some jk)) p ((HON.out.kids C (List.mem_append.2 (.inl HCM.out))).under hI)
          refine hc.mono ?_
          rintro y p2 ⟨r, rfl, hnd, hb2, hpo⟩
          exact ⟨_, rfl, hI.trans (hb2.mono hI.size), hb2, r, rfl, hnd.dom (fun b hb => hb.imp id (Nat.le_trans hI.size)), hpo⟩
      · intro vs p hI hR
        have h0 : (vs 0) = .pointer (some ⟨c, 0, none⟩) := hR 0 (by omega)
        have h1 : (vs 1) = .pointer (some ⟨c, 0, none⟩) := hR 1 (by omega)
        have h2 : (vs 2) = .pointer (some ⟨c, 1, none⟩) := hR 2 (by omega)
        have h3 : (vs 3) = .slice (some ⟨jk, 0, none⟩) mT kc := hR 3 (by omega)
        have h4 : (vs 4) = .int .i64 (i : Int) := hR 4 (by omega)
        have h5 : (vs 5) = .pointer (some ⟨tg, 0, none⟩) := hR 5 (by omega)
        have h6 : (vs 6) = .pointer (some ⟨tg, 0, none⟩) := hR 6 (by omega)
        have h7 : (vs 7) = .pointer (some ⟨tg, 1, none⟩) := hR 7 (by omega)
        have h8 : (vs 8) = .slice (some ⟨bk, ok, none⟩) mT eT := hR 8 (by omega)
        have h9 : (vs 9) = .int .i64 (i : Int) := hR 9 (by omega)
        have h10 : (vs 10) = .pointer (some ⟨bk, ob, none⟩) := hR 10 (by omega)
        have h11 : (vs 11) = .pointer (some ⟨kg, 0, none⟩) := hR 11 (by omega)
        have h12 : (vs 12) = .agg #[.string pk, .string pv] := hR 12 (by omega)
        have h13 : ∃ r : BT, (vs 13) = .pointer (some ⟨r.g, 0, none⟩) ∧ NdD (fun b => Off D w1.heap.size c (some jp) (some jk) b ∨ q.heap.size ≤ b) p r ∧ PutOf (k' + 1 - 1) C r ⟨pk, pv⟩ := hR 13 (by omega)
        clear hR
        simp only [List.range_succ, List.range_zero, List.nil_append, List.cons_append, Roll.putD, Act.put, List.getD_cons_zero, List.getD_cons_succ, List.setIfInBounds_toArray, List.set_cons_zero, List.set_cons_succ, List.drop_succ_cons, List.drop_zero, Dpu3]
        simp only [h0, h1, h2, h3, h4, h5, h6, h7, h8, h9, h10, h11, h12]
        clear h0 h1 h2 h3 h4 h5 h6 h7 h8 h9 h10 h11 h12
        generalize vs 13 = v13 at *
        obtain ⟨r, rfl, hnd, hpo⟩ := h13
        have HPO := Lib.hid hpo
        have eTi := (hI.cell (p := ⟨jk, i, none⟩) HJL.out).trans CK.out.1
        have fki := ((Kept.of_below (fun _ => False) hI).frozen (p := ⟨jk, i, none⟩) HJL.out (fun h => h)).trans CK.out.2
        have HON3 : Hid (ONx D w1 (p.setCell ⟨jk, i, none⟩ (.pointer (some ⟨r.g, 0, none⟩))) c (some jp) (some jk) (.slice (some ⟨jp, 0, none⟩) n cv) (.slice (some ⟨jk, 0, none⟩) mT kc) ps (ks.set i r) (r :: xs)) := Lib.hid ((HON.out.add hI hnd).setK i HIK.out _ (List.mem_append.2 (.inr (List.mem_cons_self ..))))
        clear hnd hI hpo
        go_upto_region 4 with fail
        obtain ⟨q4, hq4⟩ : ∃ q4, q4 = p.setCell ⟨jk, i, none⟩ (.pointer (some ⟨r.g, 0, none⟩)) := ⟨_, rfl⟩
        rw [← hq4] at HON3 ⊢
        clear hq4 eTi fki
        have HMC := Lib.hid (HMEND.out r HPO.out q4 _ ⟨_, _, _, _, HON3.out⟩)
        go_wp2_with (go_at_call 72; refine HMC.out.mono ?_; rintro e q5 ⟨rfl, ps5, ks5, hon5, hm5⟩; have HON5 := Lib.hid hon5; have HM5 := Lib.hid hm5; clear hon5 hm5)
        go_ret
        exact HRES3.out r HPO.out _ _ _ _ HON5.out HM5.out
end Go.Proofs.Ytfgmhidgkemfoaa
namespace Go.Proofs.Ytfgmhidgkemfoaa
open Go.RowKit
set_option linter.unusedSimpArgs false
set_option linter.unusedVariables false
theorem put_any (pk pv : ByteArray) : ∀ (k : Nat) {D : Nat → Prop} {w : World} {T : BT}, NdD D w T → T.Sh k → T.ps.length ≤ 8 → 1 ≤ T.ps.length → Sorted T.toL →
    Calls Try.prog 50 #[.pointer (some ⟨T.g, 0, none⟩), .agg #[.string pk, .string pv]] w (PutRes D w k T ⟨pk, pv⟩)
  | 0, D, w, T, hT, hs, h8, h1, hso => put_step hT 0 hs h8 h1 hso pk pv (fun E u C hC _ _ => by
      rcases hs with ⟨-, h⟩ | ⟨h, -⟩
      · rw [h] at hC; cases hC
      · exact absurd rfl h)
  | k + 1, D, w, T, hT, hs, h8, h1, hso => put_step hT (k + 1) hs h8 h1 hso pk pv (fun E u C hC hsc hE => by
      rcases hs with ⟨h, -⟩ | ⟨-, -, h⟩
      · omega
      · have hw := h C hC
        have hw2 := (wf_iff _ _).1 hw.1
        exact put_any pk pv k hE hw2.2 hw2.1 (by omega) hsc)
end Go.Proofs.Ytfgmhidgkemfoaa
namespace Go.Proofs.Ytfgmhidgkemfoaa
open Go.RowKit
set_option linter.unusedSimpArgs false
set_option linter.unusedVariables false
attribute [local go_sem ↓] exec_loadPair exec_storePair exec_at_zeroP exec_at_succP Go.wp_at_zero Go.wp_at_succ
attribute [local go_sem] run_storePair
theorem toLs_getLast : ∀ (ps : List KV) (ks : List BT) (hl : ks.length = ps.length + 1), (ks[ks.length - 1]'(by omega)).toL ≠ [] → (toLs ps ks).getLast? = (ks[ks.length - 1]'(by omega)).toL.getLast?
  | [], [k], _, _ => by rw [toLs_last]; rfl
  | [], [], h, _ => by simp at h
  | [], _ :: _ :: _, h, _ => by simp at h
  | p :: ps, k :: ks, h, hne => by
    have hl : ks.length = ps.length + 1 := by simpa using h
    have e : ((k :: ks)[(k :: ks).length - 1]'(by simp)) = ks[ks.length - 1]'(by omega) := by
      simp only [List.length_cons, Nat.add_sub_cancel]
      rw [List.getElem_cons]
      rw [dif_neg (by omega)]
    rw [e] at hne ⊢
    have ih := toLs_getLast ps ks hl hne
    have hn2 : toLs ps ks ≠ [] := fun e2 => by
      rw [e2] at ih
      exact hne (List.getLast?_eq_none_iff.1 ih.symm)
    rw [toLs_cons, List.getLast?_append, List.getLast?_cons, ih]
    cases hq : (ks[ks.length - 1]'(by omega)).toL.getLast? with
    | none => exact absurd (List.getLast?_eq_none_iff.1 hq) hne
    | some q => rfl
  | p :: ps, [], h, _ => by simp at h
theorem toL_ne : ∀ (k : Nat) (T : BT), T.Sh k → 1 ≤ T.ps.length → T.toL ≠ [] := fun k T hs h1 e => by
  rw [toL_eq] at e
  rcases hs.lens with h | h
  · rw [h, toLs_leaf] at e
    rw [e] at h1
    simp at h1
  · have := (ps_sub T.ps T.ks h).length_le
    rw [e] at this
    simp at this
    rw [this] at h1
    simp at h1
def Dla3 : List (Option Tmp) := [some 18, some 19, some 20, some 21, some 22, some 23, some 24, some 25, some 26, some 27, some 28, some 29, none]
def Lla3 : List (List Nat) := [[], [0], [1], [2], [], [4], [5], [6], [7], [8], [3, 9], [10], [11]]
set_option maxRecDepth 100000 in
set_option maxHeartbeats 2000000 in
theorem last_any {D : Nat → Prop} {w : World} {T : BT} (hT : NdD D w T) (K : Nat) (hs : T.Sh K) (h1 : 1 ≤ T.ps.length ∧ T.ps.length ≤ 8) (q : KV) (hq : T.toL.getLast? = some q) :
    Calls Try.prog 75 #[.pointer (some ⟨T.g, 0, none⟩)] w fun e w' => e = .returned (.agg #[.string q.k, .string q.v]) ∧ Below w.heap.size w w' := by
  have HT := Lib.hid hT
  have HS := Lib.hid hs
  have HH := Lib.hid h1
  have HQ := Lib.hid hq
  have mixed : Try.prog.follows .mixedOrders = true := by kernel_rfl
  obtain ⟨tg, htg⟩ : ∃ tg, tg = T.g := ⟨_, rfl⟩
  rw [← htg]
  have HTG := Lib.hid htg
  clear hT hs h1 hq htg
  go_enter Try.func75, Try.ntmps75
  go_wp2_with fail
  obtain ⟨w1, hw1⟩ : ∃ w1, w1 = w.alloc (.cells #[.string ⟨#[]⟩, .string ⟨#[]⟩] 65) := ⟨_, rfl⟩
  obtain ⟨g2, hg2⟩ : ∃ g2, g2 = w.heap.size := ⟨_, rfl⟩
  have hb1 : Below w.heap.size w w1 := by rw [hw1]; exact (Below.refl _ _).alloc (Nat.le_refl _) _
  have h2 : w1.heap[g2]? = some (.cells (kcells (fkv none)) 65 (0, 0)) := by rw [hw1, hg2]; exact heap_new rfl
  rw [← hw1, ← hg2]
  have HB1 := Lib.hid hb1
  have H2 := Lib.hid h2
  have HG2 : Hid (g2 = w.heap.size) := Lib.hid hg2
  clear hw1 hg2 hb1 h2
  go_loopg [0] K (fun k u0 wr => ∃ C : BT, u0 = .pointer (some ⟨C.g, 0, none⟩) ∧ NdD D w C ∧ C.Sh k ∧ (1 ≤ C.ps.length ∧ C.ps.length ≤ 8) ∧ C.toL.getLast? = some q ∧ Below w.heap.size w wr ∧ wr.heap[g2]? = some (.cells (kcells (fkv none)) 65 (0, 0)))
  case atStart => exact ⟨T, by rw [HTG.out], HT.out, HS.out, HH.out, HQ.out, HB1.out, H2.out⟩
  case round =>
    clear HT HS HH HQ HB1 H2 HTG
    obtain ⟨C, rfl, hC, hs, hh, hq, hb, h2⟩ := hrel
    have HC := Lib.hid hC
    have HS := Lib.hid hs
    have HH := Lib.hid hh
    have HQ := Lib.hid hq
    have HB := Lib.hid hb
    have H2 := Lib.hid h2
    obtain ⟨aC, nC, cC, bC, mC, eC, -, hblk, cc0, cc1, hcp, hck, hkd⟩ := hC.facts
    have hcl : C.g < w.heap.size := (Array.getElem?_eq_some_iff.1 hblk).1
    have hmC := hck.1
    rw [List.length_map] at hmC
    have hnC := hcp.1
    have hme : mC ≤ eC := hck.2.2.1
    have heb : eC ≤ 9223372036854775807 := hck.2.2.2.1
    have hnc : nC ≤ cC := hcp.2.2.1
    have hcb : cC ≤ 9223372036854775807 := hcp.2.2.2.1
    by_cases hk0 : C.ks = []
    · have HL : Hid (Calls Try.prog 69 #[.pointer (some ⟨C.g, 0, none⟩)] wr fun e w' => e = .returned (.bool true) ∧ wr = w') := Lib.hid (by
        have := leaf_any (hC.under hb).nd
        rw [hk0] at this
        exact this)
      obtain ⟨bb, off, -, hbb, rfl, hcell⟩ := hcp.at (by omega)
      have hr := hcell (nC - 1) (by omega)
      have hkv : C.ps[nC - 1]'(by omega) = q := by
        rw [toL_eq, hk0, toLs_leaf, List.getLast?_eq_getElem?, List.getElem?_eq_getElem (by omega)] at hq
        have := Option.some.inj hq
        simp only [hnC] at this
        exact this
      rw [hkv] at hr
      obtain ⟨ob, hob⟩ : ∃ ob, ob = off + (nC - 1) * 2 := ⟨_, rfl⟩
      rw [← hob] at hr
      have hob2 : off + (nC - 1) * 2 = ob := hob.symm
      have HRQ : Hid (wr.rangeAt bb ob q.cells) := Lib.hid (range_below hr (by simp [KV.cells]) hb)
      have HCW := Lib.hid (Nat.lt_of_lt_of_le hcl hb.size)
      have CC0 := Lib.hid ((hb.cell (p := ⟨C.g, 0, none⟩) hcl).trans cc0)
      have hn1 : IntKind.i64.wrap ((nC : Int) - 1) = ((nC - 1 : Nat) : Int) := by rw [i64_id _ (by omega) (by omega)]; omega
      have hn2 : ((nC - 1 : Nat) : Int) < (nC : Int) := by omega
      clear hC hs hh hq hb h2 hblk cc1 hcp hck hkd hkv hr hob hcell hk0 cc0
      go_upto_region 3 with (go_at_call 69; refine HL.out.mono ?_; rintro e w4 ⟨rfl, rfl⟩)
      refine Roll.region_f 12 30 Dla3 Lla3 [(0, .pointer (some ⟨C.g, 0, none⟩)), (2, .pointer (some ⟨g2, 0, none⟩))] (fun p => Below wr.heap.size wr p) (fun p p2 => Below p.heap.size p p2) [fun vv p => vv = .pointer (some ⟨C.g, 0, none⟩), fun vv p => vv = .pointer (some ⟨C.g, 0, none⟩), fun vv p => vv = .pointer (some ⟨C.g, 0, none⟩), fun vv p => vv = .slice (some ⟨bb, off, none⟩) nC cC, fun vv p => vv = .pointer (some ⟨C.g, 0, none⟩), fun vv p => vv = .pointer (some ⟨C.g, 0, none⟩), fun vv p => vv = .pointer (some ⟨C.g, 0, none⟩), fun vv p => vv = .slice (some ⟨bb, off, none⟩) nC cC, fun vv p => vv = .int .i64 (nC : Int), fun vv p => vv = .int .i64 ((nC - 1 : Nat) : Int), fun vv p => vv = .pointer (some ⟨bb, ob, none⟩), fun vv p => vv = .agg #[.string q.k, .string q.v]] (by kernel_rfl) (by kernel_rfl) rfl ⟨rfl, rfl, trivial⟩ ((Below.refl _ _).drew) ?_ ?_ ?_
      · exact ⟨fun _ _ _ _ h => h, fun _ _ _ _ h => h, fun _ _ _ _ h => h, fun _ _ _ _ h => h, fun _ _ _ _ h => h, fun _ _ _ _ h => h, fun _ _ _ _ h => h, fun _ _ _ _ h => h, fun _ _ _ _ h => h, fun _ _ _ _ h => h, fun _ _ _ _ h => h, fun _ _ _ _ h => h, trivial⟩
      · intro b0 hN hlv
        refine ⟨?_, ?_, ?_, ?_, ?_, ?_, ?_, ?_, ?_, ?_, ?_, ?_, trivial⟩
        · intro vs p hI hp
          have e0 : (Roll.putD Dla3 vs [] b0).eval (.tmp 0) = .pointer (some ⟨C.g, 0, none⟩) := (Roll.eval_old rfl).trans (hlv.at 0 (0, .pointer (some ⟨C.g, 0, none⟩)) rfl)
          clear hp hlv hN
          unfold Roll.Goes
          simp only [Lla3, List.getD_cons_zero, List.getD_cons_succ]
          generalize Roll.putD Dla3 vs [] b0 = a1 at *
          refine Roll.goes_val (w' := p) (.pointer (some ⟨C.g, 0, none⟩)) rfl ?_ ⟨hI, Below.refl _ _, rfl⟩
          (have ec : ∀ x, a1.eval (.const x) = x := fun _ => rfl); (have ef : ∀ x, a1.eval (.func x) = .func (.func x) #[] #[] := fun _ => rfl); generalize a1.eval = ρ at *
          skip
          go_simp <;> (intros; first | (exfalso; omega) | rfl)
        · intro vs p hI hp
          have h0 : (vs 0) = .pointer (some ⟨C.g, 0, none⟩) := hp 0 (by simp [Lla3])
          have e18 : (Roll.putD Dla3 vs [0] b0).eval (.tmp 18) = .pointer (some ⟨C.g, 0, none⟩) := (Roll.eval_new 0 rfl (by decide) (by decide) (by omega)).trans h0
          clear hp hlv hN
          unfold Roll.Goes
          simp only [Lla3, List.getD_cons_zero, List.getD_cons_succ]
          generalize Roll.putD Dla3 vs [0] b0 = a1 at *
          refine Roll.goes_val (w' := p) (.pointer (some ⟨C.g, 0, none⟩)) rfl ?_ ⟨hI, Below.refl _ _, rfl⟩
          (have ec : ∀ x, a1.eval (.const x) = x := fun _ => rfl); (have ef : ∀ x, a1.eval (.func x) = .func (.func x) #[] #[] := fun _ => rfl); generalize a1.eval = ρ at *
          clear h0
          go_simp <;> (intros; first | (exfalso; omega) | rfl)
        · intro vs p hI hp
          have h1 : (vs 1) = .pointer (some ⟨C.g, 0, none⟩) := hp 1 (by simp [Lla3])
          have e19 : (Roll.putD Dla3 vs [1] b0).eval (.tmp 19) = .pointer (some ⟨C.g, 0, none⟩) := (Roll.eval_new 1 rfl (by decide) (by decide) (by omega)).trans h1
          clear hp hlv hN
          unfold Roll.Goes
          simp only [Lla3, List.getD_cons_zero, List.getD_cons_succ]
          generalize Roll.putD Dla3 vs [1] b0 = a1 at *
          refine Roll.goes_val (w' := p) (.pointer (some ⟨C.g, 0, none⟩)) rfl ?_ ⟨hI, Below.refl _ _, rfl⟩
          (have ec : ∀ x, a1.eval (.const x) = x := fun _ => rfl); (have ef : ∀ x, a1.eval (.func x) = .func (.func x) #[] #[] := fun _ => rfl); generalize a1.eval = ρ at *
          clear h1
          go_simp <;> (intros; first | (exfalso; omega) | rfl)
        · intro vs p hI hp
          have h2 : (vs 2) = .pointer (some ⟨C.g, 0, none⟩) := hp 2 (by simp [Lla3])
          have e20 : (Roll.putD Dla3 vs [2] b0).eval (.tmp 20) = .pointer (some ⟨C.g, 0, none⟩) := (Roll.eval_new 2 rfl (by decide) (by decide) (by omega)).trans h2
          clear hp hlv hN
          unfold Roll.Goes
          simp only [Lla3, List.getD_cons_zero, List.getD_cons_succ]
          generalize Roll.putD Dla3 vs [2] b0 = a1 at *
          have cf : p.cell? ⟨C.g, 0, none⟩ = some (.slice (some ⟨bb, off, none⟩) nC cC) := (hI.cell (p := ⟨C.g, 0, none⟩) HCW.out).trans CC0.out
          refine Roll.goes_val (w' := p) (.slice (some ⟨bb, off, none⟩) nC cC) rfl ?_ ⟨hI, Below.refl _ _, rfl⟩
          (have ec : ∀ x, a1.eval (.const x) = x := fun _ => rfl); (have ef : ∀ x, a1.eval (.func x) = .func (.func x) #[] #[] := fun _ => rfl); generalize a1.eval = ρ at *
          clear h2
          go_simp <;> (intros; first | (exfalso; omega) | rfl)
        · intro vs p hI hp
          have e0 : (Roll.putD Dla3 vs [] b0).eval (.tmp 0) = .pointer (some ⟨C.g, 0, none⟩) := (Roll.eval_old rfl).trans (hlv.at 0 (0, .pointer (some ⟨C.g, 0, none⟩)) rfl)
          clear hp hlv hN
          unfold Roll.Goes
          simp only [Lla3, List.getD_cons_zero, List.getD_cons_succ]
          generalize Roll.putD Dla3 vs [] b0 = a1 at *
          refine Roll.goes_val (w' := p) (.pointer (some ⟨C.g, 0, none⟩)) rfl ?_ ⟨hI, Below.refl _ _, rfl⟩
          (have ec : ∀ x, a1.eval (.const x) = x := fun _ => rfl); (have ef : ∀ x, a1.eval (.func x) = .func (.func x) #[] #[] := fun _ => rfl); generalize a1.eval = ρ at *
          skip
          go_simp <;> (intros; first | (exfalso; omega) | rfl)
        · intro vs p hI hp
          have h4 : (vs 4) = .pointer (some ⟨C.g, 0, none⟩) := hp 4 (by simp [Lla3])
          have e22 : (Roll.putD Dla3 vs [4] b0).eval (.tmp 22) = .pointer (some ⟨C.g, 0, none⟩) := (Roll.eval_new 4 rfl (by decide) (by decide) (by omega)).trans h4
          clear hp hlv hN
          unfold Roll.Goes
          simp only [Lla3, List.getD_cons_zero, List.getD_cons_succ]
          generalize Roll.putD Dla3 vs [4] b0 = a1 at *
          refine Roll.goes_val (w' := p) (.pointer (some ⟨C.g, 0, none⟩)) rfl ?_ ⟨hI, Below.refl _ _, rfl⟩
          (have ec : ∀ x, a1.eval (.const x) = x := fun _ => rfl); (have ef : ∀ x, a1.eval (.func x) = .func (.func x) #[] #[] := fun _ => rfl); generalize a1.eval = ρ at *
          clear h4
          go_simp <;> (intros; first | (exfalso; omega) | rfl)
        · intro vs p hI hp
          have h5 : (vs 5) = .pointer (some ⟨C.g, 0, none⟩) := hp 5 (by simp [Lla3])
          have e23 : (Roll.putD Dla3 vs [5] b0).eval (.tmp 23) = .pointer (some ⟨C.g, 0, none⟩) := (Roll.eval_new 5 rfl (by decide) (by decide) (by omega)).trans h5
          clear hp hlv hN
          unfold Roll.Goes
          simp only [Lla3, List.getD_cons_zero, List.getD_cons_succ]
          generalize Roll.putD Dla3 vs [5] b0 = a1 at *
          refine Roll.goes_val (w' := p) (.pointer (some ⟨C.g, 0, none⟩)) rfl ?_ ⟨hI, Below.refl _ _, rfl⟩
          (have ec : ∀ x, a1.eval (.const x) = x := fun _ => rfl); (have ef : ∀ x, a1.eval (.func x) = .func (.func x) #[] #[] := fun _ => rfl); generalize a1.eval = ρ at *
          clear h5
          go_simp <;> (intros; first | (exfalso; omega) | rfl)
        · intro vs p hI hp
          have h6 : (vs 6) = .pointer (some ⟨C.g, 0, none⟩) := hp 6 (by simp [Lla3])
          have e24 : (Roll.putD Dla3 vs [6] b0).eval (.tmp 24) = .pointer (some ⟨C.g, 0, none⟩) := (Roll.eval_new 6 rfl (by decide) (by decide) (by omega)).trans h6
          clear hp hlv hN
          unfold Roll.Goes
          simp only [Lla3, List.getD_cons_zero, List.getD_cons_succ]
          generalize Roll.putD Dla3 vs [6] b0 = a1 at *
          have cf : p.cell? ⟨C.g, 0, none⟩ = some (.slice (some ⟨bb, off, none⟩) nC cC) := (hI.cell (p := ⟨C.g, 0, none⟩) HCW.out).trans CC0.out
          refine Roll.goes_val (w' := p) (.slice (some ⟨bb, off, none⟩) nC cC) rfl ?_ ⟨hI, Below.refl _ _, rfl⟩
          (have ec : ∀ x, a1.eval (.const x) = x := fun _ => rfl); (have ef : ∀ x, a1.eval (.func x) = .func (.func x) #[] #[] := fun _ => rfl); generalize a1.eval = ρ at *
          clear h6
          go_simp <;> (intros; first | (exfalso; omega) | rfl)
        · intro vs p hI hp
          have h7 : (vs 7) = .slice (some ⟨bb, off, none⟩) nC cC := hp 7 (by simp [Lla3])
          have e25 : (Roll.putD Dla3 vs [7] b0).eval (.tmp 25) = .slice (some ⟨bb, off, none⟩) nC cC := (Roll.eval_new 7 rfl (by decide) (by decide) (by omega)).trans h7
          clear hp hlv hN
          unfold Roll.Goes
          simp only [Lla3, List.getD_cons_zero, List.getD_cons_succ]
          generalize Roll.putD Dla3 vs [7] b0 = a1 at *
          refine Roll.goes_val (w' := p) (.int .i64 (nC : Int)) rfl ?_ ⟨hI, Below.refl _ _, rfl⟩
          (have ec : ∀ x, a1.eval (.const x) = x := fun _ => rfl); (have ef : ∀ x, a1.eval (.func x) = .func (.func x) #[] #[] := fun _ => rfl); generalize a1.eval = ρ at *
          clear h7
          go_simp <;> (intros; first | (exfalso; omega) | rfl)
        · intro vs p hI hp
          have h8 : (vs 8) = .int .i64 (nC : Int) := hp 8 (by simp [Lla3])
          have e26 : (Roll.putD Dla3 vs [8] b0).eval (.tmp 26) = .int .i64 (nC : Int) := (Roll.eval_new 8 rfl (by decide) (by decide) (by omega)).trans h8
          clear hp hlv hN
          unfold Roll.Goes
          simp only [Lla3, List.getD_cons_zero, List.getD_cons_succ]
          generalize Roll.putD Dla3 vs [8] b0 = a1 at *
          refine Roll.goes_val (w' := p) (.int .i64 ((nC - 1 : Nat) : Int)) rfl ?_ ⟨hI, Below.refl _ _, rfl⟩
          (have ec : ∀ x, a1.eval (.const x) = x := fun _ => rfl); (have ef : ∀ x, a1.eval (.func x) = .func (.func x) #[] #[] := fun _ => rfl); generalize a1.eval = ρ at *
          clear h8
          go_simp <;> (intros; first | (exfalso; omega) | rfl)
        · intro vs p hI hp
          have h3 : (vs 3) = .slice (some ⟨bb, off, none⟩) nC cC := hp 3 (by simp [Lla3])
          have h9 : (vs 9) = .int .i64 ((nC - 1 : Nat) : Int) := hp 9 (by simp [Lla3])
          have e21 : (Roll.putD Dla3 vs [3, 9] b0).eval (.tmp 21) = .slice (some ⟨bb, off, none⟩) nC cC := (Roll.eval_new 3 rfl (by decide) (by decide) (by omega)).trans h3
          have e27 : (Roll.putD Dla3 vs [3, 9] b0).eval (.tmp 27) = .int .i64 ((nC - 1 : Nat) : Int) := (Roll.eval_new 9 rfl (by decide) (by decide) (by omega)).trans h9
          clear hp hlv hN
          unfold Roll.Goes
          simp only [Lla3, List.getD_cons_zero, List.getD_cons_succ]
          generalize Roll.putD Dla3 vs [3, 9] b0 = a1 at *
          refine Roll.goes_val (w' := p) (.pointer (some ⟨bb, ob, none⟩)) rfl ?_ ⟨hI, Below.refl _ _, rfl⟩
          (have ec : ∀ x, a1.eval (.const x) = x := fun _ => rfl); (have ef : ∀ x, a1.eval (.func x) = .func (.func x) #[] #[] := fun _ => rfl); generalize a1.eval = ρ at *
          clear h3 h9
          go_simp <;> (intros; first | (exfalso; omega) | rfl)
        · intro vs p hI hp
          have h10 : (vs 10) = .pointer (some ⟨bb, ob, none⟩) := hp 10 (by simp [Lla3])
          have e28 : (Roll.putD Dla3 vs [10] b0).eval (.tmp 28) = .pointer (some ⟨bb, ob, none⟩) := (Roll.eval_new 10 rfl (by decide) (by decide) (by omega)).trans h10
          clear hp hlv hN
          unfold Roll.Goes
          simp only [Lla3, List.getD_cons_zero, List.getD_cons_succ]
          generalize Roll.putD Dla3 vs [10] b0 = a1 at *
          have ld0 := run_loadPair (range_below HRQ.out (by simp [KV.cells]) hI)
          refine Roll.goes_val (w' := p) (.agg #[.string q.k, .string q.v]) rfl ?_ ⟨hI, Below.refl _ _, rfl⟩
          (have ec : ∀ x, a1.eval (.const x) = x := fun _ => rfl); (have ef : ∀ x, a1.eval (.func x) = .func (.func x) #[] #[] := fun _ => rfl); generalize a1.eval = ρ at *
          clear h10
          go_simp <;> (intros; first | (exfalso; omega) | rfl)
      · intro vs p hI hR
        have h0 : (vs 0) = .pointer (some ⟨C.g, 0, none⟩) := hR 0 (by omega)
        have h1 : (vs 1) = .pointer (some ⟨C.g, 0, none⟩) := hR 1 (by omega)
        have h2 : (vs 2) = .pointer (some ⟨C.g, 0, none⟩) := hR 2 (by omega)
        have h3 : (vs 3) = .slice (some ⟨bb, off, none⟩) nC cC := hR 3 (by omega)
        have h4 : (vs 4) = .pointer (some ⟨C.g, 0, none⟩) := hR 4 (by omega)
        have h5 : (vs 5) = .pointer (some ⟨C.g, 0, none⟩) := hR 5 (by omega)
        have h6 : (vs 6) = .pointer (some ⟨C.g, 0, none⟩) := hR 6 (by omega)
        have h7 : (vs 7) = .slice (some ⟨bb, off, none⟩) nC cC := hR 7 (by omega)
        have h8 : (vs 8) = .int .i64 (nC : Int) := hR 8 (by omega)
        have h9 : (vs 9) = .int .i64 ((nC - 1 : Nat) : Int) := hR 9 (by omega)
        have h10 : (vs 10) = .pointer (some ⟨bb, ob, none⟩) := hR 10 (by omega)
        have h11 : (vs 11) = .agg #[.string q.k, .string q.v] := hR 11 (by omega)
        clear hR
        simp only [List.range_succ, List.range_zero, List.nil_append, List.cons_append, Roll.putD, Act.put, List.getD_cons_zero, List.getD_cons_succ, List.setIfInBounds_toArray, List.set_cons_zero, List.set_cons_succ, List.drop_succ_cons, List.drop_zero, Dla3]
        simp only [h0, h1, h2, h3, h4, h5, h6, h7, h8, h9, h10, h11]
        clear h0 h1 h2 h3 h4 h5 h6 h7 h8 h9 h10 h11
        have p2 : PB p g2 := ⟨_, (hI.block _ (heap_lt H2.out)).trans H2.out⟩
        have HI := Lib.hid hI
        clear hI
        go_wp2_with fail
        refine bodyPost_ret (results_cell_row rfl _ _ g2 65 #[.string q.k, .string q.v] (0, 0) _ rfl (setRow_heap _ _ _ _ _ _ ((HI.out.block _ (heap_lt H2.out)).trans H2.out)) Try.underlying65 rfl kcells_info) rfl ⟨rfl, ?_⟩
        exact ((Kept.of_below (fun _ => False) (HB.out.trans (HI.out.mono HB.out.size))).setRow (fun h => by have := HG2.out; omega) _).below (Nat.le_refl _) (fun _ _ h => h)
    · have hkl : C.ks.length = C.ps.length + 1 := by
        rcases hs.lens with h | h
        · exact absurd h hk0
        · exact h
      have HL : Hid (Calls Try.prog 69 #[.pointer (some ⟨C.g, 0, none⟩)] wr fun e w' => e = .returned (.bool false) ∧ wr = w') := Lib.hid (by
        have := leaf_any (hC.under hb).nd
        rw [decide_eq_false (by omega)] at this
        exact this)
      obtain ⟨bk, ok, -, hbk, rfl, hkcell⟩ := hck.cells (by omega)
      have hko := hkcell (mC - 1) (by rw [List.length_map]; omega)
      obtain ⟨X, hX⟩ : ∃ X, X = C.ks[mC - 1]'(by omega) := ⟨_, rfl⟩
      have hXm : X ∈ C.ks := by rw [hX]; exact List.getElem_mem _
      rw [List.getElem_map, ← hX] at hko
      obtain ⟨ob, hob⟩ : ∃ ob, ob = ok + (mC - 1) := ⟨_, rfl⟩
      rw [← hob] at hko
      have hob2 : ok + (mC - 1) = ob := hob.symm
      have cko := (hb.cell (p := ⟨bk, ob, none⟩) hbk).trans hko
      have cc1' := (hb.cell (p := ⟨C.g, 1, none⟩) hcl).trans cc1
      have hm1 : IntKind.i64.wrap ((mC : Int) - 1) = ((mC - 1 : Nat) : Int) := by rw [i64_id _ (by omega) (by omega)]; omega
      have hm2 : ((mC - 1 : Nat) : Int) < (mC : Int) := by omega
      have HX : Hid (∃ k', gk = k' + 1 ∧ NdD D w X ∧ X.Sh k' ∧ (1 ≤ X.ps.length ∧ X.ps.length ≤ 8) ∧ X.toL.getLast? = some q) := Lib.hid (by
        rcases hs with ⟨-, h⟩ | ⟨h0, -, h⟩
        · exact absurd h hk0
        · obtain ⟨k', rfl⟩ : ∃ k', gk = k' + 1 := ⟨gk - 1, by omega⟩
          have hw := h X hXm
          have hw2 := (wf_iff _ _).1 hw.1
          refine ⟨k', rfl, hkd X hXm, hw2.2, ⟨by omega, hw2.1⟩, ?_⟩
          have e1 : C.ks[C.ks.length - 1]'(by omega) = X := by rw [hX]; simp only [hmC]
          have := toLs_getLast C.ps C.ks hkl (by rw [e1]; exact toL_ne k' X hw2.2 (by omega))
          rw [e1] at this
          rw [← this, ← toL_eq]
          exact hq)
      clear hC hs hh hq hb h2 hblk cc0 hcp hck hkd hko hob hkcell hk0 cc1 hX hXm hkl hmC hnC
      go_upto_region 2 with (go_at_call 69; refine HL.out.mono ?_; rintro e w4 ⟨rfl, rfl⟩)
      go_quiet (fail)
      go_wp2_with fail
      obtain ⟨k', rfl, x1, x2, x3, x4⟩ := HX.out
      go_roundg k'
      case measure => omega
      case rel => exact ⟨X, rfl, x1, x2, x3, x4, below_drewN HB.out nq, H2.out⟩
end Go.Proofs.Ytfgmhidgkemfoaa
namespace Go.Proofs.Ytfgmhidgkemfoaa
open Go.RowKit
set_option linter.unusedSimpArgs false
set_option linter.unusedVariables false
attribute [local go_sem ↓] exec_loadPair exec_storePair exec_at_zeroP exec_at_succP Go.wp_at_zero Go.wp_at_succ
def Dre9 : List (Option Tmp) := [some 58, some 59, some 60, some 61, some 62, some 63, some 64, some 65, some 66, some 67, some 68, some 69, some 70, some 71, some 72, none]
def Lre9 : List (List Nat) := [[], [0], [1], [2], [], [], [5], [6], [7], [], [8, 9], [10], [], [11, 12], [3, 4], [14, 13]]
def Dre7 : List (Option Tmp) := [some 36, some 37, some 38, some 39, some 40, some 41, some 42, some 43, some 44, some 45, some 46, some 47, some 48, some 49, none]
def Lre7 : List (List Nat) := [[], [0], [1], [2], [], [], [5], [6], [7], [], [8, 9], [10], [11], [3, 4], [13, 12]]
theorem place_found {ps : List KV} {key : ByteArray} {i : Nat} (hs : Sorted ps) (hp : Place ps key i) (hm : ∃ q ∈ ps, q.k = key) : ∃ h : i < ps.length, ps[i].k = key := by
  obtain ⟨q, hq, rfl⟩ := hm
  obtain ⟨t, ht, rfl⟩ := List.mem_iff_getElem.1 hq
  obtain ⟨hi, h1, h2⟩ := hp
  have e0 := (cmpK_eq ps[t].k ps[t].k).2 rfl
  rcases Nat.lt_trichotomy t i with h | h | h
  · have := h1 t ht h; omega
  · subst h; exact ⟨ht, rfl⟩
  · have h3 := hs.lt (i := i) (j := t) h ht
    have h4 := h2 i (by omega) (Nat.le_refl _)
    omega
theorem child_has {ps : List KV} {ks : List BT} {key : ByteArray} {i : Nat} (hl : ks.length = ps.length + 1) (hs : Sorted (toLs ps ks)) (hp : Place ps key i) (hik : i < ks.length) (hf : ¬ ∃ h : i < ps.length, ps[i].k = key) (hm : ∃ q ∈ toLs ps ks, q.k = key) : ∃ q ∈ ks[i].toL, q.k = key := by
  obtain ⟨h1, h2, -⟩ := place_inner hl hs hp hik hf
  obtain ⟨q, hq, rfl⟩ := hm
  have e0 := (cmpK_eq q.k q.k).2 rfl
  rw [toLs_split ps ks i hik hl] at hq
  rcases List.mem_append.1 hq with h | h
  · have := h1 q h; omega
  · rcases List.mem_append.1 h with h | h
    · exact ⟨q, h, rfl⟩
    · have := h2 q h; omega
/-- what remove makes of a node -/
structure DelOf (k : Nat) (T T' : BT) (key : ByteArray) : Prop where
  sh : T'.Sh k
  list : T'.toL = delL T.toL key
  low : T.ps.length ≤ T'.ps.length + 1
  high : T'.ps.length ≤ T.ps.length
  cnt : ∀ P, T'.cnt P ≤ T.cnt P + (3 * k + 1)
def DelRes (D : Nat → Prop) (w : World) (k : Nat) (T : BT) (key : ByteArray) (e : Ending) (w' : World) : Prop := ∃ T' : BT, e = .returned (.pointer (some ⟨T'.g, 0, none⟩)) ∧ NdD (fun b => D b ∨ w.heap.size ≤ b) w' T' ∧ Below w.heap.size w w' ∧ DelOf k T T' key
theorem del_leafT {k : Nat} {T : BT} {c i : Nat} (hs : T.Sh k) (hk0 : T.ks = []) (hso : Sorted T.toL) (hi : i < T.ps.length) : DelOf k T (.mk c (T.ps.take i ++ T.ps.drop (i + 1)) T.ks) T.ps[i].k := by
  have hl : (T.ps.take i ++ T.ps.drop (i + 1)).length + 1 = T.ps.length := by simp only [List.length_append, List.length_take, List.length_drop]; omega
  refine ⟨?_, ?_, by show _ ≤ (T.ps.take i ++ T.ps.drop (i + 1)).length + 1; omega, by show (T.ps.take i ++ T.ps.drop (i + 1)).length ≤ _; omega, fun P => ?_⟩
  · rcases hs with h | ⟨h1, h2, h3⟩
    · exact .inl h
    · rw [hk0] at h2; simp at h2
  · rw [toL_mk, hk0, toLs_leaf]
    rw [toL_eq, hk0, toLs_leaf] at hso ⊢
    exact (del_leaf hso hi).symm
  · have := cnt_new P T (.mk c (T.ps.take i ++ T.ps.drop (i + 1)) T.ks) 0 (Nat.le_refl _)
    omega
theorem del_innerT {k : Nat} {T r : BT} {key key2 : ByteArray} {c i : Nat} {ps2 ps5 : List KV} {ks5 : List BT} (hi : i < T.ks.length) (hpl : ps2.length = T.ps.length) (hr : DelOf k T.ks[i] r key2) (h8 : T.ks[i].ps.length ≤ 8) (hlist : delL T.toL key = toLs ps2 (T.ks.set i r)) (hm : Mended k r.ps.length ps2 (T.ks.set i r) ps5 ks5) : DelOf (k + 1) T (.mk c ps5 ks5) key := by
  refine ⟨.inr ⟨by omega, hm.lens, hm.kids⟩, by rw [toL_mk, hm.list, hlist], by rw [← hpl]; exact hm.low, ?_, fun P => ?_⟩
  · rw [← hpl]; exact hm.high2 (Nat.le_trans hr.high h8)
  · have h1 := hm.cnt P
    have h2 := cntL_set P T.ks i hi r
    have h4 := hr.cnt P
    have := cnt_new P T (.mk c ps5 ks5) (3 * k + 3) (by show cntL P ks5 ≤ _; omega)
    omega
theorem ONx.pairCell {D : Nat → Prop} {w0 w : World} {g jp : Nat} {kk : Option Nat} {vp vk : Value} {ps : List KV} {ks xs : List BT} (h : ONx D w0 w g (some jp) kk vp vk ps ks xs) (i : Nat) (hi : i < ps.length) : w.cell? ⟨jp, i * 2, none⟩ = some (.string ps[i].k) := by
  obtain ⟨cap, cur, -, hg, -, -, hs, ht⟩ := h.hp.row
  rw [cell_of_row w jp _ _ _ _ hg]
  have h1 := pcells_get ps i 0 hi (by decide)
  rw [Nat.add_zero, ← ht, List.getElem?_take] at h1
  split at h1
  · simpa [KV.cells] using h1
  · cases h1
set_option maxRecDepth 100000 in
set_option maxHeartbeats 4000000 in
theorem remove_step {D : Nat → Prop} {w : World} {T : BT} (hT : NdD D w T) (k0 : Nat) (hs : T.Sh k0) (h8 : T.ps.length ≤ 8) (h1 : 1 ≤ T.ps.length) (hso : Sorted T.toL) (key : ByteArray) (hmem : ∃ q ∈ T.toL, q.k = key) (hrec : ∀ (E : Nat → Prop) (u : World) (C : BT) (y : ByteArray), C ∈ T.ks → Sorted C.toL → NdD E u C → (∃ q ∈ C.toL, q.k = y) → Calls Try.prog 54 #[.pointer (some ⟨C.g, 0, none⟩), .string y] u (DelRes E u (k0 - 1) C y)) :
    Calls Try.prog 54 #[.pointer (some ⟨T.g, 0, none⟩), .string key] w (DelRes D w k0 T key) := by
  have HFI := Lib.hid (find_any hT.nd key (by exact Sorted.ps ((wf_iff _ _).2 ⟨h8, hs⟩) hso) (by omega))
  have HT := Lib.hid hT
  have HS := Lib.hid hs
  have HSO := Lib.hid hso
  have HRC := Lib.hid hrec
  have HMEM := Lib.hid hmem
  have HH : Hid (1 ≤ T.ps.length ∧ T.ps.length ≤ 8) := Lib.hid ⟨h1, h8⟩
  have HTGL : Hid (T.g < w.heap.size) := Lib.hid hT.nd.lt
  have mixed : Try.prog.follows .mixedOrders = true := by kernel_rfl
  obtain ⟨tg, htg⟩ : ∃ tg, tg = T.g := ⟨_, rfl⟩
  rw [← htg] at HFI HTGL ⊢
  have HTG := Lib.hid htg
  clear hT hs hso hrec h1 h8 htg hmem
  go_enter Try.func54, Try.ntmps54
  go_upto_region 2 with (go_at_call 59; refine HFI.out.mono ?_; rintro e w1 ⟨i, rfl, hpl, hb1⟩; have HPL := Lib.hid hpl; have HB1 := Lib.hid hb1; clear hpl hb1)
  have hT1 : NdD D w1 T := HT.out.under HB1.out
  obtain ⟨aT, nT, cT, bT, mT, eT, -, -, ct0, ct1, htp, htk, -⟩ := hT1.facts
  rw [← HTG.out] at ct0 ct1
  have hnT := htp.1
  rw [← hnT] at ct0
  have HPA := Lib.hid (part_any hT1 HS.out.lens 0 T.ps.length (by have := HH.out; omega) (Nat.le_refl _) (by have := HH.out; omega))
  rw [← HTG.out, List.take_length] at HPA
  have e2 : T.ks.take (T.ps.length + 1) = T.ks := by
    rcases HS.out.lens with h | h
    · rw [h]; simp
    · rw [← h, List.take_length]
  rw [e2] at HPA
  have HTK := Lib.hid htk
  have CTW0 := Lib.hid ct1
  clear hT1 htp e2 hnT htk ct1
  go_upto_region 3 with (go_at_call 70; refine HPA.out.mono ?_; rintro e q ⟨c, rfl, hon⟩; have HON0 := Lib.hid hon; clear hon)
  obtain ⟨kp, kk, vp, vk, hon⟩ := HON0.out
  obtain ⟨ps, hps⟩ : ∃ ps, ps = T.ps := ⟨_, rfl⟩
  obtain ⟨ks, hks⟩ : ∃ ks, ks = T.ks := ⟨_, rfl⟩
  obtain ⟨xs, hxs⟩ : ∃ xs, xs = T :: T.ks := ⟨_, rfl⟩
  have hon : ONx D w1 q c kp kk vp vk ps ks xs := by
    have h := hon
    rw [List.drop_zero, List.drop_zero, ← hps, ← hxs, ← hks] at h
    exact h
  have HPS := Lib.hid hps
  have HKS := Lib.hid hks
  have HBQ0 : Hid (Below w.heap.size w q) := Lib.hid (HB1.out.trans (hon.below.mono HB1.out.size))
  have HFIN : Hid (∀ (w' : World) (ps' : List KV) (ks' xs' : List BT), ON D w1 w' c ps' ks' xs' → DelOf k0 T (.mk c ps' ks') key → DelRes D w k0 T key (.returned (.pointer (some ⟨c, 0, none⟩))) w') := Lib.hid (fun w' ps' ks' xs' h hp => by
    obtain ⟨_, _, _, _, h⟩ := h
    exact ⟨_, rfl, h.nd.dom (fun b hb => hb.imp id (Nat.le_trans HB1.out.size)), HB1.out.trans (h.below.mono HB1.out.size), hp⟩)
  obtain ⟨jp, cv, rfl, rfl, hcv, hcm, hjpl⟩ := hon.pairAt (by rw [hps]; have := HH.out; omega)
  obtain ⟨m, hm⟩ : ∃ m, ps.length = m + 1 := ⟨ps.length - 1, by rw [hps]; have := HH.out; omega⟩
  have hon : ONx D w1 q c (some jp) kk (.slice (some ⟨jp, 0, none⟩) (m + 1) cv) vk ps ks xs := by rw [hm] at hon; exact hon
  rw [hm] at hcv
  have HNV := Lib.hid hm
  have HON := Lib.hid hon
  have hcm2 : cv ≤ 9223372036854775807 := hcm
  have HTW : Hid (tg < w1.heap.size) := Lib.hid (Nat.lt_of_lt_of_le HTGL.out HB1.out.size)
  have HIE0 : Hid (i ≤ T.ps.length) := Lib.hid HPL.out.1
  clear hps hks hxs hcm hjpl HON0 HPA ct0
  by_cases hk0 : T.ks = []
  · have HLF : Hid (Calls Try.prog 69 #[.pointer (some ⟨tg, 0, none⟩)] q fun e w' => e = .returned (.bool true) ∧ q = w') := Lib.hid (by
      have := leaf_any (HT.out.under HBQ0.out).nd
      rw [← HTG.out, hk0] at this
      exact this)
    have hfd : ∃ h : i < T.ps.length, T.ps[i].k = key := place_found (Sorted.ps ((wf_iff _ _).2 ⟨HH.out.2, HS.out⟩) HSO.out) HPL.out (by have := HMEM.out; rw [toL_eq, hk0, toLs_leaf] at this; exact this)
    have him : i ≤ m := by have := hfd.1; rw [← HPS.out] at this; omega
    have HRES2 : Hid (∀ (w' : World), ON D w1 w' c (ps.take i ++ ps.drop (i + 1)) ks xs → DelRes D w k0 T key (.returned (.pointer (some ⟨c, 0, none⟩))) w') := Lib.hid (fun w' h => HFIN.out w' _ _ _ h (by rw [HPS.out, HKS.out, ← hfd.2]; exact del_leafT HS.out hk0 HSO.out hfd.1))
    obtain ⟨-, c0, -, -, -⟩ := hon.facts
    have HDP := Lib.hid (fun y hy => deleteP_any q jp (.slice (some ⟨jp, 0, none⟩) (m + 1) cv) m (pcells ps) i (i : Int) y rfl hy (by have := hon.hp; rwa [hm] at this) (pcells_one ps) him (by have := HH.out; rw [← HPS.out] at this; omega))
    have hiw : IntKind.i64.wrap ((i : Int) + 1) = (i : Int) + 1 := i64_id _ (by omega) (by have := HH.out; rw [← HPS.out] at this; omega)
    have HIM := Lib.hid him
    clear hm hk0 hfd him hon
    go_wp2_with (first
      | (go_at_call 69; refine HLF.out.mono ?_; rintro e w4 ⟨rfl, rfl⟩)
      | (go_at_call 74; refine (HDP.out _ (by first | rfl | omega)).mono ?_; rintro e q3 ⟨v3, rfl, ho, hr⟩; obtain ⟨a3, c3, rfl, -⟩ := id ho.sl; have hgp := hr.2.heap HON.out.blk HON.out.d1; have cg0 := cell_of_row q3 c 0 _ _ _ hgp; have fg0 := frozen_of_row q3 c 0 _ _ hgp; have HO3 := Lib.hid ho; have HR3 := Lib.hid hr; clear ho hr hgp))
    go_ret
    refine HRES2.out _ ⟨_, _, _, _, HON.out.newP2 ?_ HR3.out⟩
    have e1 : (ps.take i ++ ps.drop (i + 1)).length = m := by have := HNV.out; have := HIM.out; simp only [List.length_append, List.length_take, List.length_drop]; omega
    rw [e1, pcells_del ps i (by have := HNV.out; have := HIM.out; omega)]
    exact HO3.out
  · have hkl : T.ks.length = T.ps.length + 1 := by
      rcases HS.out.lens with h | h
      · exact absurd h hk0
      · exact h
    obtain ⟨k, rfl⟩ : ∃ k, k0 = k + 1 := by
      rcases HS.out with ⟨-, h⟩ | ⟨h, -⟩
      · exact absurd h hk0
      · exact ⟨k0 - 1, by omega⟩
    have hkw : ∀ x ∈ T.ks, x.Wf (k + 1) ∧ 3 ≤ x.ps.length := by
      rcases HS.out with ⟨h, -⟩ | ⟨-, -, h⟩
      · omega
      · exact h
    have hik : i < T.ks.length := by have := HIE0.out; omega
    obtain ⟨C, hC⟩ : ∃ C, C = T.ks[i]'hik := ⟨_, rfl⟩
    have hCm : C ∈ T.ks := by rw [hC]; exact List.getElem_mem hik
    have hCw := hkw C hCm
    have hCs := (wf_iff _ _).1 hCw.1
    have HLF : Hid (Calls Try.prog 69 #[.pointer (some ⟨tg, 0, none⟩)] q fun e w' => e = .returned (.bool false) ∧ q = w') := Lib.hid (by
      have := leaf_any (HT.out.under HBQ0.out).nd
      rw [← HTG.out, decide_eq_false (by omega)] at this
      exact this)
    obtain ⟨jk, kc, rfl, rfl, hkc, hkm, -, -⟩ := hon.kidAt (by rw [HKS.out]; omega)
    have hiks : i < ks.length := by rw [HKS.out]; exact hik
    have hmT := HTK.out.1
    rw [List.length_map] at hmT
    have hmT2 : ks.length = mT := by rw [HKS.out]; exact hmT
    rw [hmT2] at hkc
    have hon : ONx D w1 q c (some jp) (some jk) (.slice (some ⟨jp, 0, none⟩) (m + 1) cv) (.slice (some ⟨jk, 0, none⟩) mT kc) ps ks xs := by rw [hmT2] at hon; exact hon
    have HON : Hid (ONx D w1 q c (some jp) (some jk) (.slice (some ⟨jp, 0, none⟩) (m + 1) cv) (.slice (some ⟨jk, 0, none⟩) mT kc) ps ks xs) := Lib.hid hon
    obtain ⟨bk, ok, -, hbk, rfl, hkcell⟩ := HTK.out.cells (by omega)
    have hko := hkcell i (by rw [List.length_map]; exact hik)
    rw [List.getElem_map, ← hC] at hko
    obtain ⟨ob, hob⟩ : ∃ ob, ob = ok + i := ⟨_, rfl⟩
    rw [← hob] at hko
    have hob2 : ok + i = ob := hob.symm
    obtain ⟨kg, hkg⟩ : ∃ kg, kg = C.g := ⟨_, rfl⟩
    rw [← hkg] at hko
    have CTW : Hid (w1.cell? ⟨tg, 1, none⟩ = some (.slice (some ⟨bk, ok, none⟩) mT eT)) := CTW0
    have HBW := Lib.hid hbk
    have CKW := Lib.hid hko
    have HCM : Hid (C ∈ ks) := Lib.hid (by rw [HKS.out]; exact hCm)
    have hik2 : (i : Int) < (mT : Int) := by omega
    have hkm2 : kc ≤ 9223372036854775807 := hkm
    have heT : eT ≤ 9223372036854775807 := HTK.out.2.2.2.1
    have hmeT : mT ≤ eT := HTK.out.2.2.1
    have hsoT : Sorted (toLs T.ps T.ks) := by rw [← toL_eq]; exact HSO.out
    have HSK : Hid (Sorted C.toL) := Lib.hid (by
      have h := toLs_split T.ps T.ks i hik hkl
      rw [h] at hsoT
      rw [hC]
      exact (sorted_app.1 (sorted_app.1 hsoT).2.1).1)
    have HMG : Hid (∀ (ps2 : List KV) (y : ByteArray) (r : BT), ps2.length = T.ps.length → DelOf k C r y → ∀ (u : World) (ys : List BT), ON D w1 u c ps2 (ks.set i r) ys → Calls Try.prog 72 #[.pointer (some ⟨c, 0, none⟩), .int .i64 (i : Int)] u fun e w' => e = .returned (.tuple #[]) ∧ ∃ ps' ks', ON D w1 w' c ps' ks' ys ∧ Mended k r.ps.length ps2 (T.ks.set i r) ps' ks') := Lib.hid (fun ps2 y r hp2 hr u ys h => by
      rw [HKS.out] at h
      have hg : (T.ks.set i r)[i]'(by rw [List.length_set]; exact hik) = r := List.getElem_set_self _
      have := mend_any h k i (by rw [List.length_set]; exact hik) (by rw [List.length_set, hp2]; exact hkl) (by have := HH.out; omega) (by have := HH.out; omega) (fun j hj hji => by
        rw [List.length_set] at hj
        rw [List.getElem_set_ne (Ne.symm hji)]
        exact hkw _ (List.getElem_mem hj)) (by rw [hg]; exact hr.sh) (by rw [hg]; have := hr.low; omega) (by rw [hg]; have := hr.high; omega)
      rw [hg] at this
      exact this)
    have HRG : Hid (∀ (ps2 : List KV) (y : ByteArray) (r : BT), ps2.length = T.ps.length → DelOf k C r y → (r.toL = delL C.toL y → delL T.toL key = toLs ps2 (T.ks.set i r)) → ∀ (w' : World) (ps' : List KV) (ks' ys : List BT), ON D w1 w' c ps' ks' ys → Mended k r.ps.length ps2 (T.ks.set i r) ps' ks' → DelRes D w (k + 1) T key (.returned (.pointer (some ⟨c, 0, none⟩))) w') := Lib.hid (fun ps2 y r hp2 hr hlist w' ps' ks' ys h hm => HFIN.out w' _ _ _ h (del_innerT hik hp2 (by rw [← hC]; exact hr) (by rw [← hC]; exact hCs.1) (hlist hr.list) hm))
    have HBQ : Hid (Below w1.heap.size w1 q) := Lib.hid HON.out.below
    have HCL : Hid (c < q.heap.size) := Lib.hid HON.out.facts.1
    have C0 : Hid (q.cell? ⟨c, 0, none⟩ = some (.slice (some ⟨jp, 0, none⟩) (m + 1) cv)) := Lib.hid HON.out.facts.2.1
    have C1 : Hid (q.cell? ⟨c, 1, none⟩ = some (.slice (some ⟨jk, 0, none⟩) mT kc)) := Lib.hid HON.out.facts.2.2.1
    have HTL : Hid (tg < q.heap.size) := Lib.hid (Nat.lt_of_lt_of_le HTW.out HBQ.out.size)
    have CT1 : Hid (q.cell? ⟨tg, 1, none⟩ = some (.slice (some ⟨bk, ok, none⟩) mT eT)) := Lib.hid ((HBQ.out.cell (p := ⟨tg, 1, none⟩) HTW.out).trans CTW.out)
    have HBK : Hid (bk < q.heap.size) := Lib.hid (Nat.lt_of_lt_of_le HBW.out HBQ.out.size)
    have CKG : Hid (q.cell? ⟨bk, ob, none⟩ = some (.pointer (some ⟨kg, 0, none⟩))) := Lib.hid ((HBQ.out.cell (p := ⟨bk, ob, none⟩) HBW.out).trans CKW.out)
    have HJC : Hid (jk < q.heap.size ∧ q.cell? ⟨jk, i, none⟩ = some (.pointer (some ⟨(ks[i]'hiks).g, 0, none⟩)) ∧ q.frozen? ⟨jk, i, none⟩ = false) := Lib.hid (by
      obtain ⟨j2, c2, e1, e2, -, -, h3, h4⟩ := HON.out.kidAt (by omega)
      cases e1
      exact ⟨h3, h4 i hiks⟩)
    by_cases hfd : ∃ h : i < T.ps.length, T.ps[i].k = key
    · rw [decide_eq_true hfd]
      obtain ⟨hit, hkey⟩ := hfd
      have hips : i < ps.length := by rw [HPS.out]; exact hit
      have hips2 : (i : Int) < (m : Int) + 1 := by omega
      obtain ⟨lq, hlq⟩ : ∃ lq, C.toL.getLast? = some lq := by
        cases h : C.toL.getLast? with
        | none => exact absurd (List.getLast?_eq_none_iff.1 h) (toL_ne k C hCs.2 (by omega))
        | some lq => exact ⟨lq, rfl⟩
      obtain ⟨AL, hAL⟩ : ∃ AL, C.toL = AL ++ [lq] := by
        obtain ⟨l, hl⟩ := List.getLast?_eq_some_iff.1 hlq
        exact ⟨l, hl⟩
      have HLAST : Hid (∀ (E : Nat → Prop) (u : World), NdD E u C → Calls Try.prog 75 #[.pointer (some ⟨kg, 0, none⟩)] u fun e w' => e = .returned (.agg #[.string lq.k, .string lq.v]) ∧ Below u.heap.size u w') := Lib.hid (fun E u h => by rw [hkg]; exact last_any h k hCs.2 ⟨by omega, hCs.1⟩ lq hlq)
      have HRECF : Hid (∀ (E : Nat → Prop) (u : World), NdD E u C → Calls Try.prog 54 #[.pointer (some ⟨kg, 0, none⟩), .string lq.k] u (DelRes E u k C lq.k)) := Lib.hid (fun E u h => by rw [hkg]; exact HRC.out E u C lq.k hCm HSK.out h ⟨lq, by rw [hAL]; simp, rfl⟩)
      have hlen2 : (ps.set i lq).length = T.ps.length := by rw [List.length_set, HPS.out]
      have HMENDF := Lib.hid (fun (r : BT) (hr : DelOf k C r lq.k) => HMG.out (ps.set i lq) lq.k r hlen2 hr)
      have HRESF := Lib.hid (fun (r : BT) (hr : DelOf k C r lq.k) => HRG.out (ps.set i lq) lq.k r hlen2 hr (fun hl => by
        rw [toL_eq, HPS.out, ← hkey]
        exact del_inner_old hkl hsoT hit r AL lq (by rw [← hC]; exact hAL) (by rw [hl, hAL])))
      have HSETC : Hid (∀ u : World, ONx D w1 u c (some jp) (some jk) (.slice (some ⟨jp, 0, none⟩) (m + 1) cv) (.slice (some ⟨jk, 0, none⟩) mT kc) (ps.set i lq) ks xs → u.cell? ⟨jp, i * 2, none⟩ = some (.string lq.k)) := Lib.hid (fun u h => by
        have := h.pairCell i (by rw [List.length_set]; exact hips)
        rw [List.getElem_set_self] at this
        exact this)
      clear hm hk0 hon hkw hC hCm hCw hCs hkm hmT hkcell hko hkg hbk hkl hkc hsoT hlq hAL hlen2 hkey hit hob hik
      go_upto_region 7 with (go_at_call 69; refine HLF.out.mono ?_; rintro e w4 ⟨rfl, rfl⟩)
      refine Roll.region_f 13 77 Dre7 Lre7 [(0, .pointer (some ⟨tg, 0, none⟩)), (1, .string key), (5, .int .i64 (i : Int)), (7, .pointer (some ⟨c, 0, none⟩))] (fun p => Below q.heap.size q p) (fun p p2 => Below p.heap.size p p2) [fun vv p => vv = .pointer (some ⟨c, 0, none⟩), fun vv p => vv = .pointer (some ⟨c, 0, none⟩), fun vv p => vv = .pointer (some ⟨c, 0, none⟩), fun vv p => vv = .slice (some ⟨jp, 0, none⟩) (m + 1) cv, fun vv p => vv = .int .i64 (i : Int), fun vv p => vv = .pointer (some ⟨tg, 0, none⟩), fun vv p => vv = .pointer (some ⟨tg, 0, none⟩), fun vv p => vv = .pointer (some ⟨tg, 1, none⟩), fun vv p => vv = .slice (some ⟨bk, ok, none⟩) mT eT, fun vv p => vv = .int .i64 (i : Int), fun vv p => vv = .pointer (some ⟨bk, ob, none⟩), fun vv p => vv = .pointer (some ⟨kg, 0, none⟩), fun vv p => vv = .agg #[.string lq.k, .string lq.v]] (by kernel_rfl) (by kernel_rfl) rfl ⟨rfl, rfl, rfl, rfl, trivial⟩ ((Below.refl _ _).drew) ?_ ?_ ?_
      · exact ⟨fun _ _ _ _ h => h, fun _ _ _ _ h => h, fun _ _ _ _ h => h, fun _ _ _ _ h => h, fun _ _ _ _ h => h, fun _ _ _ _ h => h, fun _ _ _ _ h => h, fun _ _ _ _ h => h, fun _ _ _ _ h => h, fun _ _ _ _ h => h, fun _ _ _ _ h => h, fun _ _ _ _ h => h, fun _ _ _ _ h => h, trivial⟩
      · intro b0 hN hlv
        refine ⟨?_, ?_, ?_, ?_, ?_, ?_, ?_, ?_, ?_, ?_, ?_, ?_, ?_, trivial⟩
        · intro vs p hI hp
          have e7 : (Roll.putD Dre7 vs [] b0).eval (.tmp 7) = .pointer (some ⟨c, 0, none⟩) := (Roll.eval_old rfl).trans (hlv.at 3 (7, .pointer (some ⟨c, 0, none⟩)) rfl)
          clear hp hlv hN
          unfold Roll.Goes
          simp only [Lre7, List.getD_cons_zero, List.getD_cons_succ]
          generalize Roll.putD Dre7 vs [] b0 = a1 at *
          refine Roll.goes_val (w' := p) (.pointer (some ⟨c, 0, none⟩)) rfl ?_ ⟨hI, Below.refl _ _, rfl⟩
          (have ec : ∀ x, a1.eval (.const x) = x := fun _ => rfl); (have ef : ∀ x, a1.eval (.func x) = .func (.func x) #[] #[] := fun _ => rfl); generalize a1.eval = ρ at *
          skip
          go_simp <;> (intros; first | (exfalso; omega) | rfl)
        · intro vs p hI hp
          have h0 : (vs 0) = .pointer (some ⟨c, 0, none⟩) := hp 0 (by simp [Lre7])
          have e36 : (Roll.putD Dre7 vs [0] b0).eval (.tmp 36) = .pointer (some ⟨c, 0, none⟩) := (Roll.eval_new 0 rfl (by decide) (by decide) (by omega)).trans h0
          clear hp hlv hN
          unfold Roll.Goes
          simp only [Lre7, List.getD_cons_zero, List.getD_cons_succ]
          generalize Roll.putD Dre7 vs [0] b0 = a1 at *
          refine Roll.goes_val (w' := p) (.pointer (some ⟨c, 0, none⟩)) rfl ?_ ⟨hI, Below.refl _ _, rfl⟩
          (have ec : ∀ x, a1.eval (.const x) = x := fun _ => rfl); (have ef : ∀ x, a1.eval (.func x) = .func (.func x) #[] #[] := fun _ => rfl); generalize a1.eval = ρ at *
          clear h0
          go_simp <;> (intros; first | (exfalso; omega) | rfl)
        · intro vs p hI hp
          have h1 : (vs 1) = .pointer (some ⟨c, 0, none⟩) := hp 1 (by simp [Lre7])
          have e37 : (Roll.putD Dre7 vs [1] b0).eval (.tmp 37) = .pointer (some ⟨c, 0, none⟩) := (Roll.eval_new 1 rfl (by decide) (by decide) (by omega)).trans h1
          clear hp hlv hN
          unfold Roll.Goes
          simp only [Lre7, List.getD_cons_zero, List.getD_cons_succ]
          generalize Roll.putD Dre7 vs [1] b0 = a1 at *
          refine Roll.goes_val (w' := p) (.pointer (some ⟨c, 0, none⟩)) rfl ?_ ⟨hI, Below.refl _ _, rfl⟩
          (have ec : ∀ x, a1.eval (.const x) = x := fun _ => rfl); (have ef : ∀ x, a1.eval (.func x) = .func (.func x) #[] #[] := fun _ => rfl); generalize a1.eval = ρ at *
          clear h1
          go_simp <;> (intros; first | (exfalso; omega) | rfl)
        · intro vs p hI hp
          have h2 : (vs 2) = .pointer (some ⟨c, 0, none⟩) := hp 2 (by simp [Lre7])
          have e38 : (Roll.putD Dre7 vs [2] b0).eval (.tmp 38) = .pointer (some ⟨c, 0, none⟩) := (Roll.eval_new 2 rfl (by decide) (by decide) (by omega)).trans h2
          clear hp hlv hN
          unfold Roll.Goes
          simp only [Lre7, List.getD_cons_zero, List.getD_cons_succ]
          generalize Roll.putD Dre7 vs [2] b0 = a1 at *
          have cf : p.cell? ⟨c, 0, none⟩ = some (.slice (some ⟨jp, 0, none⟩) (m + 1) cv) := (hI.cell (p := ⟨c, 0, none⟩) HCL.out).trans C0.out
          refine Roll.goes_val (w' := p) (.slice (some ⟨jp, 0, none⟩) (m + 1) cv) rfl ?_ ⟨hI, Below.refl _ _, rfl⟩
          (have ec : ∀ x, a1.eval (.const x) = x := fun _ => rfl); (have ef : ∀ x, a1.eval (.func x) = .func (.func x) #[] #[] := fun _ => rfl); generalize a1.eval = ρ at *
          clear h2
          go_simp <;> (intros; first | (exfalso; omega) | rfl)
        · intro vs p hI hp
          have e5 : (Roll.putD Dre7 vs [] b0).eval (.tmp 5) = .int .i64 (i : Int) := (Roll.eval_old rfl).trans (hlv.at 2 (5, .int .i64 (i : Int)) rfl)
          clear hp hlv hN
          unfold Roll.Goes
          simp only [Lre7, List.getD_cons_zero, List.getD_cons_succ]
          generalize Roll.putD Dre7 vs [] b0 = a1 at *
          refine Roll.goes_val (w' := p) (.int .i64 (i : Int)) rfl ?_ ⟨hI, Below.refl _ _, rfl⟩
          (have ec : ∀ x, a1.eval (.const x) = x := fun _ => rfl); (have ef : ∀ x, a1.eval (.func x) = .func (.func x) #[] #[] := fun _ => rfl); generalize a1.eval = ρ at *
          skip
          go_simp <;> (intros; first | (exfalso; omega) | rfl)
        · intro vs p hI hp
          have e0 : (Roll.putD Dre7 vs [] b0).eval (.tmp 0) = .pointer (some ⟨tg, 0, none⟩) := (Roll.eval_old rfl).trans (hlv.at 0 (0, .pointer (some ⟨tg, 0, none⟩)) rfl)
          clear hp hlv hN
          unfold Roll.Goes
          simp only [Lre7, List.getD_cons_zero, List.getD_cons_succ]
          generalize Roll.putD Dre7 vs [] b0 = a1 at *
          refine Roll.goes_val (w' := p) (.pointer (some ⟨tg, 0, none⟩)) rfl ?_ ⟨hI, Below.refl _ _, rfl⟩
          (have ec : ∀ x, a1.eval (.const x) = x := fun _ => rfl); (have ef : ∀ x, a1.eval (.func x) = .func (.func x) #[] #[] := fun _ => rfl); generalize a1.eval = ρ at *
          skip
          go_simp <;> (intros; first | (exfalso; omega) | rfl)
        · intro vs p hI hp
          have h5 : (vs 5) = .pointer (some ⟨tg, 0, none⟩) := hp 5 (by simp [Lre7])
          have e41 : (Roll.putD Dre7 vs [5] b0).eval (.tmp 41) = .pointer (some ⟨tg, 0, none⟩) := (Roll.eval_new 5 rfl (by decide) (by decide) (by omega)).trans h5
          clear hp hlv hN
          unfold Roll.Goes
          simp only [Lre7, List.getD_cons_zero, List.getD_cons_succ]
          generalize Roll.putD Dre7 vs [5] b0 = a1 at *
          refine Roll.goes_val (w' := p) (.pointer (some ⟨tg, 0, none⟩)) rfl ?_ ⟨hI, Below.refl _ _, rfl⟩
          (have ec : ∀ x, a1.eval (.const x) = x := fun _ => rfl); (have ef : ∀ x, a1.eval (.func x) = .func (.func x) #[] #[] := fun _ => rfl); generalize a1.eval = ρ at *
          clear h5
          go_simp <;> (intros; first | (exfalso; omega) | rfl)
        · intro vs p hI hp
          have h6 : (vs 6) = .pointer (some ⟨tg, 0, none⟩) := hp 6 (by simp [Lre7])
          have e42 : (Roll.putD Dre7 vs [6] b0).eval (.tmp 42) = .pointer (some ⟨tg, 0, none⟩) := (Roll.eval_new 6 rfl (by decide) (by decide) (by omega)).trans h6
          clear hp hlv hN
          unfold Roll.Goes
          simp only [Lre7, List.getD_cons_zero, List.getD_cons_succ]
          generalize Roll.putD Dre7 vs [6] b0 = a1 at *
          refine Roll.goes_val (w' := p) (.pointer (some ⟨tg, 1, none⟩)) rfl ?_ ⟨hI, Below.refl _ _, rfl⟩
          (have ec : ∀ x, a1.eval (.const x) = x := fun _ => rfl); (have ef : ∀ x, a1.eval (.func x) = .func (.func x) #[] #[] := fun _ => rfl); generalize a1.eval = ρ at *
          clear h6
          go_simp <;> (intros; first | (exfalso; omega) | rfl)
        · intro vs p hI hp
          have h7 : (vs 7) = .pointer (some ⟨tg, 1, none⟩) := hp 7 (by simp [Lre7])
          have e43 : (Roll.putD Dre7 vs [7] b0).eval (.tmp 43) = .pointer (some ⟨tg, 1, none⟩) := (Roll.eval_new 7 rfl (by decide) (by decide) (by omega)).trans h7
          clear hp hlv hN
          unfold Roll.Goes
          simp only [Lre7, List.getD_cons_zero, List.getD_cons_succ]
          generalize Roll.putD Dre7 vs [7] b0 = a1 at *
          have cf : p.cell? ⟨tg, 1, none⟩ = some (.slice (some ⟨bk, ok, none⟩) mT eT) := (hI.cell (p := ⟨tg, 1, none⟩) HTL.out).trans CT1.out
          refine Roll.goes_val (w' := p) (.slice (some ⟨bk, ok, none⟩) mT eT) rfl ?_ ⟨hI, Below.refl _ _, rfl⟩
          (have ec : ∀ x, a1.eval (.const x) = x := fun _ => rfl); (have ef : ∀ x, a1.eval (.func x) = .func (.func x) #[] #[] := fun _ => rfl); generalize a1.eval = ρ at *
          clear h7
          go_simp <;> (intros; first | (exfalso; omega) | rfl)
        · intro vs p hI hp
          have e5 : (Roll.putD Dre7 vs [] b0).eval (.tmp 5) = .int .i64 (i : Int) := (Roll.eval_old rfl).trans (hlv.at 2 (5, .int .i64 (i : Int)) rfl)
          clear hp hlv hN
          unfold Roll.Goes
          simp only [Lre7, List.getD_cons_zero, List.getD_cons_succ]
          generalize Roll.putD Dre7 vs [] b0 = a1 at *
          refine Roll.goes_val (w' := p) (.int .i64 (i : Int)) rfl ?_ ⟨hI, Below.refl _ _, rfl⟩
          (have ec : ∀ x, a1.eval (.const x) = x := fun _ => rfl); (have ef : ∀ x, a1.eval (.func x) = .func (.func x) #[] #[] := fun _ => rfl); generalize a1.eval = ρ at *
          skip
          go_simp <;> (intros; first | (exfalso; omega) | rfl)
        · intro vs p hI hp
          have h8 : (vs 8) = .slice (some ⟨bk, ok, none⟩) mT eT := hp 8 (by simp [Lre7])
          have h9 : (vs 9) = .int .i64 (i : Int) := hp 9 (by simp [Lre7])
          have e44 : (Roll.putD Dre7 vs [8, 9] b0).eval (.tmp 44) = .slice (some ⟨bk, ok, none⟩) mT eT := (Roll.eval_new 8 rfl (by decide) (by decide) (by omega)).trans h8
          have e45 : (Roll.putD Dre7 vs [8, 9] b0).eval (.tmp 45) = .int .i64 (i : Int) := (Roll.eval_new 9 rfl (by decide) (by decide) (by omega)).trans h9
          clear hp hlv hN
          unfold Roll.Goes
          simp only [Lre7, List.getD_cons_zero, List.getD_cons_succ]
          generalize Roll.putD Dre7 vs [8, 9] b0 = a1 at *
          refine Roll.goes_val (w' := p) (.pointer (some ⟨bk, ob, none⟩)) rfl ?_ ⟨hI, Below.refl _ _, rfl⟩
          (have ec : ∀ x, a1.eval (.const x) = x := fun _ => rfl); (have ef : ∀ x, a1.eval (.func x) = .func (.func x) #[] #[] := fun _ => rfl); generalize a1.eval = ρ at *
          clear h8 h9
          go_simp <;> (intros; first | (exfalso; omega) | rfl)
        · intro vs p hI hp
          have h10 : (vs 10) = .pointer (some ⟨bk, ob, none⟩) := hp 10 (by simp [Lre7])
          have e46 : (Roll.putD Dre7 vs [10] b0).eval (.tmp 46) = .pointer (some ⟨bk, ob, none⟩) := (Roll.eval_new 10 rfl (by decide) (by decide) (by omega)).trans h10
          clear hp hlv hN
          unfold Roll.Goes
          simp only [Lre7, List.getD_cons_zero, List.getD_cons_succ]
          generalize Roll.putD Dre7 vs [10] b0 = a1 at *
          have cf : p.cell? ⟨bk, ob, none⟩ = some (.pointer (some ⟨kg, 0, none⟩)) := (hI.cell (p := ⟨bk, ob, none⟩) HBK.out).trans CKG.out
          refine Roll.goes_val (w' := p) (.pointer (some ⟨kg, 0, none⟩)) rfl ?_ ⟨hI, Below.refl _ _, rfl⟩
          (have ec : ∀ x, a1.eval (.const x) = x := fun _ => rfl); (have ef : ∀ x, a1.eval (.func x) = .func (.func x) #[] #[] := fun _ => rfl); generalize a1.eval = ρ at *
          clear h10
          go_simp <;> (intros; first | (exfalso; omega) | rfl)
        · intro vs p hI hp
          have h11 : (vs 11) = .pointer (some ⟨kg, 0, none⟩) := hp 11 (by simp [Lre7])
          have e47 : (Roll.putD Dre7 vs [11] b0).eval (.tmp 47) = .pointer (some ⟨kg, 0, none⟩) := (Roll.eval_new 11 rfl (by decide) (by decide) (by omega)).trans h11
          clear hp hlv hN
          unfold Roll.Goes
          simp only [Lre7, List.getD_cons_zero, List.getD_cons_succ]
          generalize Roll.putD Dre7 vs [11] b0 = a1 at *
          refine Roll.goes_call 75 #[.pointer (some ⟨kg, 0, none⟩)] p rfl (by have ec : ∀ x, a1.eval (.const x) = x := fun _ => rfl; have ef : ∀ x, a1.eval (.func x) = .func (.func x) #[] #[] := fun _ => rfl; generalize a1.eval = ρ at *; go_simp) ?_
          have hc := HLAST.out (Off D w1.heap.size c (some jp) (some jk)) p ((HON.out.kids C (List.mem_append.2 (.inl HCM.out))).under hI)
          refine hc.mono ?_
          rintro y p2 ⟨rfl, hb2⟩
          exact ⟨_, rfl, hI.trans (hb2.mono hI.size), hb2, rfl⟩
      · intro vs p hI hR
        have h0 : (vs 0) = .pointer (some ⟨c, 0, none⟩) := hR 0 (by omega)
        have h1 : (vs 1) = .pointer (some ⟨c, 0, none⟩) := hR 1 (by omega)
        have h2 : (vs 2) = .pointer (some ⟨c, 0, none⟩) := hR 2 (by omega)
        have h3 : (vs 3) = .slice (some ⟨jp, 0, none⟩) (m + 1) cv := hR 3 (by omega)
        have h4 : (vs 4) = .int .i64 (i : Int) := hR 4 (by omega)
        have h5 : (vs 5) = .pointer (some ⟨tg, 0, none⟩) := hR 5 (by omega)
        have h6 : (vs 6) = .pointer (some ⟨tg, 0, none⟩) := hR 6 (by omega)
        have h7 : (vs 7) = .pointer (some ⟨tg, 1, none⟩) := hR 7 (by omega)
        have h8 : (vs 8) = .slice (some ⟨bk, ok, none⟩) mT eT := hR 8 (by omega)
        have h9 : (vs 9) = .int .i64 (i : Int) := hR 9 (by omega)
        have h10 : (vs 10) = .pointer (some ⟨bk, ob, none⟩) := hR 10 (by omega)
        have h11 : (vs 11) = .pointer (some ⟨kg, 0, none⟩) := hR 11 (by omega)
        have h12 : (vs 12) = .agg #[.string lq.k, .string lq.v] := hR 12 (by omega)
        clear hR
        simp only [List.range_succ, List.range_zero, List.nil_append, List.cons_append, Roll.putD, Act.put, List.getD_cons_zero, List.getD_cons_succ, List.setIfInBounds_toArray, List.set_cons_zero, List.set_cons_succ, List.drop_succ_cons, List.drop_zero, Dre7]
        simp only [h0, h1, h2, h3, h4, h5, h6, h7, h8, h9, h10, h11, h12]
        clear h0 h1 h2 h3 h4 h5 h6 h7 h8 h9 h10 h11 h12
        have th := (HON.out.under hI).there i hips
        have st0 := run_storePairAt p jp (i * 2) lq.k lq.v th
        clear th
        have HON2 : Hid (ONx D w1 (p.setCells jp (i * 2) (KV.mk lq.k lq.v).cells) c (some jp) (some jk) (.slice (some ⟨jp, 0, none⟩) (m + 1) cv) (.slice (some ⟨jk, 0, none⟩) mT kc) (ps.set i lq) ks xs) := Lib.hid ((HON.out.under hI).setP i hips lq)
        clear hI
        go_upto_region 8 with fail
        obtain ⟨q7, hq7⟩ : ∃ q7, q7 = p.setCells jp (i * 2) (KV.mk lq.k lq.v).cells := ⟨_, rfl⟩
        rw [← hq7] at HON2 ⊢
        clear hq7 st0 HON HCL C0 C1 HTL CT1 HBK CKG HJC HBQ
        obtain ⟨q, hq⟩ : ∃ q, q = q7 := ⟨_, rfl⟩
        subst hq
        have HON := HON2
        clear HON2
        have HBQ : Hid (Below w1.heap.size w1 q) := Lib.hid HON.out.below
        have HCL : Hid (c < q.heap.size) := Lib.hid HON.out.facts.1
        have C0 : Hid (q.cell? ⟨c, 0, none⟩ = some (.slice (some ⟨jp, 0, none⟩) (m + 1) cv)) := Lib.hid HON.out.facts.2.1
        have C1 : Hid (q.cell? ⟨c, 1, none⟩ = some (.slice (some ⟨jk, 0, none⟩) mT kc)) := Lib.hid HON.out.facts.2.2.1
        have HTL : Hid (tg < q.heap.size) := Lib.hid (Nat.lt_of_lt_of_le HTW.out HBQ.out.size)
        have CT1 : Hid (q.cell? ⟨tg, 1, none⟩ = some (.slice (some ⟨bk, ok, none⟩) mT eT)) := Lib.hid ((HBQ.out.cell (p := ⟨tg, 1, none⟩) HTW.out).trans CTW.out)
        have HBK : Hid (bk < q.heap.size) := Lib.hid (Nat.lt_of_lt_of_le HBW.out HBQ.out.size)
        have CKG : Hid (q.cell? ⟨bk, ob, none⟩ = some (.pointer (some ⟨kg, 0, none⟩))) := Lib.hid ((HBQ.out.cell (p := ⟨bk, ob, none⟩) HBW.out).trans CKW.out)
        have HJC : Hid (jk < q.heap.size ∧ q.cell? ⟨jk, i, none⟩ = some (.pointer (some ⟨(ks[i]'hiks).g, 0, none⟩)) ∧ q.frozen? ⟨jk, i, none⟩ = false) := Lib.hid (by
          obtain ⟨j2, c2, e1, e2, -, -, h3, h4⟩ := HON.out.kidAt (by omega)
          cases e1
          exact ⟨h3, h4 i hiks⟩)
        have cpk : q.cell? ⟨jp, i * 2, none⟩ = some (.string lq.k) := HSETC.out q HON.out
        have c0q := C0.out
        go_upto_region 9 with fail
        clear cpk c0q
        refine Roll.region_f 14 77 Dre9 Lre9 [(0, .pointer (some ⟨tg, 0, none⟩)), (1, .string lq.k), (5, .int .i64 (i : Int)), (7, .pointer (some ⟨c, 0, none⟩))] (fun p => Below q.heap.size q p) (fun p p2 => Below p.heap.size p p2) [fun vv p => vv = .pointer (some ⟨c, 0, none⟩), fun vv p => vv = .pointer (some ⟨c, 0, none⟩), fun vv p => vv = .pointer (some ⟨c, 1, none⟩), fun vv p => vv = .slice (some ⟨jk, 0, none⟩) mT kc, fun vv p => vv = .int .i64 (i : Int), fun vv p => vv = .pointer (some ⟨tg, 0, none⟩), fun vv p => vv = .pointer (some ⟨tg, 0, none⟩), fun vv p => vv = .pointer (some ⟨tg, 1, none⟩), fun vv p => vv = .slice (some ⟨bk, ok, none⟩) mT eT, fun vv p => vv = .int .i64 (i : Int), fun vv p => vv = .pointer (some ⟨bk, ob, none⟩), fun vv p => vv = .pointer (some ⟨kg, 0, none⟩), fun vv p => vv = .string lq.k, fun vv p => ∃ r : BT, vv = .pointer (some ⟨r.g, 0, none⟩) ∧ NdD (fun b => Off D w1.heap.size c (some jp) (some jk) b ∨ q.heap.size ≤ b) p r ∧ DelOf k C r lq.k] (by kernel_rfl) (by kernel_rfl) rfl ⟨rfl, rfl, rfl, rfl, trivial⟩ ((Below.refl _ _).drew) ?_ ?_ ?_
        · exact ⟨fun _ _ _ _ h => h, fun _ _ _ _ h => h, fun _ _ _ _ h => h, fun _ _ _ _ h => h, fun _ _ _ _ h => h, fun _ _ _ _ h => h, fun _ _ _ _ h => h, fun _ _ _ _ h => h, fun _ _ _ _ h => h, fun _ _ _ _ h => h, fun _ _ _ _ h => h, fun _ _ _ _ h => h, fun _ _ _ _ h => h, fun _ _ _ hs h => by obtain ⟨r, e1, e2, e3⟩ := h; exact ⟨r, e1, e2.under hs, e3⟩, trivial⟩
        · intro b0 hN hlv
          refine ⟨?_, ?_, ?_, ?_, ?_, ?_, ?_, ?_, ?_, ?_, ?_, ?_, ?_, ?_, trivial⟩
          · intro vs p hI hp
            have e7 : (Roll.putD Dre9 vs [] b0).eval (.tmp 7) = .pointer (some ⟨c, 0, none⟩) := (Roll.eval_old rfl).trans (hlv.at 3 (7, .pointer (some ⟨c, 0, none⟩)) rfl)
            clear hp hlv hN
            unfold Roll.Goes
            simp only [Lre9, List.getD_cons_zero, List.getD_cons_succ]
            generalize Roll.putD Dre9 vs [] b0 = a1 at *
            refine Roll.goes_val (w' := p) (.pointer (some ⟨c, 0, none⟩)) rfl ?_ ⟨hI, Below.refl _ _, rfl⟩
            (have ec : ∀ x, a1.eval (.const x) = x := fun _ => rfl); (have ef : ∀ x, a1.eval (.func x) = .func (.func x) #[] #[] := fun _ => rfl); generalize a1.eval = ρ at *
            skip
            go_simp <;> (intros; first | (exfalso; omega) | rfl)
          · intro vs p hI hp
            have h0 : (vs 0) = .pointer (some ⟨c, 0, none⟩) := hp 0 (by simp [Lre9])
            have e58 : (Roll.putD Dre9 vs [0] b0).eval (.tmp 58) = .pointer (some ⟨c, 0, none⟩) := (Roll.eval_new 0 rfl (by decide) (by decide) (by omega)).trans h0
            clear hp hlv hN
            unfold Roll.Goes
            simp only [Lre9, List.getD_cons_zero, List.getD_cons_succ]
            generalize Roll.putD Dre9 vs [0] b0 = a1 at *
            refine Roll.goes_val (w' := p) (.pointer (some ⟨c, 0, none⟩)) rfl ?_ ⟨hI, Below.refl _ _, rfl⟩
            (have ec : ∀ x, a1.eval (.const x) = x := fun _ => rfl); (have ef : ∀ x, a1.eval (.func x) = .func (.func x) #[] #[] := fun _ => rfl); generalize a1.eval = ρ at *
            clear h0
            go_simp <;> (intros; first | (exfalso; omega) | rfl)
          · intro vs p hI hp
            have h1 : (vs 1) = .pointer (some ⟨c, 0, none⟩) := hp 1 (by simp [Lre9])
            have e59 : (Roll.putD Dre9 vs [1] b0).eval (.tmp 59) = .pointer (some ⟨c, 0, none⟩) := (Roll.eval_new 1 rfl (by decide) (by decide) (by omega)).trans h1
            clear hp hlv hN
            unfold Roll.Goes
            simp only [Lre9, List.getD_cons_zero, List.getD_cons_succ]
            generalize Roll.putD Dre9 vs [1] b0 = a1 at *
            refine Roll.goes_val (w' := p) (.pointer (some ⟨c, 1, none⟩)) rfl ?_ ⟨hI, Below.refl _ _, rfl⟩
            (have ec : ∀ x, a1.eval (.const x) = x := fun _ => rfl); (have ef : ∀ x, a1.eval (.func x) = .func (.func x) #[] #[] := fun _ => rfl); generalize a1.eval = ρ at *
            clear h1
            go_simp <;> (intros; first | (exfalso; omega) | rfl)
          · intro vs p hI hp
            have h2 : (vs 2) = .pointer (some ⟨c, 1, none⟩) := hp 2 (by simp [Lre9])
            have e60 : (Roll.putD Dre9 vs [2] b0).eval (.tmp 60) = .pointer (some ⟨c, 1, none⟩) := (Roll.eval_new 2 rfl (by decide) (by decide) (by omega)).trans h2
            clear hp hlv hN
            unfold Roll.Goes
            simp only [Lre9, List.getD_cons_zero, List.getD_cons_succ]
            generalize Roll.putD Dre9 vs [2] b0 = a1 at *
            have cf : p.cell? ⟨c, 1, none⟩ = some (.slice (some ⟨jk, 0, none⟩) mT kc) := (hI.cell (p := ⟨c, 1, none⟩) HCL.out).trans C1.out
            refine Roll.goes_val (w' := p) (.slice (some ⟨jk, 0, none⟩) mT kc) rfl ?_ ⟨hI, Below.refl _ _, rfl⟩
            (have ec : ∀ x, a1.eval (.const x) = x := fun _ => rfl); (have ef : ∀ x, a1.eval (.func x) = .func (.func x) #[] #[] := fun _ => rfl); generalize a1.eval = ρ at *
            clear h2
            go_simp <;> (intros; first | (exfalso; omega) | rfl)
          · intro vs p hI hp
            have e5 : (Roll.putD Dre9 vs [] b0).eval (.tmp 5) = .int .i64 (i : Int) := (Roll.eval_old rfl).trans (hlv.at 2 (5, .int .i64 (i : Int)) rfl)
            clear hp hlv hN
            unfold Roll.Goes
            simp only [Lre9, List.getD_cons_zero, List.getD_cons_succ]
            generalize Roll.putD Dre9 vs [] b0 = a1 at *
            refine Roll.goes_val (w' := p) (.int .i64 (i : Int)) rfl ?_ ⟨hI, Below.refl _ _, rfl⟩
            (have ec : ∀ x, a1.eval (.const x) = x := fun _ => rfl); (have ef : ∀ x, a1.eval (.func x) = .func (.func x) #[] #[] := fun _ => rfl); generalize a1.eval = ρ at *
            skip
            go_simp <;> (intros; first | (exfalso; omega) | rfl)
          · intro vs p hI hp
            have e0 : (Roll.putD Dre9 vs [] b0).eval (.tmp 0) = .pointer (some ⟨tg, 0, none⟩) := (Roll.eval_old rfl).trans (hlv.at 0 (0, .pointer (some ⟨tg, 0, none⟩)) rfl)
            clear hp hlv hN
            unfold Roll.Goes
            simp only [Lre9, List.getD_cons_zero, List.getD_cons_succ]
            generalize Roll.putD Dre9 vs [] b0 = a1 at *
            refine Roll.goes_val (w' := p) (.pointer (some ⟨tg, 0, none⟩)) rfl ?_ ⟨hI, Below.refl _ _, rfl⟩
            (have ec : ∀ x, a1.eval (.const x) = x := fun _ => rfl); (have ef : ∀ x, a1.eval (.func x) = .func (.func x) #[] #[] := fun _ => rfl); generalize a1.eval = ρ at *
            skip
            go_simp <;> (intros; first | (exfalso; omega) | rfl)
          · intro vs p hI hp
            have h5 : (vs 5) = .pointer (some ⟨tg, 0, none⟩) := hp 5 (by simp [Lre9])
            have e63 : (Roll.putD Dre9 vs [5] b0).eval (.tmp 63) = .pointer (some ⟨tg, 0, none⟩) := (Roll.eval_new 5 rfl (by decide) (by decide) (by omega)).trans h5
            clear hp hlv hN
            unfold Roll.Goes
            simp only [Lre9, List.getD_cons_zero, List.getD_cons_succ]
            generalize Roll.putD Dre9 vs [5] b0 = a1 at *
            refine Roll.goes_val (w' := p) (.pointer (some ⟨tg, 0, none⟩)) rfl ?_ ⟨hI, Below.refl _ _, rfl⟩
            (have ec : ∀ x, a1.eval (.const x) = x := fun _ => rfl); (have ef : ∀ x, a1.eval (.func x) = .func (.func x) #[] #[] := fun _ => rfl); generalize a1.eval = ρ at *
            clear h5
            go_simp <;> (intros; first | (exfalso; omega) | rfl)
          · intro vs p hI hp
            have h6 : (vs 6) = .pointer (some ⟨tg, 0, none⟩) := hp 6 (by simp [Lre9])
            have e64 : (Roll.putD Dre9 vs [6] b0).eval (.tmp 64) = .pointer (some ⟨tg, 0, none⟩) := (Roll.eval_new 6 rfl (by decide) (by decide) (by omega)).trans h6
            clear hp hlv hN
            unfold Roll.Goes
            simp only [Lre9, List.getD_cons_zero, List.getD_cons_succ]
            generalize Roll.putD Dre9 vs [6] b0 = a1 at *
            refine Roll.goes_val (w' := p) (.pointer (some ⟨tg, 1, none⟩)) rfl ?_ ⟨hI, Below.refl _ _, rfl⟩
            (have ec : ∀ x, a1.eval (.const x) = x := fun _ => rfl); (have ef : ∀ x, a1.eval (.func x) = .func (.func x) #[] #[] := fun _ => rfl); generalize a1.eval = ρ at *
            clear h6
            go_simp <;> (intros; first | (exfalso; omega) | rfl)
          · intro vs p hI hp
            have h7 : (vs 7) = .pointer (some ⟨tg, 1, none⟩) := hp 7 (by simp [Lre9])
            have e65 : (Roll.putD Dre9 vs [7] b0).eval (.tmp 65) = .pointer (some ⟨tg, 1, none⟩) := (Roll.eval_new 7 rfl (by decide) (by decide) (by omega)).trans h7
            clear hp hlv hN
            unfold Roll.Goes
            simp only [Lre9, List.getD_cons_zero, List.getD_cons_succ]
            generalize Roll.putD Dre9 vs [7] b0 = a1 at *
            have cf : p.cell? ⟨tg, 1, none⟩ = some (.slice (some ⟨bk, ok, none⟩) mT eT) := (hI.cell (p := ⟨tg, 1, none⟩) HTL.out).trans CT1.out
            refine Roll.goes_val (w' := p) (.slice (some ⟨bk, ok, none⟩) mT eT) rfl ?_ ⟨hI, Below.refl _ _, rfl⟩
            (have ec : ∀ x, a1.eval (.const x) = x := fun _ => rfl); (have ef : ∀ x, a1.eval (.func x) = .func (.func x) #[] #[] := fun _ => rfl); generalize a1.eval = ρ at *
            clear h7
            go_simp <;> (intros; first | (exfalso; omega) | rfl)
          · intro vs p hI hp
            have e5 : (Roll.putD Dre9 vs [] b0).eval (.tmp 5) = .int .i64 (i : Int) := (Roll.eval_old rfl).trans (hlv.at 2 (5, .int .i64 (i : Int)) rfl)
            clear hp hlv hN
            unfold Roll.Goes
            simp only [Lre9, List.getD_cons_zero, List.getD_cons_succ]
            generalize Roll.putD Dre9 vs [] b0 = a1 at *
            refine Roll.goes_val (w' := p) (.int .i64 (i : Int)) rfl ?_ ⟨hI, Below.refl _ _, rfl⟩
            (have ec : ∀ x, a1.eval (.const x) = x := fun _ => rfl); (have ef : ∀ x, a1.eval (.func x) = .func (.func x) #[] #[] := fun _ => rfl); generalize a1.eval = ρ at *
            skip
            go_simp <;> (intros; first | (exfalso; omega) | rfl)
          · intro vs p hI hp
            have h8 : (vs 8) = .slice (some ⟨bk, ok, none⟩) mT eT := hp 8 (by simp [Lre9])
            have h9 : (vs 9) = .int .i64 (i : Int) := hp 9 (by simp [Lre9])
            have e66 : (Roll.putD Dre9 vs [8, 9] b0).eval (.tmp 66) = .slice (some ⟨bk, ok, none⟩) mT eT := (Roll.eval_new 8 rfl (by decide) (by decide) (by omega)).trans h8
            have e67 : (Roll.putD Dre9 vs [8, 9] b0).eval (.tmp 67) = .int .i64 (i : Int) := (Roll.eval_new 9 rfl (by decide) (by decide) (by omega)).trans h9
            clear hp hlv hN
            unfold Roll.Goes
            simp only [Lre9, List.getD_cons_zero, List.getD_cons_succ]
            generalize Roll.putD Dre9 vs [8, 9] b0 = a1 at *
            refine Roll.goes_val (w' := p) (.pointer (some ⟨bk, ob, none⟩)) rfl ?_ ⟨hI, Below.refl _ _, rfl⟩
            (have ec : ∀ x, a1.eval (.const x) = x := fun _ => rfl); (have ef : ∀ x, a1.eval (.func x) = .func (.func x) #[] #[] := fun _ => rfl); generalize a1.eval = ρ at *
            clear h8 h9
            go_simp <;> (intros; first | (exfalso; omega) | rfl)
          · intro vs p hI hp
            have h10 : (vs 10) = .pointer (some ⟨bk, ob, none⟩) := hp 10 (by simp [Lre9])
            have e68 : (Roll.putD Dre9 vs [10] b0).eval (.tmp 68) = .pointer (some ⟨bk, ob, none⟩) := (Roll.eval_new 10 rfl (by decide) (by decide) (by omega)).trans h10
            clear hp hlv hN
            unfold Roll.Goes
            simp only [Lre9, List.getD_cons_zero, List.getD_cons_succ]
            generalize Roll.putD Dre9 vs [10] b0 = a1 at *
            have cf : p.cell? ⟨bk, ob, none⟩ = some (.pointer (some ⟨kg, 0, none⟩)) := (hI.cell (p := ⟨bk, ob, none⟩) HBK.out).trans CKG.out
            refine Roll.goes_val (w' := p) (.pointer (some ⟨kg, 0, none⟩)) rfl ?_ ⟨hI, Below.refl _ _, rfl⟩
            (have ec : ∀ x, a1.eval (.const x) = x := fun _ => rfl); (have ef : ∀ x, a1.eval (.func x) = .func (.func x) #[] #[] := fun _ => rfl); generalize a1.eval = ρ at *
            clear h10
            go_simp <;> (intros; first | (exfalso; omega) | rfl)
          · intro vs p hI hp
            have e1 : (Roll.putD Dre9 vs [] b0).eval (.tmp 1) = .string lq.k := (Roll.eval_old rfl).trans (hlv.at 1 (1, .string lq.k) rfl)
            clear hp hlv hN
            unfold Roll.Goes
            simp only [Lre9, List.getD_cons_zero, List.getD_cons_succ]
            generalize Roll.putD Dre9 vs [] b0 = a1 at *
            refine Roll.goes_val (w' := p) (.string lq.k) rfl ?_ ⟨hI, Below.refl _ _, rfl⟩
            (have ec : ∀ x, a1.eval (.const x) = x := fun _ => rfl); (have ef : ∀ x, a1.eval (.func x) = .func (.func x) #[] #[] := fun _ => rfl); generalize a1.eval = ρ at *
            skip
            go_simp <;> (intros; first | (exfalso; omega) | rfl)
          · intro vs p hI hp
            have h11 : (vs 11) = .pointer (some ⟨kg, 0, none⟩) := hp 11 (by simp [Lre9])
            have h12 : (vs 12) = .string lq.k := hp 12 (by simp [Lre9])
            have e69 : (Roll.putD Dre9 vs [11, 12] b0).eval (.tmp 69) = .pointer (some ⟨kg, 0, none⟩) := (Roll.eval_new 11 rfl (by decide) (by decide) (by omega)).trans h11
            have e70 : (Roll.putD Dre9 vs [11, 12] b0).eval (.tmp 70) = .string lq.k := (Roll.eval_new 12 rfl (by decide) (by decide) (by omega)).trans h12
            clear hp hlv hN
            unfold Roll.Goes
            simp only [Lre9, List.getD_cons_zero, List.getD_cons_succ]
            generalize Roll.putD Dre9 vs [11, 12] b0 = a1 at *
            refine Roll.goes_call 54 #[.pointer (some ⟨kg, 0, none⟩), .string lq.k] p rfl (by have ec : ∀ x, a1.eval (.const x) = x := fun _ => rfl; have ef : ∀ x, a1.eval (.func x) = .func (.func x) #[] #[] := fun _ => rfl; generalize a1.eval = ρ at *; go_simp) ?_
            have hc := HRECF.out (Off D w1.heap.size c (some jp) (some jk)) p ((HON.out.kids C (List.mem_append.2 (.inl HCM.out))).under hI)
            refine hc.mono ?_
            rintro y p2 ⟨r, rfl, hnd, hb2, hpo⟩
            exact ⟨_, rfl, hI.trans (hb2.mono hI.size), hb2, r, rfl, hnd.dom (fun b hb => hb.imp id (Nat.le_trans hI.size)), hpo⟩
        · intro vs p hI hR
          have h0 : (vs 0) = .pointer (some ⟨c, 0, none⟩) := hR 0 (by omega)
          have h1 : (vs 1) = .pointer (some ⟨c, 0, none⟩) := hR 1 (by omega)
          have h2 : (vs 2) = .pointer (some ⟨c, 1, none⟩) := hR 2 (by omega)
          have h3 : (vs 3) = .slice (some ⟨jk, 0, none⟩) mT kc := hR 3 (by omega)
          have h4 : (vs 4) = .int .i64 (i : Int) := hR 4 (by omega)
          have h5 : (vs 5) = .pointer (some ⟨tg, 0, none⟩) := hR 5 (by omega)
          have h6 : (vs 6) = .pointer (some ⟨tg, 0, none⟩) := hR 6 (by omega)
          have h7 : (vs 7) = .pointer (some ⟨tg, 1, none⟩) := hR 7 (by omega)
          have h8 : (vs 8) = .slice (some ⟨bk, ok, none⟩) mT eT := hR 8 (by omega)
          have h9 : (vs 9) = .int .i64 (i : Int) := hR 9 (by omega)
          have h10 : (vs 10) = .pointer (some ⟨bk, ob, none⟩) := hR 10 (by omega)
          have h11 : (vs 11) = .pointer (some ⟨kg, 0, none⟩) := hR 11 (by omega)
          have h12 : (vs 12) = .string lq.k := hR 12 (by omega)
          have h13 : ∃ r : BT, (vs 13) = .pointer (some ⟨r.g, 0, none⟩) ∧ NdD (fun b => Off D w1.heap.size c (some jp) (some jk) b ∨ q.heap.size ≤ b) p r ∧ DelOf k C r lq.k := hR 13 (by omega)
          clear hR
          simp only [List.range_succ, List.range_zero, List.nil_append, List.cons_append, Roll.putD, Act.put, List.getD_cons_zero, List.getD_cons_succ, List.setIfInBounds_toArray, List.set_cons_zero, List.set_cons_succ, List.drop_succ_cons, List.drop_zero, Dre9]
          simp only [h0, h1, h2, h3, h4, h5, h6, h7, h8, h9, h10, h11, h12]
          clear h0 h1 h2 h3 h4 h5 h6 h7 h8 h9 h10 h11 h12
          generalize vs 13 = v13 at *
          obtain ⟨r, rfl, hnd, hpo⟩ := h13
          have HPO := Lib.hid hpo
          have cki := (hI.cell (p := ⟨jk, i, none⟩) HJC.out.1).trans HJC.out.2.1
          have fki := ((Kept.of_below (fun _ => False) hI).frozen (p := ⟨jk, i, none⟩) HJC.out.1 (fun h => h)).trans HJC.out.2.2
          have HON3 : Hid (ONx D w1 (p.setCell ⟨jk, i, none⟩ (.pointer (some ⟨r.g, 0, none⟩))) c (some jp) (some jk) (.slice (some ⟨jp, 0, none⟩) (m + 1) cv) (.slice (some ⟨jk, 0, none⟩) mT kc) (ps.set i lq) (ks.set i r) (r :: xs)) := Lib.hid ((HON.out.add hI hnd).setK i hiks _ (List.mem_append.2 (.inr (List.mem_cons_self ..))))
          clear hnd hI hpo
          go_upto_region 10 with fail
          obtain ⟨q4, hq4⟩ : ∃ q4, q4 = p.setCell ⟨jk, i, none⟩ (.pointer (some ⟨r.g, 0, none⟩)) := ⟨_, rfl⟩
          rw [← hq4] at HON3 ⊢
          clear hq4 cki fki
          have HMC := Lib.hid (HMENDF.out r HPO.out q4 _ ⟨_, _, _, _, HON3.out⟩)
          go_wp2_with (go_at_call 72; refine HMC.out.mono ?_; rintro e q5 ⟨rfl, ps5, ks5, hon5, hm5⟩; have HON5 := Lib.hid hon5; have HM5 := Lib.hid hm5; clear hon5 hm5)
          go_ret
          exact HRESF.out r HPO.out _ _ _ _ HON5.out HM5.out
    · rw [decide_eq_false hfd]
      have HREC : Hid (∀ (E : Nat → Prop) (u : World), NdD E u C → Calls Try.prog 54 #[.pointer (some ⟨kg, 0, none⟩), .string key] u (DelRes E u k C key)) := Lib.hid (fun E u h => by rw [hkg]; exact HRC.out E u C key hCm HSK.out h (by rw [hC]; exact child_has hkl hsoT HPL.out hik hfd (by rw [← toL_eq]; exact HMEM.out)))
      have HMEND := Lib.hid (fun (r : BT) (hr : DelOf k C r key) => HMG.out ps key r (by rw [HPS.out]) hr)
      have HRES := Lib.hid (fun (r : BT) (hr : DelOf k C r key) => HRG.out ps key r (by rw [HPS.out]) hr (fun hl => by
        rw [toL_eq, HPS.out]
        exact del_inner hkl hsoT HPL.out hik hfd r (by rw [← hC]; exact hl)))
      clear hm hk0 hon hkw hC hCm hCw hCs hkm hmT hkcell hko hkg hbk hkl hkc hsoT hfd hob hik
      go_upto_region 9 with (go_at_call 69; refine HLF.out.mono ?_; rintro e w4 ⟨rfl, rfl⟩)
      refine Roll.region_f 14 77 Dre9 Lre9 [(0, .pointer (some ⟨tg, 0, none⟩)), (1, .string key), (5, .int .i64 (i : Int)), (7, .pointer (some ⟨c, 0, none⟩))] (fun p => Below q.heap.size q p) (fun p p2 => Below p.heap.size p p2) [fun vv p => vv = .pointer (some ⟨c, 0, none⟩), fun vv p => vv = .pointer (some ⟨c, 0, none⟩), fun vv p => vv = .pointer (some ⟨c, 1, none⟩), fun vv p => vv = .slice (some ⟨jk, 0, none⟩) mT kc, fun vv p => vv = .int .i64 (i : Int), fun vv p => vv = .pointer (some ⟨tg, 0, none⟩), fun vv p => vv = .pointer (some ⟨tg, 0, none⟩), fun vv p => vv = .pointer (some ⟨tg, 1, none⟩), fun vv p => vv = .slice (some ⟨bk, ok, none⟩) mT eT, fun vv p => vv = .int .i64 (i : Int), fun vv p => vv = .pointer (some ⟨bk, ob, none⟩), fun vv p => vv = .pointer (some ⟨kg, 0, none⟩), fun vv p => vv = .string key, fun vv p => ∃ r : BT, vv = .pointer (some ⟨r.g, 0, none⟩) ∧ NdD (fun b => Off D w1.heap.size c (some jp) (some jk) b ∨ q.heap.size ≤ b) p r ∧ DelOf k C r key] (by kernel_rfl) (by kernel_rfl) rfl ⟨rfl, rfl, rfl, rfl, trivial⟩ ((Below.refl _ _).drew) ?_ ?_ ?_
      · exact ⟨fun _ _ _ _ h => h, fun _ _ _ _ h => h, fun _ _ _ _ h => h, fun _ _ _ _ h => h, fun _ _ _ _ h => h, fun _ _ _ _ h => h, fun _ _ _ _ h => h, fun _ _ _ _ h => h, fun _ _ _ _ h => h, fun _ _ _ _ h => h, fun _ _ _ _ h => h, fun _ _ _ _ h => h, fun _ _ _ _ h => h, fun _ _ _ hs h => by obtain ⟨r, e1, e2, e3⟩ := h; exact ⟨r, e1, e2.under hs, e3⟩, trivial⟩
      · intro b0 hN hlv
        refine ⟨?_, ?_, ?_, ?_, ?_, ?_, ?_, ?_, ?_, ?_, ?_, ?_, ?_, ?_, trivial⟩
        · intro vs p hI hp
          have e7 : (Roll.putD Dre9 vs [] b0).eval (.tmp 7) = .pointer (some ⟨c, 0, none⟩) := (Roll.eval_old rfl).trans (hlv.at 3 (7, .pointer (some ⟨c, 0, none⟩)) rfl)
          clear hp hlv hN
          unfold Roll.Goes
          simp only [Lre9, List.getD_cons_zero, List.getD_cons_succ]
          generalize Roll.putD Dre9 vs [] b0 = a1 at *
          refine Roll.goes_val (w' := p) (.pointer (some ⟨c, 0, none⟩)) rfl ?_ ⟨hI, Below.refl _ _, rfl⟩
          (have ec : ∀ x, a1.eval (.const x) = x := fun _ => rfl); (have ef : ∀ x, a1.eval (.func x) = .func (.func x) #[] #[] := fun _ => rfl); generalize a1.eval = ρ at *
          skip
          go_simp <;> (intros; first | (exfalso; omega) | rfl)
        · intro vs p hI hp
          have h0 : (vs 0) = .pointer (some ⟨c, 0, none⟩) := hp 0 (by simp [Lre9])
          have e58 : (Roll.putD Dre9 vs [0] b0).eval (.tmp 58) = .pointer (some ⟨c, 0, none⟩) := (Roll.eval_new 0 rfl (by decide) (by decide) (by omega)).trans h0
          clear hp hlv hN
          unfold Roll.Goes
          simp only [Lre9, List.getD_cons_zero, List.getD_cons_succ]
          generalize Roll.putD Dre9 vs [0] b0 = a1 at *
          refine Roll.goes_val (w' := p) (.pointer (some ⟨c, 0, none⟩)) rfl ?_ ⟨hI, Below.refl _ _, rfl⟩
          (have ec : ∀ x, a1.eval (.const x) = x := fun _ => rfl); (have ef : ∀ x, a1.eval (.func x) = .func (.func x) #[] #[] := fun _ => rfl); generalize a1.eval = ρ at *
          clear h0
          go_simp <;> (intros; first | (exfalso; omega) | rfl)
        · intro vs p hI hp
          have h1 : (vs 1) = .pointer (some ⟨c, 0, none⟩) := hp 1 (by simp [Lre9])
          have e59 : (Roll.putD Dre9 vs [1] b0).eval (.tmp 59) = .pointer (some ⟨c, 0, none⟩) := (Roll.eval_new 1 rfl (by decide) (by decide) (by omega)).trans h1
          clear hp hlv hN
          unfold Roll.Goes
          simp only [Lre9, List.getD_cons_zero, List.getD_cons_succ]
          generalize Roll.putD Dre9 vs [1] b0 = a1 at *
          refine Roll.goes_val (w' := p) (.pointer (some ⟨c, 1, none⟩)) rfl ?_ ⟨hI, Below.refl _ _, rfl⟩
          (have ec : ∀ x, a1.eval (.const x) = x := fun _ => rfl); (have ef : ∀ x, a1.eval (.func x) = .func (.func x) #[] #[] := fun _ => rfl); generalize a1.eval = ρ at *
          clear h1
          go_simp <;> (intros; first | (exfalso; omega) | rfl)
        · intro vs p hI hp
          have h2 : (vs 2) = .pointer (some ⟨c, 1, none⟩) := hp 2 (by simp [Lre9])
          have e60 : (Roll.putD Dre9 vs [2] b0).eval (.tmp 60) = .pointer (some ⟨c, 1, none⟩) := (Roll.eval_new 2 rfl (by decide) (by decide) (by omega)).trans h2
          clear hp hlv hN
          unfold Roll.Goes
          simp only [Lre9, List.getD_cons_zero, List.getD_cons_succ]
          generalize Roll.putD Dre9 vs [2] b0 = a1 at *
          have cf : p.cell? ⟨c, 1, none⟩ = some (.slice (some ⟨jk, 0, none⟩) mT kc) := (hI.cell (p := ⟨c, 1, none⟩) HCL.out).trans C1.out
          refine Roll.goes_val (w' := p) (.slice (some ⟨jk, 0, none⟩) mT kc) rfl ?_ ⟨hI, Below.refl _ _, rfl⟩
          (have ec : ∀ x, a1.eval (.const x) = x := fun _ => rfl); (have ef : ∀ x, a1.eval (.func x) = .func (.func x) #[] #[] := fun _ => rfl); generalize a1.eval = ρ at *
          clear h2
          go_simp <;> (intros; first | (exfalso; omega) | rfl)
        · intro vs p hI hp
          have e5 : (Roll.putD Dre9 vs [] b0).eval (.tmp 5) = .int .i64 (i : Int) := (Roll.eval_old rfl).trans (hlv.at 2 (5, .int .i64 (i : Int)) rfl)
          clear hp hlv hN
          unfold Roll.Goes
          simp only [Lre9, List.getD_cons_zero, List.getD_cons_succ]
          generalize Roll.putD Dre9 vs [] b0 = a1 at *
          refine Roll.goes_val (w' := p) (.int .i64 (i : Int)) rfl ?_ ⟨hI, Below.refl _ _, rfl⟩
          (have ec : ∀ x, a1.eval (.const x) = x := fun _ => rfl); (have ef : ∀ x, a1.eval (.func x) = .func (.func x) #[] #[] := fun _ => rfl); generalize a1.eval = ρ at *
          skip
          go_simp <;> (intros; first | (exfalso; omega) | rfl)
        · intro vs p hI hp
          have e0 : (Roll.putD Dre9 vs [] b0).eval (.tmp 0) = .pointer (some ⟨tg, 0, none⟩) := (Roll.eval_old rfl).trans (hlv.at 0 (0, .pointer (some ⟨tg, 0, none⟩)) rfl)
          clear hp hlv hN
          unfold Roll.Goes
          simp only [Lre9, List.getD_cons_zero, List.getD_cons_succ]
          generalize Roll.putD Dre9 vs [] b0 = a1 at *
          refine Roll.goes_val (w' := p) (.pointer (some ⟨tg, 0, none⟩)) rfl ?_ ⟨hI, Below.refl _ _, rfl⟩
          (have ec : ∀ x, a1.eval (.const x) = x := fun _ => rfl); (have ef : ∀ x, a1.eval (.func x) = .func (.func x) #[] #[] := fun _ => rfl); generalize a1.eval = ρ at *
          skip
          go_simp <;> (intros; first | (exfalso; omega) | rfl)
        · intro vs p hI hp
          have h5 : (vs 5) = .pointer (some ⟨tg, 0, none⟩) := hp 5 (by simp [Lre9])
          have e63 : (Roll.putD Dre9 vs [5] b0).eval (.tmp 63) = .pointer (some ⟨tg, 0, none⟩) := (Roll.eval_new 5 rfl (by decide) (by decide) (by omega)).trans h5
          clear hp hlv hN
          unfold Roll.Goes
          simp only [Lre9, List.getD_cons_zero, List.getD_cons_succ]
          generalize Roll.putD Dre9 vs [5] b0 = a1 at *
          refine Roll.goes_val (w' := p) (.pointer (some ⟨tg, 0, none⟩)) rfl ?_ ⟨hI, Below.refl _ _, rfl⟩
          (have ec : ∀ x, a1.eval (.const x) = x := fun _ => rfl); (have ef : ∀ x, a1.eval (.func x) = .func (.func x) #[] #[] := fun _ => rfl); generalize a1.eval = ρ at *
          clear h5
          go_simp <;> (intros; first | (exfalso; omega) | rfl)
        · intro vs p hI hp
          have h6 : (vs 6) = .pointer (some ⟨tg, 0, none⟩) := hp 6 (by simp [Lre9])
          have e64 : (Roll.putD Dre9 vs [6] b0).eval (.tmp 64) = .pointer (some ⟨tg, 0, none⟩) := (Roll.eval_new 6 rfl (by decide) (by decide) (by omega)).trans h6
          clear hp hlv hN
          unfold Roll.Goes
          simp only [Lre9, List.getD_cons_zero, List.getD_cons_succ]
          generalize Roll.putD Dre9 vs [6] b0 = a1 at *
          refine Roll.goes_val (w' := p) (.pointer (some ⟨tg, 1, none⟩)) rfl ?_ ⟨hI, Below.refl _ _, rfl⟩
          (have ec : ∀ x, a1.eval (.const x) = x := fun _ => rfl); (have ef : ∀ x, a1.eval (.func x) = .func (.func x) #[] #[] := fun _ => rfl); generalize a1.eval = ρ at *
          clear h6
          go_simp <;> (intros; first | (exfalso; omega) | rfl)
        · intro vs p hI hp
          have h7 : (vs 7) = .pointer (some ⟨tg, 1, none⟩) := hp 7 (by simp [Lre9])
          have e65 : (Roll.putD Dre9 vs [7] b0).eval (.tmp 65) = .pointer (some ⟨tg, 1, none⟩) := (Roll.eval_new 7 rfl (by decide) (by decide) (by omega)).trans h7
          clear hp hlv hN
          unfold Roll.Goes
          simp only [Lre9, List.getD_cons_zero, List.getD_cons_succ]
          generalize Roll.putD Dre9 vs [7] b0 = a1 at *
          have cf : p.cell? ⟨tg, 1, none⟩ = some (.slice (some ⟨bk, ok, none⟩) mT eT) := (hI.cell (p := ⟨tg, 1, none⟩) HTL.out).trans CT1.out
          refine Roll.goes_val (w' := p) (.slice (some ⟨bk, ok, none⟩) mT eT) rfl ?_ ⟨hI, Below.refl _ _, rfl⟩
          (have ec : ∀ x, a1.eval (.const x) = x := fun _ => rfl); (have ef : ∀ x, a1.eval (.func x) = .func (.func x) #[] #[] := fun _ => rfl); generalize a1.eval = ρ at *
          clear h7
          go_simp <;> (intros; first | (exfalso; omega) | rfl)
        · intro vs p hI hp
          have e5 : (Roll.putD Dre9 vs [] b0).eval (.tmp 5) = .int .i64 (i : Int) := (Roll.eval_old rfl).trans (hlv.at 2 (5, .int .i64 (i : Int)) rfl)
          clear hp hlv hN
          unfold Roll.Goes
          simp only [Lre9, List.getD_cons_zero, List.getD_cons_succ]
          generalize Roll.putD Dre9 vs [] b0 = a1 at *
          refine Roll.goes_val (w' := p) (.int .i64 (i : Int)) rfl ?_ ⟨hI, Below.refl _ _, rfl⟩
          (have ec : ∀ x, a1.eval (.const x) = x := fun _ => rfl); (have ef : ∀ x, a1.eval (.func x) = .func (.func x) #[] #[] := fun _ => rfl); generalize a1.eval = ρ at *
          skip
          go_simp <;> (intros; first | (exfalso; omega) | rfl)
        · intro vs p hI hp
          have h8 : (vs 8) = .slice (some ⟨bk, ok, none⟩) mT eT := hp 8 (by simp [Lre9])
          have h9 : (vs 9) = .int .i64 (i : Int) := hp 9 (by simp [Lre9])
          have e66 : (Roll.putD Dre9 vs [8, 9] b0).eval (.tmp 66) = .slice (some ⟨bk, ok, none⟩) mT eT := (Roll.eval_new 8 rfl (by decide) (by decide) (by omega)).trans h8
          have e67 : (Roll.putD Dre9 vs [8, 9] b0).eval (.tmp 67) = .int .i64 (i : Int) := (Roll.eval_new 9 rfl (by decide) (by decide) (by omega)).trans h9
          clear hp hlv hN
          unfold Roll.Goes
          simp only [Lre9, List.getD_cons_zero, List.getD_cons_succ]
          generalize Roll.putD Dre9 vs [8, 9] b0 = a1 at *
          refine Roll.goes_val (w' := p) (.pointer (some ⟨bk, ob, none⟩)) rfl ?_ ⟨hI, Below.refl _ _, rfl⟩
          (have ec : ∀ x, a1.eval (.const x) = x := fun _ => rfl); (have ef : ∀ x, a1.eval (.func x) = .func (.func x) #[] #[] := fun _ => rfl); generalize a1.eval = ρ at *
          clear h8 h9
          go_simp <;> (intros; first | (exfalso; omega) | rfl)
        · intro vs p hI hp
          have h10 : (vs 10) = .pointer (some ⟨bk, ob, none⟩) := hp 10 (by simp [Lre9])
          have e68 : (Roll.putD Dre9 vs [10] b0).eval (.tmp 68) = .pointer (some ⟨bk, ob, none⟩) := (Roll.eval_new 10 rfl (by decide) (by decide) (by omega)).trans h10
          clear hp hlv hN
          unfold Roll.Goes
          simp only [Lre9, List.getD_cons_zero, List.getD_cons_succ]
          generalize Roll.putD Dre9 vs [10] b0 = a1 at *
          have cf : p.cell? ⟨bk, ob, none⟩ = some (.pointer (some ⟨kg, 0, none⟩)) := (hI.cell (p := ⟨bk, ob, none⟩) HBK.out).trans CKG.out
          refine Roll.goes_val (w' := p) (.pointer (some ⟨kg, 0, none⟩)) rfl ?_ ⟨hI, Below.refl _ _, rfl⟩
          (have ec : ∀ x, a1.eval (.const x) = x := fun _ => rfl); (have ef : ∀ x, a1.eval (.func x) = .func (.func x) #[] #[] := fun _ => rfl); generalize a1.eval = ρ at *
          clear h10
          go_simp <;> (intros; first | (exfalso; omega) | rfl)
        · intro vs p hI hp
          have e1 : (Roll.putD Dre9 vs [] b0).eval (.tmp 1) = .string key := (Roll.eval_old rfl).trans (hlv.at 1 (1, .string key) rfl)
          clear hp hlv hN
          unfold Roll.Goes
          simp only [Lre9, List.getD_cons_zero, List.getD_cons_succ]
          generalize Roll.putD Dre9 vs [] b0 = a1 at *
          refine Roll.goes_val (w' := p) (.string key) rfl ?_ ⟨hI, Below.refl _ _, rfl⟩
          (have ec : ∀ x, a1.eval (.const x) = x := fun _ => rfl); (have ef : ∀ x, a1.eval (.func x) = .func (.func x) #[] #[] := fun _ => rfl); generalize a1.eval = ρ at *
          skip
          go_simp <;> (intros; first | (exfalso; omega) | rfl)
        · intro vs p hI hp
          have h11 : (vs 11) = .pointer (some ⟨kg, 0, none⟩) := hp 11 (by simp [Lre9])
          have h12 : (vs 12) = .string key := hp 12 (by simp [Lre9])
          have e69 : (Roll.putD Dre9 vs [11, 12] b0).eval (.tmp 69) = .pointer (some ⟨kg, 0, none⟩) := (Roll.eval_new 11 rfl (by decide) (by decide) (by omega)).trans h11
          have e70 : (Roll.putD Dre9 vs [11, 12] b0).eval (.tmp 70) = .string key := (Roll.eval_new 12 rfl (by decide) (by decide) (by omega)).trans h12
          clear hp hlv hN
          unfold Roll.Goes
          simp only [Lre9, List.getD_cons_zero, List.getD_cons_succ]
          generalize Roll.putD Dre9 vs [11, 12] b0 = a1 at *
          refine Roll.goes_call 54 #[.pointer (some ⟨kg, 0, none⟩), .string key] p rfl (by have ec : ∀ x, a1.eval (.const x) = x := fun _ => rfl; have ef : ∀ x, a1.eval (.func x) = .func (.func x) #[] #[] := fun _ => rfl; generalize a1.eval = ρ at *; go_simp) ?_
          have hc := HREC.out (Off D w1.heap.size c (some jp) (some jk)) p ((HON.out.kids C (List.mem_append.2 (.inl HCM.out))).under hI)
          refine hc.mono ?_
          rintro y p2 ⟨r, rfl, hnd, hb2, hpo⟩
          exact ⟨_, rfl, hI.trans (hb2.mono hI.size), hb2, r, rfl, hnd.dom (fun b hb => hb.imp id (Nat.le_trans hI.size)), hpo⟩
      · intro vs p hI hR
        have h0 : (vs 0) = .pointer (some ⟨c, 0, none⟩) := hR 0 (by omega)
        have h1 : (vs 1) = .pointer (some ⟨c, 0, none⟩) := hR 1 (by omega)
        have h2 : (vs 2) = .pointer (some ⟨c, 1, none⟩) := hR 2 (by omega)
        have h3 : (vs 3) = .slice (some ⟨jk, 0, none⟩) mT kc := hR 3 (by omega)
        have h4 : (vs 4) = .int .i64 (i : Int) := hR 4 (by omega)
        have h5 : (vs 5) = .pointer (some ⟨tg, 0, none⟩) := hR 5 (by omega)
        have h6 : (vs 6) = .pointer (some ⟨tg, 0, none⟩) := hR 6 (by omega)
        have h7 : (vs 7) = .pointer (some ⟨tg, 1, none⟩) := hR 7 (by omega)
        have h8 : (vs 8) = .slice (some ⟨bk, ok, none⟩) mT eT := hR 8 (by omega)
        have h9 : (vs 9) = .int .i64 (i : Int) := hR 9 (by omega)
        have h10 : (vs 10) = .pointer (some ⟨bk, ob, none⟩) := hR 10 (by omega)
        have h11 : (vs 11) = .pointer (some ⟨kg, 0, none⟩) := hR 11 (by omega)
        have h12 : (vs 12) = .string key := hR 12 (by omega)
        have h13 : ∃ r : BT, (vs 13) = .pointer (some ⟨r.g, 0, none⟩) ∧ NdD (fun b => Off D w1.heap.size c (some jp) (some jk) b ∨ q.heap.size ≤ b) p r ∧ DelOf k C r key := hR 13 (by omega)
        clear hR
        simp only [List.range_succ, List.range_zero, List.nil_append, List.cons_append, Roll.putD, Act.put, List.getD_cons_zero, List.getD_cons_succ, List.setIfInBounds_toArray, List.set_cons_zero, List.set_cons_succ, List.drop_succ_cons, List.drop_zero, Dre9]
        simp only [h0, h1, h2, h3, h4, h5, h6, h7, h8, h9, h10, h11, h12]
        clear h0 h1 h2 h3 h4 h5 h6 h7 h8 h9 h10 h11 h12
        generalize vs 13 = v13 at *
        obtain ⟨r, rfl, hnd, hpo⟩ := h13
        have HPO := Lib.hid hpo
        have cki := (hI.cell (p := ⟨jk, i, none⟩) HJC.out.1).trans HJC.out.2.1
        have fki := ((Kept.of_below (fun _ => False) hI).frozen (p := ⟨jk, i, none⟩) HJC.out.1 (fun h => h)).trans HJC.out.2.2
        have HON3 : Hid (ONx D w1 (p.setCell ⟨jk, i, none⟩ (.pointer (some ⟨r.g, 0, none⟩))) c (some jp) (some jk) (.slice (some ⟨jp, 0, none⟩) (m + 1) cv) (.slice (some ⟨jk, 0, none⟩) mT kc) ps (ks.set i r) (r :: xs)) := Lib.hid ((HON.out.add hI hnd).setK i hiks _ (List.mem_append.2 (.inr (List.mem_cons_self ..))))
        clear hnd hI hpo
        go_upto_region 10 with fail
        obtain ⟨q4, hq4⟩ : ∃ q4, q4 = p.setCell ⟨jk, i, none⟩ (.pointer (some ⟨r.g, 0, none⟩)) := ⟨_, rfl⟩
        rw [← hq4] at HON3 ⊢
        clear hq4 cki fki
        have HMC := Lib.hid (HMEND.out r HPO.out q4 _ ⟨_, _, _, _, HON3.out⟩)
        go_wp2_with (go_at_call 72; refine HMC.out.mono ?_; rintro e q5 ⟨rfl, ps5, ks5, hon5, hm5⟩; have HON5 := Lib.hid hon5; have HM5 := Lib.hid hm5; clear hon5 hm5)
        go_ret
        exact HRES.out r HPO.out _ _ _ _ HON5.out HM5.out
end Go.Proofs.Ytfgmhidgkemfoaa
namespace Go.Proofs.Ytfgmhidgkemfoaa
open Go.RowKit
set_option linter.unusedSimpArgs false
set_option linter.unusedVariables false
theorem remove_any : ∀ (k : Nat) {D : Nat → Prop} {w : World} {T : BT} (key : ByteArray), NdD D w T → T.Sh k → T.ps.length ≤ 8 → 1 ≤ T.ps.length → Sorted T.toL → (∃ q ∈ T.toL, q.k = key) →
    Calls Try.prog 54 #[.pointer (some ⟨T.g, 0, none⟩), .string key] w (DelRes D w k T key)
  | 0, D, w, T, key, hT, hs, h8, h1, hso, hm => remove_step hT 0 hs h8 h1 hso key hm (fun E u C y hC _ _ _ => by
      rcases hs with ⟨-, h⟩ | ⟨h, -⟩
      · rw [h] at hC; cases hC
      · exact absurd rfl h)
  | k + 1, D, w, T, key, hT, hs, h8, h1, hso, hm => remove_step hT (k + 1) hs h8 h1 hso key hm (fun E u C y hC hsc hE hmy => by
      rcases hs with ⟨h, -⟩ | ⟨-, -, h⟩
      · omega
      · have hw := h C hC
        have hw2 := (wf_iff _ _).1 hw.1
        exact remove_any k y hE hw2.2 hw2.1 (by omega) hsc hmy)
theorem got_some {l : List KV} {key v : ByteArray} (h : gotF (floorL l key) key = some v) : KV.mk key v ∈ l := by
  unfold gotF at h
  cases hf : floorL l key with
  | none => rw [hf] at h; cases h
  | some p =>
    rw [hf] at h
    simp only at h
    split at h
    · rename_i e
      have hp : p ∈ l := by
        unfold floorL at hf
        exact (List.mem_filter.1 (List.mem_of_getLast? hf)).1
      have := Option.some.inj h
      obtain ⟨pk, pv⟩ := p
      simp only at e this
      rw [← e, ← this]
      exact hp
    · cases h
theorem floor_at {A B : List KV} {p : KV} (hs : Sorted (A ++ p :: B)) : floorL (A ++ p :: B) p.k = some p := by
  obtain ⟨hA, hB⟩ := sorted_around hs
  have e : A ++ p :: B = (A ++ [p]) ++ B := by simp
  rw [e, floorL_app, floorL_none B _ hB, Option.none_or, floorL_all, List.getLast?_append]
  · rfl
  · intro x hx
    rcases List.mem_append.1 hx with h | h
    · have := hA x h; omega
    · rw [List.mem_singleton.1 h, (cmpK_eq _ _).2 rfl]; omega
theorem got_mem {l : List KV} {p : KV} (hs : Sorted l) (hp : p ∈ l) : gotF (floorL l p.k) p.k = some p.v := by
  obtain ⟨A, B, rfl⟩ := List.append_of_mem hp
  rw [floor_at hs]
  simp [gotF]
theorem got_none {l : List KV} {key : ByteArray} (hs : Sorted l) (h : gotF (floorL l key) key = none) : ∀ p ∈ l, p.k ≠ key := fun p hp e => by
  have := got_mem hs hp
  rw [e, h] at this
  cases this
theorem insL_mem {l : List KV} {p q : KV} (hs : Sorted l) (hq : q ∈ l) (hk : q.k = p.k) : ∃ A B, l = A ++ q :: B ∧ insL l p = A ++ p :: B := by
  obtain ⟨A, B, rfl⟩ := List.append_of_mem hq
  obtain ⟨hA, hB⟩ := sorted_around hs
  rw [hk] at hA hB
  exact ⟨A, B, rfl, insL_old hA hB hk⟩
theorem insL_same {l : List KV} {p : KV} (hs : Sorted l) (hp : p ∈ l) : insL l p = l := by
  obtain ⟨A, B, e1, e2⟩ := insL_mem hs hp rfl
  rw [e2, ← e1]
theorem insL_len_old {l : List KV} {p q : KV} (hs : Sorted l) (hq : q ∈ l) (hk : q.k = p.k) : (insL l p).length = l.length := by
  obtain ⟨A, B, e1, e2⟩ := insL_mem hs hq hk
  rw [e2, e1]
  simp
theorem insL_len_new {p : KV} : ∀ {l : List KV}, (∀ q ∈ l, q.k ≠ p.k) → (insL l p).length = l.length + 1
  | [], _ => rfl
  | q :: l, h => by
    have ih := insL_len_new (l := l) (p := p) (fun x hx => h x (List.mem_cons_of_mem _ hx))
    have h1 : q.k ≠ p.k := h q (List.mem_cons_self ..)
    unfold insL at ih ⊢
    rw [List.length_append, List.length_cons] at ih ⊢
    have h2 : cmpK q.k p.k ≠ 0 := fun e => h1 ((cmpK_eq _ _).1 e)
    by_cases h3 : cmpK q.k p.k < 0
    · have h4 : ¬ 0 < cmpK q.k p.k := by omega
      rw [List.filter_cons_of_pos (by simpa using h3), List.filter_cons_of_neg (by simpa using h4), List.length_cons, List.length_cons]
      omega
    · have h4 : 0 < cmpK q.k p.k := by omega
      rw [List.filter_cons_of_neg (by simpa using h3), List.filter_cons_of_pos (by simpa using h4), List.length_cons, List.length_cons]
      omega
theorem insL_sorted {l : List KV} {p : KV} (hs : Sorted l) : Sorted (insL l p) := by
  unfold insL
  refine sorted_app.2 ⟨hs.sublist List.filter_sublist, sorted_cons.2 ⟨fun y hy => ?_, hs.sublist List.filter_sublist⟩, fun x hx y hy => ?_⟩
  · have h1 := List.mem_filter.1 hy
    have h2 : 0 < cmpK y.k p.k := by simpa using h1.2
    have := cmpK_flip y.k p.k
    omega
  · have h1 := List.mem_filter.1 hx
    have h2 : cmpK x.k p.k < 0 := by simpa using h1.2
    rcases List.mem_cons.1 hy with rfl | hy
    · exact h2
    · have h3 := List.mem_filter.1 hy
      have h4 : 0 < cmpK y.k p.k := by simpa using h3.2
      have h5 := cmpK_flip y.k p.k
      exact cmpK_trans h2 (by omega)
theorem insL_le (l : List KV) (p : KV) : (insL l p).length ≤ 2 * l.length + 1 := by
  unfold insL
  rw [List.length_append, List.length_cons]
  have h1 := List.length_filter_le (fun q : KV => decide (cmpK q.k p.k < 0)) l
  have h2 := List.length_filter_le (fun q : KV => decide (0 < cmpK q.k p.k)) l
  omega
theorem insL_len_le {l : List KV} {p : KV} (hs : Sorted l) : (insL l p).length ≤ l.length + 1 := by
  by_cases h : ∃ q ∈ l, q.k = p.k
  · obtain ⟨q, hq, e⟩ := h
    rw [insL_len_old hs hq e]
    omega
  · rw [insL_len_new (fun q hq e => h ⟨q, hq, e⟩)]
    omega
theorem delL_sorted {l : List KV} {key : ByteArray} (hs : Sorted l) : Sorted (delL l key) := hs.sublist List.filter_sublist
theorem delL_len {l : List KV} {q : KV} (hs : Sorted l) (hq : q ∈ l) : (delL l q.k).length + 1 = l.length := by
  obtain ⟨A, B, rfl⟩ := List.append_of_mem hq
  rw [delL_old hs]
  simp
  omega
theorem delL_le (l : List KV) (key : ByteArray) : (delL l key).length ≤ l.length := List.length_filter_le _ _
/-- the nodes of a tree that have a property -/
def tcnt (P : Nat → Bool) : Option BT → Nat
  | none => 0
  | some b => b.cnt P
/-- a tree that keeps the rules -/
structure TT (w : World) (g : Nat) (t : Option BT) (H : Nat) : Prop where
  tr : Tr w g t
  ok : TOk t H
  so : Sorted (treeL t)
theorem TT.under {w w' : World} (hb : Below w.heap.size w w') {g : Nat} {t : Option BT} {H : Nat} (h : TT w g t H) : TT w' g t H := ⟨h.tr.under hb, h.ok, h.so⟩
theorem TT.lt {w : World} {g : Nat} {t : Option BT} {H : Nat} (h : TT w g t H) : g < w.heap.size := by
  obtain ⟨v, h1, -⟩ := h.tr
  exact (Array.getElem?_eq_some_iff.1 h1).1
set_option maxRecDepth 100000 in
theorem new_any (w : World) : Calls Try.prog 12 #[] w fun e w' => ∃ g, e = .returned (.pointer (some ⟨g, 0, none⟩)) ∧ TT w' g none 0 ∧ w.heap.size ≤ g ∧ Below w.heap.size w w' := by
  go_enter Try.func12, Try.ntmps12
  go_wp2_with fail
  go_ret
  exact ⟨w.heap.size, rfl, ⟨⟨.pointer none, heap_new rfl, rfl⟩, rfl, List.Pairwise.nil⟩, Nat.le_refl _, (Below.refl _ _).alloc (Nat.le_refl _) _⟩
end Go.Proofs.Ytfgmhidgkemfoaa
namespace Go.Proofs.Ytfgmhidgkemfoaa
open Go.RowKit
open Go.ChangeMaps Go.MapKept
set_option linter.unusedSimpArgs false
set_option linter.unusedVariables false
def pk (g : Nat) : Value := .pointer (some ⟨g, 0, none⟩)
theorem pk_inj {a b : Nat} (h : pk a = pk b) : a = b := by simpa [pk] using h
def CB (w : World) (g : Nat) : Prop := ∃ cs ty, w.heap[g]? = some (.cells cs ty (0, 0))
theorem CB.kept {S : Nat → Prop} {w w' : World} (hk : Kept S w w') {g : Nat} (hs : ¬ S g) (h : CB w g) : CB w' g := by
  obtain ⟨cs, ty, h⟩ := h
  exact ⟨cs, ty, hk.heap h hs⟩
/-- block m is a set of nodes -/
def NS (w : World) (m : Nat) (L : List Nat) : Prop := ∃ es clock, w.heap[m]? = some (.map es clock) ∧ (∀ e ∈ es.toList, e.val = .bool true ∧ ∃ g, e.key = pk g ∧ CB w g) ∧ ∀ g, g ∈ L ↔ ∃ e ∈ es.toList, e.key = pk g
theorem NS.lt {w : World} {m : Nat} {L : List Nat} (h : NS w m L) : m < w.heap.size := by
  obtain ⟨es, clock, hb, _⟩ := h
  exact (Array.getElem?_eq_some_iff.1 hb).1
theorem NS.not_cb {w : World} {m g : Nat} {L : List Nat} (h : NS w m L) (hg : CB w g) : g ≠ m := by
  rintro rfl
  obtain ⟨es, clock, hb, _⟩ := h
  obtain ⟨cs, ty, hc⟩ := hg
  rw [hb] at hc
  cases hc
theorem NS.under {w w' : World} {m : Nat} {L : List Nat} (h : NS w m L) (hb : Below w.heap.size w w') : NS w' m L := by
  obtain ⟨es, clock, h1, h2, h3⟩ := h
  refine ⟨es, clock, (hb.block m (Array.getElem?_eq_some_iff.1 h1).1).trans h1, fun e he => ⟨(h2 e he).1, ?_⟩, h3⟩
  obtain ⟨g, e1, e2⟩ := (h2 e he).2
  exact ⟨g, e1, e2.kept (Kept.of_below (fun _ => False) hb) (fun h => h)⟩
theorem NS.made (w : World) : NS (w.alloc (.map #[] 0)) w.heap.size [] := ⟨#[], 0, heap_alloc_new w _, by simp, by simp⟩
section
variable {P : Program} {t kt el et : TypeId} {w : World} {m : Nat} {L : List Nat}
theorem run_eqp_in (d : Nat) {j : TypeInfo} (hk : P.underlying kt = some (.pointer el)) (hj : P.info? el = some j) (hsz : j.size ≠ 0) {a b : Nat} (ha : CB w a) (hb : CB w b) : (Op.equalIn (d + 1) kt (pk a) (pk b)).run P w = .ok (decide (a = b)) w := by
  obtain ⟨ca, ta, ha⟩ := ha
  obtain ⟨cb, tb, hb⟩ := hb
  by_cases hab : a = b
  · subst hab
    simp [Op.equalIn, pk, run_underlying hk, sizeOf, typeInfo, hj, hsz, run_sameAddr_same]
  · have hne : (⟨a, 0, none⟩ : Addr) ≠ ⟨b, 0, none⟩ := fun e => hab (by injection e)
    simp [Op.equalIn, pk, run_underlying hk, sizeOf, typeInfo, hj, hsz, run_sameAddr_other w hne ha hb, hab]
theorem run_eqp {j : TypeInfo} (hk : P.underlying kt = some (.pointer el)) (hj : P.info? el = some j) (hsz : j.size ≠ 0) {a b : Nat} (ha : CB w a) (hb : CB w b) : (Op.equal kt (pk a) (pk b)).run P w = .ok (decide (a = b)) w := run_eqp_in 9999 hk hj hsz ha hb
theorem find_asking {j : TypeInfo} (hk : P.underlying kt = some (.pointer el)) (hj : P.info? el = some j) (hsz : j.size ≠ 0) {g : Nat} (hg : CB w g) : ∀ (l : List MapEntry) (i : Nat), (∀ e ∈ l, ∃ g', e.key = pk g' ∧ CB w g') →
    ((Instr.findAsking kt (pk g) l i).run P w = .ok none w ∧ ∀ e ∈ l, e.key ≠ pk g) ∨ ∃ q e, (Instr.findAsking kt (pk g) l i).run P w = .ok (some (i + q, e.val)) w ∧ l[q]? = some e ∧ e.key = pk g
  | [], i, _ => .inl ⟨by simp [Instr.findAsking], by simp⟩
  | e :: l, i, h => by
    obtain ⟨g', e1, e2⟩ := h e (List.mem_cons_self ..)
    by_cases hgg : g = g'
    · subst hgg
      exact .inr ⟨0, e, by simp [Instr.findAsking, e1, run_eqp hk hj hsz hg hg], rfl, e1⟩
    · rcases find_asking hk hj hsz hg l (i + 1) (fun e he => h e (List.mem_cons_of_mem _ he)) with ⟨h1, h2⟩ | ⟨q, e', h1, h2, h3⟩
      · refine .inl ⟨by simp [Instr.findAsking, e1, run_eqp hk hj hsz hg e2, hgg, h1], fun x hx => ?_⟩
        rcases List.mem_cons.1 hx with rfl | hx
        · rw [e1]; exact fun e => hgg (pk_inj e).symm
        · exact h2 x hx
      · exact .inr ⟨q + 1, e', by simp [Instr.findAsking, e1, run_eqp hk hj hsz hg e2, hgg, h1]; omega, by simpa using h2, h3⟩
theorem find_key {j : TypeInfo} (hk : P.underlying kt = some (.pointer el)) (hj : P.info? el = some j) (hsz : j.size ≠ 0) {g : Nat} (hg : CB w g) (l : List MapEntry) (h : ∀ e ∈ l, ∃ g', e.key = pk g' ∧ CB w g') :
    ((Instr.findKey kt (pk g) l).run P w = .ok none w ∧ ∀ e ∈ l, e.key ≠ pk g) ∨ ∃ q e, (Instr.findKey kt (pk g) l).run P w = .ok (some (q, e.val)) w ∧ l[q]? = some e ∧ e.key = pk g := by
  cases l with
  | nil => exact .inl ⟨by simp [Instr.findKey, run_underlying hk, Instr.findNow], by simp⟩
  | cons e l =>
    have hn : Instr.findNow (.pointer el) (pk g) (e :: l) 0 = none := by
      obtain ⟨g', e1, -⟩ := h e (List.mem_cons_self ..)
      simp [Instr.findNow, Instr.sameNow, pk, e1]
    have hr : (Instr.findKey kt (pk g) (e :: l)).run P w = (Instr.findAsking kt (pk g) (e :: l)).run P w := by
      simp [Instr.findKey, run_underlying hk, hn]
    rw [hr]
    rcases find_asking hk hj hsz hg (e :: l) 0 h with h1 | ⟨q, e', h1, h2, h3⟩
    · exact .inl h1
    · exact .inr ⟨q, e', by rw [h1, Nat.zero_add], h2, h3⟩
theorem check_pk (hk : P.underlying kt = some (.pointer el)) (em : Bool) (g : Nat) : (Instr.checkKey em 10000 kt (pk g)).run P w = .ok () w := by
  show (Instr.checkKey em (9999 + 1) kt (pk g)).run P w = .ok () w
  unfold Instr.checkKey
  simp [run_underlying hk, pk]
/-- known[n] -/
theorem NS.look {j : TypeInfo} (h : NS w m L) (ht : P.underlying t = some (.map kt et)) (hk : P.underlying kt = some (.pointer el)) (hj : P.info? el = some j) (hsz : j.size ≠ 0) (hz : (zeroValue et).run P w = .ok (.bool false) w) {g : Nat} (hg : CB w g) :
    (Instr.lookup t (.map (some m)) (pk g) false).run P w = .ok (.bool (decide (g ∈ L))) w := by
  obtain ⟨es, clock, hb, h1, h2⟩ := h
  rcases find_key hk hj hsz hg es.toList (fun e he => (h1 e he).2) with ⟨f1, f2⟩ | ⟨q, e, f1, f2, f3⟩
  · have : ¬ g ∈ L := fun hL => by obtain ⟨e, he, hek⟩ := (h2 g).1 hL; exact f2 e he hek
    rw [decide_eq_false this]
    simp [Instr.lookup, run_underlying ht, MapKept.run_getObj_map hb, check_pk hk, f1, hz, Result.andThen]
  · have hm : e ∈ es.toList := List.mem_of_getElem? f2
    have : g ∈ L := (h2 g).2 ⟨e, hm, f3⟩
    rw [decide_eq_true this]
    simp [Instr.lookup, run_underlying ht, MapKept.run_getObj_map hb, check_pk hk, f1, (h1 e hm).1, Result.andThen]
/-- known[n] = true -/
theorem NS.put {j : TypeInfo} (h : NS w m L) (ht : P.underlying t = some (.map kt et)) (hk : P.underlying kt = some (.pointer el)) (hj : P.info? el = some j) (hsz : j.size ≠ 0) {g : Nat} (hg : CB w g) :
    ∃ w', (Instr.mapUpdate t (.map (some m)) (pk g) (.bool true)).run P w = .ok () w' ∧ NS w' m (g :: L) ∧ Kept (fun b => b = m) w w' ∧ w'.heap.size = w.heap.size := by
  have hns := h
  obtain ⟨es, clock, hb, h1, h2⟩ := h
  have hkept : ∀ o : Obj, Kept (fun b => b = m) w (setBlock w m o) ∧ (setBlock w m o).heap.size = w.heap.size := fun o =>
    ⟨⟨rfl, rfl, rfl, by simp [setBlock], fun b _ hb' => heap_setBlock_other hb _ hb'⟩, by simp [setBlock]⟩
  have hcb : ∀ o g', CB w g' → CB (setBlock w m o) g' := fun o g' hg' => hg'.kept (hkept o).1 (hns.not_cb hg')
  rcases find_key hk hj hsz hg es.toList (fun e he => (h1 e he).2) with ⟨f1, f2⟩ | ⟨q, e0, f1, f2, f3⟩
  · refine ⟨setBlock w m (.map (es.push ⟨pk g, .bool true, clock⟩) (clock + 1)), ?_, ⟨_, _, heap_setBlock_same hb _, ?_, ?_⟩, (hkept _).1, (hkept _).2⟩
    · simp [Instr.mapUpdate, run_underlying ht, MapKept.run_getObj_map hb, check_pk hk, f1, MapKept.run_setObj_map _ hb, Result.andThen, setBlock]
    · intro x hx
      simp only [Array.toList_push, List.mem_append, List.mem_singleton] at hx
      rcases hx with hx | rfl
      · obtain ⟨a1, g', a2, a3⟩ := h1 x hx
        exact ⟨a1, g', a2, hcb _ _ a3⟩
      · exact ⟨rfl, g, rfl, hcb _ _ hg⟩
    · intro g'
      simp only [Array.toList_push, List.mem_append, List.mem_cons, List.not_mem_nil, or_false]
      constructor
      · rintro (rfl | hL)
        · exact ⟨_, .inr rfl, rfl⟩
        · obtain ⟨e, he, hek⟩ := (h2 g').1 hL
          exact ⟨e, .inl he, hek⟩
      · rintro ⟨e, he | rfl, hek⟩
        · exact .inr ((h2 g').2 ⟨e, he, hek⟩)
        · exact .inl (pk_inj hek).symm
  · have hm0 : e0 ∈ es.toList := List.mem_of_getElem? f2
    have hjj : es[q]? = some e0 := by simpa using f2
    have hqs : q < es.size := (Array.getElem?_eq_some_iff.1 hjj).1
    have hqe : es[q] = e0 := (Array.getElem?_eq_some_iff.1 hjj).2
    have hlist : (es.modify q (fun e' => { e' with key := pk g, val := .bool true })).toList = es.toList := by
      rw [Array.toList_modify, modify_eq_set _ _ _ _ f2]
      have : ({ e0 with key := pk g, val := .bool true } : MapEntry) = e0 := by
        have a1 := (h1 e0 hm0).1
        cases e0
        simp only at a1 f3 ⊢
        rw [a1, f3]
      rw [this]
      apply List.ext_getElem?
      intro i
      rw [List.getElem?_set]
      split
      · rename_i h; subst h; rw [f2]; split
        · rfl
        · rename_i h; exact absurd (List.getElem?_eq_some_iff.1 f2).1 h
      · rfl
    have hst : (Instr.keyThatStays (pk g) (pk g)).run P w = .ok (pk g) w := by
      simp [Instr.keyThatStays, Instr.sameBits, pk]
    refine ⟨setBlock w m (.map (es.modify q (fun e' => { e' with key := pk g, val := .bool true })) clock), ?_, ⟨_, _, heap_setBlock_same hb _, ?_, ?_⟩, (hkept _).1, (hkept _).2⟩
    · simp [Instr.mapUpdate, run_underlying ht, MapKept.run_getObj_map hb, check_pk hk, f1, hjj, f3, hst, MapKept.run_setObj_map _ hb, Result.andThen, setBlock]
    · intro x hx
      rw [hlist] at hx
      obtain ⟨a1, g', a2, a3⟩ := h1 x hx
      exact ⟨a1, g', a2, hcb _ _ a3⟩
    · intro g'
      rw [hlist, ← h2 g', List.mem_cons]
      exact ⟨fun h => h.elim (fun e => by rw [e]; exact (h2 g).2 ⟨e0, hm0, f3⟩) id, .inr⟩
end
end Go.Proofs.Ytfgmhidgkemfoaa

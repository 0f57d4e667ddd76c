/-
  Texts PG, PH, OH, PI, P0, P1, NW, NX, NY, NZ, O1, O2, O6, one behind the other.
-/
import Derived.WalkKit
import Derived.WalkSpells
import Derived.WalkLawsBesides
import Derived.Laws.AppendOwn
import Derived.Laws.OwnMore
import Derived.Deep.AppendSrc
import Derived.Deep.MidRow
import Derived.Lib.Hide
import GoSem.Claim
import Derived.Lib.Bytealg
import Derived.Laws.Externs
import Derived.Deep.QuietTactic
import Derived.BigQuiet
import Derived.Deep.CutBlock
import Derived.OwnWalk
import Derived.Deep.DrawnRows
import Derived.Deep.CutRange
import Derived.Deep.LoopGhost
import Derived.Laws.Tables
import Derived.Laws.ResultCell
import Derived.Deep.WholeRow
import Derived.Lib.Strings
import Derived.Shelf.Spec.SlicesInsert
import Derived.Lib.AppendZerosOnto
import Derived.Lib.Overlaps
import Derived.Laws.CopyRow
import Derived.Deep.RegionLaw
import Derived.StillTailTactics
import Derived.LaidEql
import Derived.MapKept
import Derived.ChangeMaps
import Derived.Carry
import Derived.Orders
import Derived.Tactics
import Derived.ProofKit
import Derived.OpenShut
import Derived.Deep.Slices
import Derived.Deep.Fields
import Derived.JoinedCond
import Derived.ChangeMaps5
import Derived.RangeFuncNested
import Derived.RangeFuncBound
import Derived.RangeFuncCalls
import Derived.RangeFuncLeaves
import Derived.Shelf.Abstract
import Derived.Shelf.RegionOpen
import Derived.OwnWalkIn
import Derived.TacticsInMore
import Derived.LoopNIn
import Derived.LoopIn
import Derived.RangeFuncBox
import Derived.Test.YtfgmhidgkemfoaaRows
import Derived.Test.YtfgmhidgkemfoaaProg
import Derived.Test.YtfgmhidgkemfoaaChecked
import Derived.Test.YtfgmhidgkemfoaaZT503
namespace Go.Proofs.Ytfgmhidgkemfoaa
open Go.RowKit
set_option linter.unusedSimpArgs false
set_option linter.unusedVariables false
mutual
theorem cnt_mono {P Q : Nat → Bool} (h : ∀ g, P g = true → Q g = true) : ∀ T : BT, T.cnt P ≤ T.cnt Q
  | .mk g ps ks => by
    rw [cnt_mk, cnt_mk]
    have h1 := cntL_mono h ks
    have h2 : (P g).toNat ≤ (Q g).toNat := by
      cases hp : P g with
      | false => exact Nat.zero_le _
      | true => rw [h g hp]; exact Nat.le_refl _
    omega
theorem cntL_mono {P Q : Nat → Bool} (h : ∀ g, P g = true → Q g = true) : ∀ ks : List BT, cntL P ks ≤ cntL Q ks
  | [] => by rw [cntL_nil, cntL_nil]; exact Nat.le_refl _
  | k :: ks => by
    rw [cntL_cons, cntL_cons]
    have h1 := cnt_mono h k
    have h2 := cntL_mono h ks
    omega
end
theorem cntL_mem (P : Nat → Bool) : ∀ {ks : List BT} {k : BT}, k ∈ ks → k.cnt P ≤ cntL P ks
  | k0 :: ks, k, h => by
    rw [cntL_cons]
    rcases List.mem_cons.1 h with rfl | h
    · omega
    · have := cntL_mem P h; omega
theorem cntL_take (P : Nat → Bool) (ks : List BT) (j : Nat) (hj : j < ks.length) : cntL P (ks.take (j + 1)) = cntL P (ks.take j) + ks[j].cnt P := by
  rw [List.take_succ_eq_append_getElem hj, cntL_app, cntL_cons, cntL_nil, Nat.add_zero]
theorem cntL_take_le (P : Nat → Bool) (ks : List BT) (j : Nat) : cntL P (ks.take j) ≤ cntL P ks := by
  have h := cntL_app P (ks.take j) (ks.drop j)
  rw [List.take_append_drop] at h
  omega
theorem info_node : (Try.prog.info? 94).map (fun i => i.size) = some 2 := by kernel_rfl
theorem node_size : ∃ j : TypeInfo, Try.prog.info? 94 = some j ∧ j.size ≠ 0 := by
  obtain ⟨j, h1, h2⟩ := Option.map_eq_some_iff.1 info_node
  exact ⟨j, h1, by rw [h2]; decide⟩
/-- Fresh's variables -/
structure FV (w : World) (bk bc m : Nat) : Prop where
  k : w.heap[bk]? = some (.cells #[.map (some m)] 103 (0, 0))
  c : w.heap[bc]? = some (.cells #[.func (.func 56) #[] #[.pointer (some ⟨bk, 0, none⟩), .pointer (some ⟨bc, 0, none⟩)]] 104 (0, 0))
theorem FV.kept {w w' : World} {bk bc m : Nat} {L : List Nat} (h : FV w bk bc m) (hs : NS w m L) (hk : Kept (fun b => b = m) w w') : FV w' bk bc m :=
  ⟨hk.heap h.k (hs.not_cb ⟨_, _, h.k⟩), hk.heap h.c (hs.not_cb ⟨_, _, h.c⟩)⟩
def Col (m : Nat) (L : List Nat) (z : (Nat → Bool) → Nat) (w : World) (e : Ending) (w' : World) : Prop := e = .returned (.tuple #[]) ∧ ∃ L', NS w' m L' ∧ (∀ g ∈ L, g ∈ L') ∧ (∀ P : Nat → Bool, (∀ g ∈ L', P g = false) → z P = 0) ∧ Kept (fun b => b = m) w w'
set_option maxRecDepth 100000 in
set_option maxHeartbeats 1000000 in
theorem collect_any (bk bc m : Nat) : ∀ (N : Nat) (T : BT), T.cnt (fun _ => true) ≤ N → ∀ (w : World) (L : List Nat), NdD (fun b => b ≠ m) w T → FV w bk bc m → NS w m L →
    Calls Try.prog 56 #[.pointer (some ⟨T.g, 0, none⟩), .pointer (some ⟨bk, 0, none⟩), .pointer (some ⟨bc, 0, none⟩)] w (Col m L (fun P => T.cnt P) w)
  | 0, T, hN, _, _, _, _, _ => by
    rw [cnt_eq] at hN
    have : (true : Bool).toNat = 1 := rfl
    omega
  | N + 1, T, hN, w, L, hT, hV, hS => by
    have ih := collect_any bk bc m N
    obtain ⟨jn, hj1, hj2⟩ := node_size
    obtain ⟨a, n, c, b, mm, e, hgm, hh, c0, c1, hps, hks, hkd⟩ := hT.facts
    obtain ⟨w2, hmu, hS2, hK2, hsz⟩ := hS.put (P := Try.prog) (t := 103) (kt := 85) (et := 4) Try.underlying103 Try.underlying85 hj1 hj2 (g := T.g) ⟨_, _, hh⟩
    unfold pk at hmu
    have hT2 := hT.kept hK2 (fun _ _ hd => hd)
    have hV2 := hV.kept hS hK2
    obtain ⟨tg, htg⟩ : ∃ tg, tg = T.g := ⟨_, rfl⟩
    have c12 : w2.cell? ⟨tg, 1, none⟩ = some (.slice b mm e) := by
      rw [htg]
      exact (hK2.cell (p := ⟨T.g, 1, none⟩) (Array.getElem?_eq_some_iff.1 hh).1 hgm).trans c1
    have ck := cell_of_row w bk 0 _ _ _ hV.k
    have hmm : mm = T.ks.length := by have := hks.1; rw [List.length_map] at this; exact this.symm
    have hme : mm ≤ e := hks.2.2.1
    have he63 : e ≤ 9223372036854775807 := hks.2.2.2.1
    rw [← htg] at hmu hS2 ⊢
    have HT2 := Lib.hid hT2
    have HV2 := Lib.hid hV2
    have HS2 := Lib.hid hS2
    have HK2 := Lib.hid hK2
    have HMM := Lib.hid hmm
    have HN := Lib.hid hN
    have HTG := Lib.hid htg
    have HIH := Lib.hid ih
    clear hT hV hS hh c0 c1 hps hks hkd hT2 hV2 hS2 hK2 hmm hN htg ih hgm hj1 hj2 hsz
    go_enter Try.func56, Try.ntmps56
    go_upto_region 2 with fail
    clear hmu ck
    go_wp2
    go_loopw [15] (fun u wr => ∃ (j : Nat) (L' : List Nat), u = .int .i64 (j : Int) ∧ j ≤ mm ∧ NS wr m L' ∧ (∀ g ∈ tg :: L, g ∈ L') ∧ (∀ P : Nat → Bool, (∀ g ∈ L', P g = false) → cntL P (T.ks.take j) = 0) ∧ Kept (fun b => b = m) w2 wr) (fun u _ => mm - (intOf u).toNat)
    case atStart => exact ⟨0, _, rfl, Nat.zero_le _, HS2.out, fun _ h => h, fun P _ => by rw [List.take_zero, cntL_nil], Kept.refl _ _⟩
    case round =>
      obtain ⟨j, L', rfl, hj, hS', hsub, hz, hk⟩ := hrel
      have HS' := Lib.hid hS'
      have HSUB := Lib.hid hsub
      have HZ := Lib.hid hz
      have HK := Lib.hid hk
      clear hS' hsub hz hk
      by_cases hjm : j < mm
      · have hlt2 : (j : Int) < (mm : Int) := by omega
        have hjk : j < T.ks.length := by rw [← HMM.out]; exact hjm
        have hTr := HT2.out.kept HK.out (fun _ _ hd => hd)
        have hVr := HV2.out.kept HS2.out HK.out
        obtain ⟨a', n', c', b', mm', e', hgm', hh', -, c1', -, hks', hkd'⟩ := hTr.facts
        have hc1r : wr.cell? ⟨T.g, 1, none⟩ = some (.slice b mm e) := by
          have h1 := c12
          rw [HTG.out] at h1
          obtain ⟨_, _, _, _, _, _, hgm2, hh2, -⟩ := HT2.out.facts
          exact (HK.out.cell (p := ⟨T.g, 1, none⟩) (Array.getElem?_eq_some_iff.1 hh2).1 hgm2).trans h1
        have hsame := Option.some.inj (c1'.symm.trans hc1r)
        simp only [Value.slice.injEq] at hsame
        obtain ⟨rfl, rfl, rfl⟩ := hsame
        obtain ⟨bb, off, -, hbb, rfl, hcell⟩ := hks'.cells (by omega)
        have ci := hcell j (by rw [List.length_map]; exact hjk)
        rw [List.getElem_map] at ci
        have hkj := hkd' _ (List.getElem_mem hjk)
        obtain ⟨k, hkk⟩ : ∃ k, k = T.ks[j]'hjk := ⟨_, rfl⟩
        rw [← hkk] at ci hkj
        have HCALL := Lib.hid (HIH.out k (by
          have h1 := HN.out
          rw [cnt_eq] at h1
          have h2 := cntL_mem (fun _ => true) (List.getElem_mem hjk)
          rw [← hkk] at h2
          have : (true : Bool).toNat = 1 := rfl
          omega) wr L' hkj hVr HS'.out)
        have HST : Hid (∀ P : Nat → Bool, cntL P (T.ks.take (j + 1)) = cntL P (T.ks.take j) + k.cnt P) := Lib.hid (fun P => by rw [hkk]; exact cntL_take P T.ks j hjk)
        obtain ⟨kg, hkg⟩ : ∃ kg, kg = k.g := ⟨_, rfl⟩
        rw [← hkg] at ci HCALL
        have cc := cell_of_row wr bc 0 _ _ _ hVr.c
        have hwi : IntKind.i64.wrap ((j : Int) + 1) = (j : Int) + 1 := i64_id _ (by omega) (by omega)
        have HJM := Lib.hid hjm
        clear hTr hVr c1' hks' hkd' hc1r hcell hkj hkk hkg hjk hjm hh' hgm' c12
        go_wp2_with (go_at_call 56; refine HCALL.out.mono ?_; rintro e2 w3 ⟨rfl, L3, hs3, hsb3, hz3, hk3⟩; have HS3 := Lib.hid hs3; have HSB3 := Lib.hid hsb3; have HZ3 := Lib.hid hz3; have HK3 := Lib.hid hk3; clear hs3 hsb3 hz3 hk3)
        go_roundw
        case rel => exact ⟨j + 1, L3, by go_num, by have := HJM.out; omega, HS3.out, fun g hg => HSB3.out g (HSUB.out g hg), fun P hP => by rw [HST.out, HZ.out P (fun g hg => hP g (HSB3.out g hg)), HZ3.out P hP], HK.out.trans HK3.out (fun _ _ h => h)⟩
        case measure => (try go_num); (try (simp only [intOf])); have := HJM.out; omega
      · have hlt2 : ¬ (j : Int) < (mm : Int) := by omega
        have hjj : j = T.ks.length := by have := HMM.out; omega
        have HJ := Lib.hid hjj
        clear hjm hj hjj
        go_wp2
        go_end0
        refine ⟨rfl, L', HS'.out, fun g hg => HSUB.out g (List.mem_cons_of_mem _ hg), fun P hP => ?_, HK2.out.trans HK.out (fun _ _ h => h)⟩
        have h1 := HZ.out P hP
        rw [HJ.out, List.take_length] at h1
        show T.cnt P = 0
        rw [cnt_eq, h1, ← HTG.out, hP tg (HSUB.out tg (List.mem_cons_self ..))]
        rfl
end Go.Proofs.Ytfgmhidgkemfoaa
namespace Go.Proofs.Ytfgmhidgkemfoaa
open Go.RowKit
set_option linter.unusedSimpArgs false
set_option linter.unusedVariables false
theorem zero_bool (w : World) : (zeroValue 4).run Try.prog w = .ok (.bool false) w := by kernel_rfl
structure FW (w : World) (bk bd m : Nat) : Prop where
  k : w.heap[bk]? = some (.cells #[.map (some m)] 103 (0, 0))
  d : w.heap[bd]? = some (.cells #[.func (.func 57) #[] #[.pointer (some ⟨bk, 0, none⟩), .pointer (some ⟨bd, 0, none⟩)]] 105 (0, 0))
def unk (L : List Nat) : Nat → Bool := fun g => decide (g ∉ L)
def CntP (L : List Nat) (z : (Nat → Bool) → Nat) (w : World) (e : Ending) (w' : World) : Prop := ∃ k : Nat, e = .returned (.int .i64 (k : Int)) ∧ k ≤ z (unk L) ∧ w = w'
set_option maxRecDepth 100000 in
set_option maxHeartbeats 1000000 in
theorem count_any (bk bd m : Nat) (L : List Nat) (w : World) (hV : FW w bk bd m) (hS : NS w m L) : ∀ (N : Nat), N ≤ 1000000 → ∀ (T : BT), T.cnt (fun _ => true) ≤ N → NdD (fun _ => True) w T →
    Calls Try.prog 57 #[.pointer (some ⟨T.g, 0, none⟩), .pointer (some ⟨bk, 0, none⟩), .pointer (some ⟨bd, 0, none⟩)] w (CntP L (fun P => T.cnt P) w)
  | 0, _, T, hN, _ => by
    rw [cnt_eq] at hN
    have : (true : Bool).toNat = 1 := rfl
    omega
  | N + 1, h63, T, hN, hT => by
    have ih := count_any bk bd m L w hV hS N (by omega)
    obtain ⟨jn, hj1, hj2⟩ := node_size
    obtain ⟨a, n, c, b, mm, e, hgm, hh, c0, c1, hps, hks, hkd⟩ := hT.facts
    have hlk := hS.look (P := Try.prog) (t := 103) (kt := 85) (et := 4) Try.underlying103 Try.underlying85 hj1 hj2 (zero_bool w) (g := T.g) ⟨_, _, hh⟩
    unfold pk at hlk
    have hcnt := cnt_eq (unk L) T
    have hle : T.cnt (unk L) ≤ N + 1 := Nat.le_trans (cnt_mono (fun _ _ => rfl) T) hN
    obtain ⟨tg, htg⟩ : ∃ tg, tg = T.g := ⟨_, rfl⟩
    rw [← htg] at hlk c1 hcnt ⊢
    have ck := cell_of_row w bk 0 _ _ _ hV.k
    have cd := cell_of_row w bd 0 _ _ _ hV.d
    by_cases hmem : tg ∈ L
    · rw [decide_eq_true hmem] at hlk
      clear ih hcnt hle hmem hks hkd hps hh hj1 hj2 c0 htg
      go_enter Try.func57, Try.ntmps57
      go_wp2
      go_ret
      exact ⟨0, rfl, Nat.zero_le _, rfl⟩
    · rw [decide_eq_false hmem] at hlk
      have hmm : mm = T.ks.length := by have := hks.1; rw [List.length_map] at this; exact this.symm
      have hme : mm ≤ e := hks.2.2.1
      have he63 : e ≤ 9223372036854775807 := hks.2.2.2.1
      have hu : unk L tg = true := decide_eq_true hmem
      rw [hu, show (true : Bool).toNat = 1 from rfl] at hcnt
      have HKS := Lib.hid hks
      have HKD := Lib.hid hkd
      have HMM := Lib.hid hmm
      have HN := Lib.hid hN
      have HIH := Lib.hid ih
      have HCNT := Lib.hid hcnt
      have HLE : Hid (1 + cntL (unk L) T.ks ≤ 1000000) := Lib.hid (by omega)
      clear ih hcnt hle hmem hks hkd hps hh hj1 hj2 c0 htg hmm hN h63 hu
      go_enter Try.func57, Try.ntmps57
      go_upto_region 4 with fail
      clear hlk ck
      go_wp2
      go_loopw [5, 20] (fun u v wr => ∃ (s j : Nat), u = .int .i64 (s : Int) ∧ v = .int .i64 (j : Int) ∧ j ≤ mm ∧ s ≤ 1 + cntL (unk L) (T.ks.take j) ∧ wr = w) (fun _ u _ => mm - (intOf u).toNat)
      case atStart => exact ⟨1, 0, rfl, rfl, Nat.zero_le _, by omega, rfl⟩
      case round =>
        obtain ⟨s, j, rfl, rfl, hj, hs, rfl⟩ := hrel
        have hs2 := Nat.le_trans hs (Nat.add_le_add_left (cntL_take_le (unk L) T.ks j) 1)
        by_cases hjm : j < mm
        · have hlt2 : (j : Int) < (mm : Int) := by omega
          have hjk : j < T.ks.length := by rw [← HMM.out]; exact hjm
          obtain ⟨bb, off, -, hbb, rfl, hcell⟩ := HKS.out.cells (by omega)
          have ci := hcell j (by rw [List.length_map]; exact hjk)
          rw [List.getElem_map] at ci
          have hkj := HKD.out _ (List.getElem_mem hjk)
          have hst := cntL_take (unk L) T.ks j hjk
          have hst2 := cntL_take_le (unk L) T.ks (j + 1)
          obtain ⟨k, hkk⟩ : ∃ k, k = T.ks[j]'hjk := ⟨_, rfl⟩
          rw [← hkk] at ci hkj hst
          have HCALL := Lib.hid (HIH.out k (by
            have h1 := HN.out
            rw [cnt_eq] at h1
            have h2 := cntL_mem (fun _ => true) (List.getElem_mem hjk)
            rw [← hkk] at h2
            have : (true : Bool).toNat = 1 := rfl
            omega) hkj)
          have HWR : Hid (∀ q : Nat, q ≤ k.cnt (unk L) → IntKind.i64.wrap ((s : Int) + (q : Int)) = ((s + q : Nat) : Int) ∧ s + q ≤ 1 + cntL (unk L) (T.ks.take (j + 1))) := Lib.hid (fun q hq => by
            have := HLE.out
            refine ⟨?_, by omega⟩
            rw [i64_id _ (by omega) (by omega)]
            omega)
          obtain ⟨kg, hkg⟩ : ∃ kg, kg = k.g := ⟨_, rfl⟩
          rw [← hkg] at ci HCALL
          have hwi : IntKind.i64.wrap ((j : Int) + 1) = (j : Int) + 1 := i64_id _ (by omega) (by omega)
          have HJM := Lib.hid hjm
          clear hcell hkj hkk hkg hjk hjm hs hs2 hst hst2
          go_wp2_with (go_at_call 57; refine HCALL.out.mono ?_; rintro e2 w3 ⟨q, rfl, hq, rfl⟩; obtain ⟨hwq, hsq⟩ := HWR.out q hq; have HSQ := Lib.hid hsq; clear hq hsq)
          go_roundw
          case rel => exact ⟨s + q, j + 1, rfl, by go_num, by have := HJM.out; omega, HSQ.out, by first | trivial | rfl⟩
          case measure => (try go_num); (try (simp only [intOf])); have := HJM.out; omega
        · have hlt2 : ¬ (j : Int) < (mm : Int) := by omega
          have hjj : j = T.ks.length := by have := HMM.out; omega
          have HR : Hid (s ≤ T.cnt (unk L)) := Lib.hid (by
            rw [HCNT.out]
            rw [hjj, List.take_length] at hs
            exact hs)
          clear hjm hj hjj hs hs2
          go_wp2
          go_ret
          exact ⟨s, rfl, HR.out, rfl⟩
/-- the root of a tree -/
def RootD (D : Nat → Prop) (w : World) (v : Value) (t : Option BT) : Prop := match t with
  | none => v = .pointer none
  | some T => v = .pointer (some ⟨T.g, 0, none⟩) ∧ NdD D w T
set_option maxRecDepth 100000 in
theorem collect_root {w : World} {bk bc m : Nat} {L : List Nat} {v : Value} {t : Option BT} (hr : RootD (fun b => b ≠ m) w v t) (hV : FV w bk bc m) (hS : NS w m L) :
    Calls Try.prog 56 #[v, .pointer (some ⟨bk, 0, none⟩), .pointer (some ⟨bc, 0, none⟩)] w (Col m L (fun P => tcnt P t) w) := by
  cases t with
  | some T =>
    obtain ⟨rfl, hT⟩ := hr
    exact collect_any bk bc m _ T (Nat.le_refl _) w L hT hV hS
  | none =>
    have hv : v = .pointer none := hr
    subst hv
    have HS := Lib.hid hS
    clear hr hV hS
    go_enter Try.func56, Try.ntmps56
    go_wp2
    exact bodyPost_ret (results_none rfl _ _ _) rfl ⟨rfl, L, HS.out, fun _ h => h, fun _ _ => rfl, Kept.refl _ _⟩
set_option maxRecDepth 100000 in
theorem count_root {w : World} {bk bd m : Nat} {L : List Nat} {v : Value} {t : Option BT} (hr : RootD (fun _ => True) w v t) (hN : tcnt (fun _ => true) t ≤ 1000000) (hV : FW w bk bd m) (hS : NS w m L) :
    Calls Try.prog 57 #[v, .pointer (some ⟨bk, 0, none⟩), .pointer (some ⟨bd, 0, none⟩)] w (CntP L (fun P => tcnt P t) w) := by
  cases t with
  | some T =>
    obtain ⟨rfl, hT⟩ := hr
    exact count_any bk bd m L w hV hS 1000000 (Nat.le_refl _) T hN hT
  | none =>
    have hv : v = .pointer none := hr
    subst hv
    clear hr hV hS hN
    go_enter Try.func57, Try.ntmps57
    go_wp2
    go_ret
    exact ⟨0, rfl, Nat.zero_le _, rfl⟩
end Go.Proofs.Ytfgmhidgkemfoaa
namespace Go.Proofs.Ytfgmhidgkemfoaa
open Go.RowKit
set_option linter.unusedSimpArgs false
set_option linter.unusedVariables false
theorem toLs_len1 : ∀ (ps : List KV) (ks : List BT), ks.length = ps.length + 1 → (toLs ps ks).length + 1 = (ks.map fun k => k.toL.length + 1).sum
  | [], [k], _ => by rw [toLs_last]; simp
  | [], k :: k2 :: ks, h => by simp at h
  | [], [], h => by simp at h
  | p :: ps, [], h => by simp at h
  | p :: ps, k :: ks, h => by
    have := toLs_len1 ps ks (by simpa using h)
    rw [toLs_cons, List.map_cons, List.sum_cons, ← this]
    simp only [List.length_append, List.length_cons]
    omega
theorem sum_bounds (f : BT → Nat) (lo hi : Nat) : ∀ ks : List BT, (∀ k ∈ ks, lo ≤ f k ∧ f k ≤ hi) → ks.length * lo ≤ (ks.map f).sum ∧ (ks.map f).sum ≤ ks.length * hi
  | [], _ => by simp
  | k :: ks, h => by
    have h1 := sum_bounds f lo hi ks (fun x hx => h x (List.mem_cons_of_mem _ hx))
    have h2 := h k (List.mem_cons_self ..)
    rw [List.map_cons, List.sum_cons, List.length_cons, Nat.add_mul, Nat.add_mul]
    omega
theorem wf_bounds : ∀ (h : Nat) (T : BT), T.Wf h → (3 ≤ T.ps.length → 4 ^ h ≤ T.toL.length + 1) ∧ T.toL.length + 1 ≤ 9 ^ h ∧ (1 ≤ T.ps.length → 2 * 4 ^ (h - 1) ≤ T.toL.length + 1)
  | 0, _, hw => hw.elim
  | h + 1, T, hw => by
    obtain ⟨h8, ⟨rfl, hk⟩ | ⟨h0, hl, hall⟩⟩ := hw
    · have e : T.toL.length = T.ps.length := by rw [toL_eq, hk, toLs_leaf]
      rw [e]
      refine ⟨fun h3 => ?_, ?_, fun h1 => ?_⟩
      · simp; omega
      · simp; omega
      · simp; omega
    · have e : T.toL.length + 1 = (T.ks.map fun k => k.toL.length + 1).sum := by rw [toL_eq]; exact toLs_len1 _ _ hl
      have hs := sum_bounds (fun k => k.toL.length + 1) (4 ^ h) (9 ^ h) T.ks (fun k hk => by
        obtain ⟨h1, h2⟩ := hall k hk
        have h3 := wf_bounds h k h1
        exact ⟨h3.1 h2, h3.2.1⟩)
      rw [← e, hl] at hs
      refine ⟨fun h3 => Nat.le_trans ?_ hs.1, Nat.le_trans hs.2 ?_, fun h1 => Nat.le_trans ?_ hs.1⟩
      · rw [Nat.pow_succ, Nat.mul_comm]; exact Nat.mul_le_mul_right _ (by omega)
      · rw [Nat.pow_succ, Nat.mul_comm]; exact Nat.mul_le_mul_left _ (by omega)
      · rw [Nat.add_sub_cancel]; exact Nat.mul_le_mul_right _ (by omega)
theorem tok_bounds {t : Option BT} {H : Nat} (h : TOk t H) (h0 : H ≠ 0) : 2 * 4 ^ (H - 1) ≤ (treeL t).length + 1 ∧ (treeL t).length + 1 ≤ 9 ^ H := by
  cases t with
  | none => exact (h0 h).elim
  | some T =>
    have := wf_bounds H T h.1
    exact ⟨this.2.2 h.2, this.2.1⟩
theorem tok_zero {t : Option BT} {H : Nat} (h : TOk t H) : H = 0 ↔ treeL t = [] := by
  cases t with
  | none => exact ⟨fun _ => rfl, fun _ => h⟩
  | some T =>
    have h1 : H ≠ 0 := fun e => by have := h.1; rw [e] at this; exact this
    refine ⟨fun e => (h1 e).elim, fun e => ?_⟩
    have := (tok_bounds (t := some T) h h1).1
    rw [e] at this
    have h4 : 0 < 4 ^ (H - 1) := Nat.pow_pos (by decide)
    simp at this
    omega
theorem pow4_le (a b : Nat) (h : a ≤ b) : 4 ^ a ≤ 4 ^ b := Nat.pow_le_pow_right (by decide) h
theorem tok_high {t : Option BT} {H : Nat} (h : TOk t H) (k : Nat) (hl : (treeL t).length + 1 < 2 * 4 ^ k) : H ≤ k := by
  by_cases h0 : H = 0
  · omega
  · by_cases hk : H ≤ k
    · exact hk
    · have h1 := (tok_bounds h h0).1
      have h2 := pow4_le k (H - 1) (by omega)
      omega
end Go.Proofs.Ytfgmhidgkemfoaa
namespace Go.Proofs.Ytfgmhidgkemfoaa
open Go.RowKit
set_option linter.unusedSimpArgs false
set_option linter.unusedVariables false
theorem run_storeFn {P : Program} {w : World} {a : Addr} {m : Mode} (fn : Fn) (first captured : Array Value) : (Go.store a (.func fn first captured) m).run P w = stored P w a (.func fn first captured) m := run_store P w a _ m rfl
attribute [local go_sem] run_storeFn
/-- no more nodes than pairs -/
theorem cnt_le : ∀ (h : Nat) (T : BT), T.Wf h → 1 ≤ T.ps.length → T.cnt (fun _ => true) ≤ T.toL.length
  | 0, _, hw, _ => hw.elim
  | h + 1, T, hw, h1 => by
    obtain ⟨h8, ⟨rfl, hk⟩ | ⟨h0, hl, hall⟩⟩ := hw
    · rw [cnt_eq, toL_eq, hk, cntL_nil, toLs_leaf]
      exact h1
    · rw [cnt_eq, toL_eq]
      have h2 := toLs_len1 T.ps T.ks hl
      have h3 : ∀ ks : List BT, (∀ k ∈ ks, k.cnt (fun _ => true) ≤ k.toL.length) → cntL (fun _ => true) ks + ks.length ≤ (ks.map fun k => k.toL.length + 1).sum := by
        intro ks
        induction ks with
        | nil => intro _; rw [cntL_nil]; simp
        | cons k ks ih =>
          intro hh
          have a1 := ih (fun x hx => hh x (List.mem_cons_of_mem _ hx))
          have a2 := hh k (List.mem_cons_self ..)
          rw [cntL_cons, List.map_cons, List.sum_cons, List.length_cons]
          omega
      have h4 := h3 T.ks (fun k hk => cnt_le h k (hall k hk).1 (by have := (hall k hk).2; omega))
      have : (true : Bool).toNat = 1 := rfl
      omega
theorem tcnt_le {t : Option BT} {H : Nat} (h : TOk t H) : tcnt (fun _ => true) t ≤ (treeL t).length := by
  cases t with
  | none => exact Nat.zero_le _
  | some T => exact cnt_le H T h.1 h.2
theorem root_d {w : World} {g : Nat} {t : Option BT} (h : Tr w g t) : ∃ v, w.cell? ⟨g, 0, none⟩ = some v ∧ g < w.heap.size ∧ RootD (fun b => b < w.heap.size) w v t := by
  obtain ⟨v, h1, h2⟩ := h
  refine ⟨v, cell_of_row w g 0 _ _ _ h1, (Array.getElem?_eq_some_iff.1 h1).1, ?_⟩
  cases t with
  | none => exact h2
  | some T =>
    obtain ⟨g', rfl, e1, e2⟩ := h2
    exact ⟨by rw [e1], e2.in.dom (fun _ hb => hb.2)⟩
theorem RootD.under {D D' : Nat → Prop} {w w' : World} {v : Value} {t : Option BT} (h : RootD D w v t) (hb : Below w.heap.size w w') (hd : ∀ b, D b → D' b) : RootD D' w' v t := by
  cases t with
  | none => exact h
  | some T => exact ⟨h.1, (h.2.under hb).dom hd⟩
theorem RootD.kept {D S D' : Nat → Prop} {w w' : World} {v : Value} {t : Option BT} (h : RootD D w v t) (hk : Kept S w w') (hS : ∀ b, D b → ¬ S b) (hd : ∀ b, D b → D' b) : RootD D' w' v t := by
  cases t with
  | none => exact h
  | some T => exact ⟨h.1, (h.2.kept hk (fun b _ hb => hS b hb)).dom hd⟩
def FreshR (w : World) (ta tb : Option BT) (e : Ending) (w' : World) : Prop := ∃ k : Nat, e = .returned (.int .i64 (k : Int)) ∧ (∃ P : Nat → Bool, tcnt P ta = 0 ∧ k ≤ tcnt P tb) ∧ Below w.heap.size w w'
set_option maxRecDepth 100000 in
set_option maxHeartbeats 1000000 in
theorem fresh_any {w : World} {ga gb Ha Hb : Nat} {ta tb : Option BT} (ha : TT w ga ta Ha) (hb : TT w gb tb Hb) (hlen : (treeL tb).length ≤ 1000000) :
    Calls Try.prog 31 #[.pointer (some ⟨ga, 0, none⟩), .pointer (some ⟨gb, 0, none⟩)] w (FreshR w ta tb) := by
  obtain ⟨va, ca, hga, hra⟩ := root_d ha.tr
  obtain ⟨vb, cb, hgb, hrb⟩ := root_d hb.tr
  have HCN : Hid (tcnt (fun _ => true) tb ≤ 1000000) := Lib.hid (Nat.le_trans (tcnt_le hb.ok) hlen)
  have HRA := Lib.hid hra
  have HRB := Lib.hid hrb
  have HGA := Lib.hid hga
  have HGB := Lib.hid hgb
  have HCA := Lib.hid ca
  have HCB := Lib.hid cb
  have hmm := @run_makeMap Try.prog
  clear ha hb hlen hra hrb hga hgb ca cb
  go_enter Try.func31, Try.ntmps31
  go_upto_region 6 with fail
  obtain ⟨m, hm⟩ : ∃ m, m = w.heap.size := ⟨_, rfl⟩
  obtain ⟨bk, hbk⟩ : ∃ bk, bk = w.heap.size + 1 := ⟨_, rfl⟩
  obtain ⟨bc, hbc⟩ : ∃ bc, bc = w.heap.size + 1 + 1 := ⟨_, rfl⟩
  obtain ⟨bd, hbd⟩ : ∃ bd, bd = w.heap.size + 1 + 1 + 1 := ⟨_, rfl⟩
  rw [← hbd, ← hbc, ← hbk, ← hm]
  obtain ⟨w1, hw1⟩ : ∃ w1, w1 = w.alloc (.map #[] 0) := ⟨_, rfl⟩
  have hNS1 : NS w1 m [] := by rw [hw1, hm]; exact NS.made w
  have hs1 : w1.heap.size = w.heap.size + 1 := by rw [hw1]; simp
  have hB1 : Below w.heap.size w w1 := by rw [hw1]; exact (Below.refl _ w).alloc (Nat.le_refl _) _
  rw [← hw1]
  obtain ⟨W, hW⟩ : ∃ W, W = ((w1.alloc (.cells #[.map (some m)] 103)).alloc (.cells #[.func (.func 56) #[] #[.pointer (some ⟨bk, 0, none⟩), .pointer (some ⟨bc, 0, none⟩)]] 104)).alloc (.cells #[.func (.func 57) #[] #[.pointer (some ⟨bk, 0, none⟩), .pointer (some ⟨bd, 0, none⟩)]] 105) := ⟨_, rfl⟩
  have hBW1 : Below w1.heap.size w1 W := by rw [hW]; exact (((Below.refl _ w1).alloc (Nat.le_refl _) _).alloc (by simp) _).alloc (by simp; omega) _
  have hNS : NS W m [] := hNS1.under hBW1
  have hk0 : W.heap[bk]? = some (.cells #[.map (some m)] 103 (0, 0)) := by rw [hW]; exact heap_old (heap_old (heap_new (by rw [hbk, hs1])))
  have hc0 : W.heap[bc]? = some (.cells #[.func (.func 56) #[] #[.pointer (some ⟨bk, 0, none⟩), .pointer (some ⟨bc, 0, none⟩)]] 104 (0, 0)) := by rw [hW]; exact heap_old (heap_new (by rw [hbc]; simp [hs1]))
  have hd0 : W.heap[bd]? = some (.cells #[.func (.func 57) #[] #[.pointer (some ⟨bk, 0, none⟩), .pointer (some ⟨bd, 0, none⟩)]] 105 (0, 0)) := by rw [hW]; exact heap_new (by rw [hbd]; simp [hs1])
  have hFV : FV W bk bc m := ⟨hk0, hc0⟩
  have hFW : FW W bk bd m := ⟨hk0, hd0⟩
  have hB : Below w.heap.size w W := hB1.trans (hBW1.mono (by omega))
  rw [← hW]
  have HNS := Lib.hid hNS
  have HFV := Lib.hid hFV
  have HFW := Lib.hid hFW
  have HB := Lib.hid hB
  have HM := Lib.hid hm
  have hca := (hB.cell (p := ⟨ga, 0, none⟩) HGA.out).trans HCA.out
  have hcc := cell_of_row W bc 0 _ _ _ hc0
  have HCOL : Hid (Calls Try.prog 56 #[va, .pointer (some ⟨bk, 0, none⟩), .pointer (some ⟨bc, 0, none⟩)] W.drew (Col m [] (fun P => tcnt P ta) W.drew)) := Lib.hid (by
    have hu : Below W.heap.size W W.drew := (Below.refl _ W).drew
    exact collect_root (HRA.out.under (hB.trans (hu.mono hB.size)) (fun b hb => by rw [hm]; omega)) (hFV.kept hNS (Kept.of_below _ hu)) (hNS.under hu))
  clear hmm hm hbk hbc hbd hw1 hNS1 hs1 hB1 hW hBW1 hNS hk0 hc0 hd0 hFV hFW hB
  go_still_tail 5, (by kernel_rfl)
  change wpList _ _ _ _ _ W.drew
  go_upto_region 7 with (go_at_call 56; refine HCOL.out.mono ?_; rintro e2 w3 ⟨rfl, L', hs3, -, hz3, hk3⟩; have HS3 := Lib.hid hs3; have HZ3 := Lib.hid hz3; have HK3 := Lib.hid hk3; clear hs3 hz3 hk3)
  clear hca hcc
  have HK4 : Hid (Kept (fun b => b = m) W w3) := Lib.hid ((Kept.of_below (fun b => b = m) (Below.refl _ W).drew).trans HK3.out (fun _ _ h => h))
  have hcb : w3.cell? ⟨gb, 0, none⟩ = some vb := (HK4.out.cell (p := ⟨gb, 0, none⟩) (Nat.lt_of_lt_of_le HGB.out HB.out.size) (fun e => by have := HGB.out; have := HM.out; simp only at e; omega)).trans ((HB.out.cell (p := ⟨gb, 0, none⟩) HGB.out).trans HCB.out)
  have hFW3 : FW w3 bk bd m := ⟨HK4.out.heap HFW.out.k (HNS.out.not_cb ⟨_, _, HFW.out.k⟩), HK4.out.heap HFW.out.d (HNS.out.not_cb ⟨_, _, HFW.out.d⟩)⟩
  have hcd := cell_of_row w3 bd 0 _ _ _ hFW3.d
  have HBW3 : Hid (Below w.heap.size w w3) := Lib.hid (HB.out.trans (HK4.out.below HB.out.size (fun j hj e => by have := HM.out; omega)))
  have HCO : Hid (Calls Try.prog 57 #[vb, .pointer (some ⟨bk, 0, none⟩), .pointer (some ⟨bd, 0, none⟩)] w3.drew (CntP L' (fun P => tcnt P tb) w3.drew)) := Lib.hid (by
    have hu : Below w3.heap.size w3 w3.drew := (Below.refl _ w3).drew
    have hr := (HRB.out.under (D' := fun b => b < w.heap.size) HB.out (fun _ h => h)).kept (D' := fun _ => True) HK4.out (fun b hb e => by have := HM.out; omega) (fun _ _ => trivial)
    exact count_root (hr.under hu (fun _ _ => trivial)) HCN.out ⟨(hu.block _ (Array.getElem?_eq_some_iff.1 hFW3.k).1).trans hFW3.k, (hu.block _ (Array.getElem?_eq_some_iff.1 hFW3.d).1).trans hFW3.d⟩ (HS3.out.under hu))
  clear hFW3
  go_still_tail 5, (by kernel_rfl)
  change wpList _ _ _ _ _ w3.drew
  go_wp2_with (go_at_call 57; refine HCO.out.mono ?_; rintro e2 w4 ⟨k, rfl, hk, rfl⟩; have HKK := Lib.hid hk; clear hk)
  go_ret
  exact ⟨k, rfl, ⟨unk L', HZ3.out _ (fun g hg => decide_eq_false (fun h => h hg)), HKK.out⟩, HBW3.out.drew⟩
end Go.Proofs.Ytfgmhidgkemfoaa
namespace Go.Proofs.Ytfgmhidgkemfoaa
theorem own : ownKnob Try.prog.godebug = none := by kernel_rfl
theorem laidOut : laidOutB Try.prog = true := by kernel_rfl
end Go.Proofs.Ytfgmhidgkemfoaa
namespace Go.Proofs.Ytfgmhidgkemfoaa
open Go.ChangeShapes Go.WideShapes Go.ChangeAt Go.RowKit
set_option linter.unusedSimpArgs false
set_option linter.unusedVariables false
def Old (W : World) (b : Nat) : Prop := b < W.heap.size
theorem Sl.of_cells {W : World} {ad : Addr} {n c : Nat} {xs : List Value} {size : Nat} (hz : 0 < size) (hl : xs.length = n * size) (hn : n ≤ c) (hm : c ≤ maxLen) (hc : ∀ j u, xs[j]? = some u → W.cell? (ad.add j) = some u) : Sl (Old W) W (some ad) n c xs size := by
  refine ⟨hl, hn, hm, (fun h => by cases h), fun hp => ?_⟩
  obtain ⟨ab, ao, spot⟩ := ad
  have h0 : xs[0]? = some (xs[0]'(by rw [hl]; exact Nat.mul_pos hp hz)) := List.getElem?_eq_getElem _
  have hspot : spot = none := by simpa [Addr.add] using World.cell?_spot (hc 0 _ h0)
  subst hspot
  have hr : W.rangeAt ab ao xs := fun j u hu => by have := hc j u hu; rwa [Addr.add_mid] at this
  exact ⟨ab, ao, range_lt hr (by rw [hl]; exact Nat.mul_pos hp hz), rfl, hr⟩
theorem cells3o : Try.prog.cellsOf 29 = 3 := by kernel_rfl
/-- a change of the laws -/
structure OpM where
  kind : Int
  key : Int
  val : Int
def OpM.cells (m : OpM) : List Value := [.int .u8 m.kind, .int .i64 m.key, .int .u8 m.val]
theorem OpM.cells_len (m : OpM) : m.cells.length = 3 := rfl
def OpOk (m : OpM) : Prop := (0 ≤ m.kind ∧ m.kind ≤ 255) ∧ (-9223372036854775808 ≤ m.key ∧ m.key ≤ 9223372036854775807) ∧ (0 ≤ m.val ∧ m.val ≤ 255)
def opcells (ms : List OpM) : List Value := ms.flatMap OpM.cells
theorem opcells_len (ms : List OpM) : (opcells ms).length = ms.length * 3 := by
  unfold opcells
  induction ms with
  | nil => rfl
  | cons m r ih => rw [List.flatMap_cons, List.length_append, OpM.cells_len, ih, List.length_cons]; omega
theorem opcells_get (ms : List OpM) (i j : Nat) (hi : i < ms.length) (hj : j < 3) : (opcells ms)[i * 3 + j]? = ms[i].cells[j]? := by
  unfold opcells
  induction ms generalizing i with
  | nil => simp at hi
  | cons m r ih =>
    rw [List.flatMap_cons]
    cases i with
    | zero =>
      rw [List.getElem?_append_left (by rw [OpM.cells_len]; omega), Nat.zero_mul, Nat.zero_add]
      rfl
    | succ i =>
      rw [List.getElem?_append_right (by rw [OpM.cells_len]; omega), show (i + 1) * 3 + j - m.cells.length = i * 3 + j by rw [OpM.cells_len]; omega, ih i (by simpa using hi)]
      rfl
/-- a slice of changes -/
def Ops (D : Nat → Prop) (w : World) (a : Option Addr) (n c : Nat) (ms : List OpM) : Prop := ms.length = n ∧ Sl D w a n c (opcells ms) 3 ∧ ∀ m ∈ ms, OpOk m
section
variable {H : Type} {enc : TypeId × Value → H} {W : World} {base : Nat} {held : Bool}
set_option maxRecDepth 100000 in
theorem op_of_trod {fuel : Nat} {cs : List Value} {x : DataW H × List MemPlace} (h : DataW.trod enc Try.prog W base (fun _ => true) held fuel 29 cs = some x) : ∃ m : OpM, cs = m.cells ∧ OpOk m := by
  obtain ⟨ys, n, _, _, hlen, hyl, hf⟩ := DataW.trod_struct Try.underlying29 h
  rw [cells3o] at hlen
  match cs, hlen with
  | [c0, c1, c2], _ =>
    match ys, hyl with
    | [y0, y1, y2], _ =>
      have h0 : DataW.trod enc Try.prog W base (fun _ => true) held n 5 [c0] = some y0 := hf 0 _ rfl
      have h1 : DataW.trod enc Try.prog W base (fun _ => true) held n 3 [c1] = some y1 := hf 1 _ rfl
      have h2 : DataW.trod enc Try.prog W base (fun _ => true) held n 5 [c2] = some y2 := hf 2 _ rfl
      obtain ⟨i0, e0, _, w0⟩ := DataW.trod_int Try.underlying5 h0
      obtain ⟨i1, e1, _, w1⟩ := DataW.trod_int Try.underlying3 h1
      obtain ⟨i2, e2, _, w2⟩ := DataW.trod_int Try.underlying5 h2
      cases e0; cases e1; cases e2
      exact ⟨⟨i0, i1, i2⟩, rfl, bounds_u8 w0, bounds_i64 w1, bounds_u8 w2⟩
set_option maxRecDepth 100000 in
theorem open_ops {base0 : Nat} {v : Value} {d : DataW H} {p : List MemPlace} (hval : Value.okWide Try.prog W .any base0 22 v) (h : DataW.Trod enc Try.prog W base (fun _ => true) held 22 v d p) :
    ∃ a n c ms, v = .slice a n c ∧ Ops (Old W) W a n c ms := by
  obtain ⟨a1, n, c, rfl⟩ := okWide_slice Try.underlying22 hval
  obtain ⟨fuel, hf⟩ := h
  rcases Go.Deep.open_slice Try.underlying22 hf with ⟨hcs, hx⟩ | ⟨a, n', c', m, fu, D, Pl, hcs, _, hl, hm, hmm, hx, hi⟩
  · simp [Value.cells] at hcs
    obtain ⟨rfl, rfl, rfl⟩ := hcs
    exact ⟨none, 0, 0, [], rfl, rfl, Sl.empty _ _ _ _ _ (Nat.zero_le _) (fun _ => rfl), fun _ h => by cases h⟩
  · simp [Value.cells] at hcs
    obtain ⟨rfl, rfl, rfl⟩ := hcs
    simp only [if_true] at hmm
    have hex : ∀ i, i < n → ∃ x : OpM, (∀ j u, x.cells[j]? = some u → W.cell? (a.add (i * 3 + j)) = some u) ∧ OpOk x := by
      intro i hin
      obtain ⟨cs', hc, ht⟩ := hi i (by omega)
      rw [cells3o] at hc
      obtain ⟨_, hlen, hat⟩ := World.cells?_some hc
      obtain ⟨x, rfl, hx⟩ := op_of_trod ht
      refine ⟨x, fun j u hu => ?_, hx⟩
      have hj : j < 3 := by have := (List.getElem?_eq_some_iff.1 hu).1; rwa [OpM.cells_len] at this
      rw [← Go.Deep.add_add, hat j hj, hu]
    refine ⟨some a, n, c, (List.range n).attach.map fun i => (hex i.1 (List.mem_range.1 i.2)).choose, rfl, by simp, Sl.of_cells (by decide) (by rw [opcells_len]; simp) hl hm fun j u hu => ?_, fun x hx => ?_⟩
    · have hjl : j < n * 3 := by
        have := (List.getElem?_eq_some_iff.1 hu).1
        rw [opcells_len] at this
        simpa using this
      have e : j = j / 3 * 3 + j % 3 := by omega
      have hi6 : j / 3 < n := by omega
      rw [e] at hu ⊢
      rw [opcells_get _ (j / 3) (j % 3) (by simpa using hi6) (by omega)] at hu
      simp only [List.getElem_map, List.getElem_attach, List.getElem_range] at hu
      exact (hex (j / 3) hi6).choose_spec.1 _ _ hu
    · obtain ⟨i, _, rfl⟩ := List.mem_map.1 hx
      exact (hex i.1 (List.mem_range.1 i.2)).choose_spec.2

end
theorem Ops.kept {D S : Nat → Prop} {w w' : World} {a : Option Addr} {n c : Nat} {ms : List OpM} (h : Ops D w a n c ms) (hk : Kept S w w') (hd : ∀ b, b < w.heap.size → D b → ¬ S b) : Ops D w' a n c ms :=
  ⟨h.1, h.2.1.kept (by decide) hk hd, h.2.2⟩
theorem Ops.below {D : Nat → Prop} {w w' : World} {a : Option Addr} {n c : Nat} {ms : List OpM} (h : Ops D w a n c ms) (hb : Below w.heap.size w w') : Ops D w' a n c ms := h.kept (Kept.of_below (fun _ => False) hb) (fun _ _ _ h => h)
theorem Ops.at {D : Nat → Prop} {w : World} {a : Option Addr} {n c : Nat} {ms : List OpM} (h : Ops D w a n c ms) (hp : 0 < n) : ∃ b off, D b ∧ b < w.heap.size ∧ a = some ⟨b, off, none⟩ ∧ ∀ (i : Nat) (hi : i < ms.length), w.rangeAt b (off + i * 3) ms[i].cells := by
  obtain ⟨h1, ⟨h2, h3, h4, h5, h6⟩, h7⟩ := h
  obtain ⟨b, off, hD, ha, hr⟩ := h6 hp
  refine ⟨b, off, hD, range_lt hr (by omega), ha, fun i hi j v hv => ?_⟩
  have hj : j < 3 := (List.getElem?_eq_some_iff.1 hv).1
  rw [Nat.add_assoc]
  exact hr (i * 3 + j) v (by rw [opcells_get ms i j hi hj]; exact hv)

def loadOpA (v : Value) : Sem Next := do pure (.value (← Instr.loadAt 29 v))
theorem exec_loadOp (ρ : Operand → Value) (d : Option Tmp) (x : Operand) (ty : TypeId) (pos : String) (af : Array Edge) (gd : Option (Nat × Bool)) :
    execOp ρ { dst := d, op := .load 29 x, type := ty, pos := pos, after := af, guard := gd } = loadOpA (ρ x) := rfl
theorem run_loadOp {w : World} {b o : Nat} {m : OpM} (h : w.rangeAt b o m.cells) : (loadOpA (.pointer (some ⟨b, o, none⟩))).run Try.prog w = .ok (.value (.agg #[.int .u8 m.kind, .int .i64 m.key, .int .u8 m.val])) w := by
  unfold loadOpA
  simp only [Sem.run_bind, Sem.run_pure, Result.andThen_ok, run_loadAt_mid w b o 29 m.cells _ h Try.underlying29 rfl (by rw [OpM.cells_len]; kernel_rfl)]
  rfl
theorem run_boxOp (k x v : Int) (W : World) : (Instr.box 29 (.agg #[.int .u8 k, .int .i64 x, .int .u8 v])).run Try.prog W = .ok (.pointer (some ⟨W.heap.size, 0, none⟩)) (W.alloc (.cells #[.int .u8 k, .int .i64 x, .int .u8 v] 29)) := by kernel_rfl
end Go.Proofs.Ytfgmhidgkemfoaa
namespace Go.Proofs.Ytfgmhidgkemfoaa
open Go.RowKit
set_option linter.unusedSimpArgs false
set_option linter.unusedVariables false
attribute [local go_sem ↓] exec_loadPair exec_storePair exec_at_zeroP exec_at_succP Go.wp_at_zero Go.wp_at_succ
attribute [local go_sem] run_storePair
def Dpt9 : List (Option Tmp) := [some 47, some 48, some 49, some 50, some 51, some 52, some 10]
def Lpt9 : List (List Nat) := [[], [0], [1], [2], [], [3, 4], [5]]
def PutT (w : World) (t : Option BT) (H : Nat) (p : KV) (e : Ending) (w' : World) : Prop := ∃ g' t' H', e = .returned (.pointer (some ⟨g', 0, none⟩)) ∧ TT w' g' t' H' ∧ treeL t' = insL (treeL t) p ∧ (H' = H ∨ H' = H + 1) ∧ (∀ P, tcnt P t' ≤ tcnt P t + (3 * H + 2)) ∧ Below w.heap.size w w'
set_option maxRecDepth 100000 in
set_option maxHeartbeats 4000000 in
theorem put_bad {w : World} {g : Nat} (key value : ByteArray) (hbad : ¬ (key.size ≤ 60 ∧ value.size ≤ 1000)) :
    Calls Try.prog 25 #[.pointer (some ⟨g, 0, none⟩), .string key, .string value] w fun e w' => e = .returned (.pointer (some ⟨g, 0, none⟩)) ∧ w = w' := by
  by_cases hk : 60 < key.size
  · have hk' : (60 : Int) < (key.size : Int) := by omega
    go_enter Try.func25, Try.ntmps25
    go_wp2_with fail
    go_ret
    exact ⟨rfl, rfl⟩
  · have hk' : ¬ (60 : Int) < (key.size : Int) := by omega
    have hv' : (1000 : Int) < (value.size : Int) := by omega
    go_enter Try.func25, Try.ntmps25
    go_wp2_with fail
    go_ret
    exact ⟨rfl, rfl⟩
theorem run_bld94a (a : Option Addr) (n c : Nat) (W : World) : (Instr.build 94 #[(0, .slice a n c)]).run Try.prog W = .ok (.agg #[.slice a n c, .slice none 0 0]) W := by kernel_rfl
theorem run_bld94b (a : Option Addr) (n c : Nat) (W : World) : (Instr.build 94 #[(1, .slice a n c)]).run Try.prog W = .ok (.agg #[.slice none 0 0, .slice a n c]) W := by kernel_rfl
theorem run_bld87 (x : Option Addr) (n : Int) (W : World) : (Instr.build 87 #[(0, .pointer x), (1, .int .i64 n)]).run Try.prog W = .ok (.agg #[.pointer x, .int .i64 n]) W := by kernel_rfl
theorem tree_made {q5 : World} {T : BT} {k : Nat} (hnd : NdD (fun _ => True) q5 T) (hs : T.Sh k) (h8 : T.ps.length ≤ 8) (h1 : 1 ≤ T.ps.length) (hso : Sorted T.toL) (n : Int) (hn : n = (T.toL.length : Int)) : TT (q5.alloc (.cells #[.pointer (some ⟨T.g, 0, none⟩), .int .i64 n] 87)) q5.heap.size (some T) (k + 1) := by
  refine ⟨⟨.pointer (some ⟨T.g, 0, none⟩), ?_, T.g, rfl, rfl, hnd.under ((Below.refl _ _).alloc (Nat.le_refl _) _)⟩, ⟨(wf_iff _ _).2 ⟨h8, hs⟩, h1⟩, hso⟩
  rw [hn]
  exact heap_new rfl
theorem put_fin {w q p q5 : World} {b T : BT} {k H : Nat} {kv : KV} {n : Int} (hso : Sorted (treeL (some b)) ∧ Below w.heap.size w q) (h1 : Below q.heap.size q p) (h2 : Below p.heap.size p q5) (hnd : NdD (fun _ => True) q5 T) (hs : T.Sh k) (h8 : T.ps.length ≤ 8) (hl : 1 ≤ T.ps.length) (hlist : T.toL = insL b.toL kv) (hn : n = ((insL b.toL kv).length : Int)) (hH : k + 1 = H ∨ k + 1 = H + 1) (hc : ∀ P, T.cnt P ≤ tcnt P (some b) + (3 * H + 2)) : PutT w (some b) H kv (.returned (.pointer (some ⟨q5.heap.size, 0, none⟩))) (q5.alloc (.cells #[.pointer (some ⟨T.g, 0, none⟩), .int .i64 n] 87)) := by
  have hb : Below w.heap.size w q5 := (hso.2.trans (h1.mono hso.2.size)).trans (h2.mono (Nat.le_trans hso.2.size h1.size))
  exact ⟨_, some T, k + 1, rfl, tree_made hnd hs h8 hl (by rw [hlist]; exact insL_sorted hso.1) n (by rw [hlist]; exact hn), hlist, hH, hc, hb.alloc hb.size _⟩
theorem put_none {w q : World} {H : Nat} (hH : TOk none H) (hb : Below w.heap.size w q) (key value : ByteArray) : PutT w none H ⟨key, value⟩ (.returned (.pointer (some ⟨q.heap.size + 1 + 1, 0, none⟩))) (((q.alloc (.cells #[.string key, .string value] 65)).alloc (.cells #[.slice (some ⟨q.heap.size, 0, none⟩) 1 1, .slice none 0 0] 94)).alloc (.cells #[.pointer (some ⟨q.heap.size + 1, 0, none⟩), .int .i64 1] 87)) := by
  obtain ⟨q5, hq5⟩ : ∃ q5, q5 = (q.alloc (.cells #[.string key, .string value] 65)).alloc (.cells #[.slice (some ⟨q.heap.size, 0, none⟩) 1 1, .slice none 0 0] 94) := ⟨_, rfl⟩
  have hsz : q5.heap.size = q.heap.size + 1 + 1 := by rw [hq5]; simp
  have hb5 : Below w.heap.size w q5 := by rw [hq5]; exact (hb.alloc hb.size _).alloc (by have := hb.size; simp; omega) _
  have h1 : q5.heap[q.heap.size]? = some (.cells #[.string key, .string value] 65 (0, 0)) := by rw [hq5]; exact heap_old (heap_new rfl)
  have h2 : q5.heap[q.heap.size + 1]? = some (.cells #[.slice (some ⟨q.heap.size, 0, none⟩) 1 1, .slice none 0 0] 94 (0, 0)) := by rw [hq5]; exact heap_new (by simp)
  have hnd : NdD (fun _ => True) q5 (.mk (q.heap.size + 1) [⟨key, value⟩] []) := by
    refine .mk trivial h2 ⟨rfl, rfl, Nat.le_refl _, by unfold maxLen; omega, (fun e => by cases e), fun _ => ⟨q.heap.size, 0, trivial, rfl, fun j u hj => ?_⟩⟩ ⟨rfl, rfl, Nat.le_refl _, Nat.zero_le _, (fun _ => rfl), fun h => absurd h (by omega)⟩ (fun _ h => by cases h)
    rw [Nat.zero_add, cell_of_row q5 _ j _ _ _ h1]
    simpa [pcells, KV.cells] using hj
  rw [← hq5, ← hsz]
  have e1 : (BT.mk (q.heap.size + 1) [⟨key, value⟩] []).toL = [⟨key, value⟩] := by rw [toL_mk, toLs_leaf]
  have hH0 : H = 0 := hH
  refine ⟨_, some (.mk (q.heap.size + 1) [⟨key, value⟩] []), 1, rfl, tree_made hnd (.inl ⟨rfl, rfl⟩) (by show 1 ≤ 8; omega) (by show 1 ≤ 1; omega) (by rw [e1]; exact List.pairwise_singleton _ _) 1 (by rw [e1]; rfl), e1, .inr (by omega), fun P => ?_, hb5.alloc hb5.size _⟩
  show (BT.mk (q.heap.size + 1) [⟨key, value⟩] []).cnt P ≤ _
  rw [cnt_mk, cntL_nil]
  have := toNat_le (P (q.heap.size + 1))
  omega
set_option maxRecDepth 100000 in
set_option maxHeartbeats 4000000 in
theorem put_tree {w : World} {g : Nat} {t : Option BT} {H : Nat} (h : TT w g t H) (hlen : (treeL t).length ≤ 1000000) (key value : ByteArray) (hk : key.size ≤ 60) (hv : value.size ≤ 1000) :
    Calls Try.prog 25 #[.pointer (some ⟨g, 0, none⟩), .string key, .string value] w (PutT w t H ⟨key, value⟩) := by
  have hk' : ¬ (60 : Int) < (key.size : Int) := by omega
  have hv' : ¬ (1000 : Int) < (value.size : Int) := by omega
  have hbs := run_bs1P key value
  have hb1 := run_bld94a
  have hb2 := run_bld87
  have mixed : Try.prog.follows .mixedOrders = true := by kernel_rfl
  obtain ⟨gb, hgb⟩ : ∃ gb, gb = w.heap.size := ⟨_, rfl⟩
  obtain ⟨q, hq⟩ : ∃ q, q = (w.alloc (.cells #[.string ⟨#[]⟩, .string ⟨#[]⟩] 65)).setRow w.heap.size #[.string key, .string value] := ⟨_, rfl⟩
  have hbq : Below w.heap.size w q := by rw [hq]; exact (((Kept.refl (fun _ => False) w).alloc _).setRow (fun h => absurd h (Nat.lt_irrefl _)) _).below (Nat.le_refl _) (fun _ _ h => h)
  have hbb : q.heap[gb]? = some (.cells (kcells ⟨key, value⟩) 65 (0, 0)) := by rw [hq, hgb]; exact setRow_heap _ _ _ _ _ _ (heap_new rfl)
  have hTq := h.under hbq
  obtain ⟨v, cv0, cv1, hroot⟩ := hTq.tr.facts
  have HTQ := Lib.hid hTq
  have HBQ := Lib.hid hbq
  have HBB := Lib.hid hbb
  have HL := Lib.hid hlen
  have HSO := Lib.hid h.so
  have HOK := Lib.hid h.ok
  have p7 : PB (w.alloc (.cells #[.string ⟨#[]⟩, .string ⟨#[]⟩] 65)) w.heap.size := ⟨⟨⟨#[]⟩, ⟨#[]⟩⟩, heap_new rfl⟩
  cases t with
  | none =>
    have hv : v = .pointer none := hroot
    subst hv
    clear h hlen hTq hbq hbb hroot
    go_enter Try.func25, Try.ntmps25
    go_upto_region 4 with fail
    rw [← hq, ← hgb]
    have ld0 := run_loadPair (range_kv HBB.out)
    clear hq hgb p7
    go_wp2_with fail
    go_ret
    exact put_none HOK.out HBQ.out key value
  | some b =>
    obtain ⟨bg, rfl, hbn⟩ := hroot
    obtain ⟨rfl, hbd⟩ := hbn
    obtain ⟨k, rfl⟩ : ∃ k, H = k + 1 := by
      rcases H with _ | k
      · exact h.ok.1.elim
      · exact ⟨k, rfl⟩
    have hwf := (wf_iff _ _).1 h.ok.1
    have HW := Lib.hid hwf
    have HB1 : Hid (1 ≤ b.ps.length) := Lib.hid h.ok.2
    have HB8 : Hid (1 ≤ b.ps.length ∧ b.ps.length ≤ 8) := Lib.hid ⟨h.ok.2, hwf.1⟩
    have HTW := Lib.hid h
    have HGET := Lib.hid (get_any hTq.tr hTq.ok hTq.so key)
    obtain ⟨G, hG⟩ : ∃ G, G = gotF (floorL (treeL (some b)) key) key := ⟨_, rfl⟩
    rw [← hG] at HGET
    have HGG := Lib.hid hG
    have HBD := Lib.hid hbd
    have HGL0 : Hid (g < q.heap.size) := Lib.hid hTq.lt
    have hn1 : IntKind.i64.wrap (((treeL (some b)).length : Int) + 1) = ((treeL (some b)).length : Int) + 1 := i64_id _ (by omega) (by omega)
    obtain ⟨bg, hbg⟩ : ∃ bg, bg = b.g := ⟨_, rfl⟩
    rw [← hbg] at cv0
    have HBG := Lib.hid hbg
    clear h hlen hTq hbq hbb hG hbd hwf hbg
    go_enter Try.func25, Try.ntmps25
    go_upto_region 4 with fail
    rw [← hq, ← hgb]
    clear hq hgb p7
    cases G with
    | none =>
      have HGET2 : Hid (Calls Try.prog 36 #[.pointer (some ⟨g, 0, none⟩), .string key] q fun e w' => e = .returned (.tuple #[.string ⟨#[]⟩, .bool false]) ∧ Below q.heap.size q w') := HGET
      clear HGET
      have HLEN : Hid ((((treeL (some b)).length : Int) + 1) = ((insL b.toL ⟨key, value⟩).length : Int)) := Lib.hid (by
        rw [insL_len_new (fun x hx => got_none (l := b.toL) (key := key) HSO.out HGG.out.symm x hx)]
        rfl)
      go_upto_region 9 with (go_at_call 36; refine HGET2.out.mono ?_; rintro e q2 ⟨rfl, hb2⟩; obtain ⟨q, hqq⟩ : ∃ q', q' = q2 := ⟨_, rfl⟩; subst hqq; have HBQ2 : Hid (Sorted (treeL (some b)) ∧ Below w.heap.size w q) := Lib.hid ⟨HSO.out, HBQ.out.trans (hb2.mono HBQ.out.size)⟩; have HRB : Hid (q.rangeAt gb 0 (KV.mk key value).cells) := Lib.hid (range_kv ((hb2.block _ (heap_lt HBB.out)).trans HBB.out)); have HGL : Hid (g < q.heap.size) := Lib.hid (Nat.lt_of_lt_of_le HGL0.out hb2.size); have CG0 : Hid (q.cell? ⟨g, 0, none⟩ = some (.pointer (some ⟨bg, 0, none⟩))) := Lib.hid ((hb2.cell (p := ⟨g, 0, none⟩) HGL0.out).trans cv0); have CG1 : Hid (q.cell? ⟨g, 1, none⟩ = some (.int .i64 ((treeL (some b)).length : Int))) := Lib.hid ((hb2.cell (p := ⟨g, 1, none⟩) HGL0.out).trans cv1); have HPUT : Hid (∀ p, Below q.heap.size q p → Calls Try.prog 50 #[.pointer (some ⟨bg, 0, none⟩), .agg #[.string key, .string value]] p (PutRes (fun _ => True) p k b ⟨key, value⟩)) := Lib.hid (fun p hp => by rw [HBG.out]; exact put_any key value k ((HBD.out.under hb2).under hp) HW.out.2 HW.out.1 HB1.out HSO.out); clear hb2)
      clear cv0 cv1
      refine Roll.region_f 6 81 Dpt9 Lpt9 [(0, .pointer (some ⟨g, 0, none⟩)), (7, .pointer (some ⟨gb, 0, none⟩))] (fun p => Below q.heap.size q p) (fun p p2 => Below p.heap.size p p2) [fun vv p => vv = .pointer (some ⟨g, 0, none⟩), fun vv p => vv = .pointer (some ⟨g, 0, none⟩), fun vv p => vv = .pointer (some ⟨g, 0, none⟩), fun vv p => vv = .pointer (some ⟨bg, 0, none⟩), fun vv p => vv = .agg #[.string key, .string value], fun vv p => ∃ r : BT, vv = .pointer (some ⟨r.g, 0, none⟩) ∧ NdD (fun _ => True) p r ∧ PutOf k b r ⟨key, value⟩] (by kernel_rfl) (by kernel_rfl) rfl ⟨rfl, rfl, trivial⟩ ((Below.refl _ _).drew) ?_ ?_ ?_
      · exact ⟨fun _ _ _ _ h => h, fun _ _ _ _ h => h, fun _ _ _ _ h => h, fun _ _ _ _ h => h, fun _ _ _ _ h => h, fun _ _ _ hs h => by obtain ⟨r, e1, e2, e3⟩ := h; exact ⟨r, e1, e2.under hs, e3⟩, trivial⟩
      · intro b0 hN hlv
        refine ⟨?_, ?_, ?_, ?_, ?_, ?_, trivial⟩
        · intro vs p hI hp
          have e0 : (Roll.putD Dpt9 vs [] b0).eval (.tmp 0) = .pointer (some ⟨g, 0, none⟩) := (Roll.eval_old rfl).trans (hlv.at 0 (0, .pointer (some ⟨g, 0, none⟩)) rfl)
          clear hp hlv hN
          unfold Roll.Goes
          simp only [Lpt9, List.getD_cons_zero, List.getD_cons_succ]
          generalize Roll.putD Dpt9 vs [] b0 = a1 at *
          refine Roll.goes_val (w' := p) (.pointer (some ⟨g, 0, none⟩)) rfl ?_ ⟨hI, Below.refl _ _, rfl⟩
          (have ec : ∀ x, a1.eval (.const x) = x := fun _ => rfl); (have ef : ∀ x, a1.eval (.func x) = .func (.func x) #[] #[] := fun _ => rfl); generalize a1.eval = ρ at *
          skip
          go_simp <;> (intros; first | (exfalso; omega) | rfl)
        · intro vs p hI hp
          have h0 : (vs 0) = .pointer (some ⟨g, 0, none⟩) := hp 0 (by simp [Lpt9])
          have e47 : (Roll.putD Dpt9 vs [0] b0).eval (.tmp 47) = .pointer (some ⟨g, 0, none⟩) := (Roll.eval_new 0 rfl (by decide) (by decide) (by omega)).trans h0
          clear hp hlv hN
          unfold Roll.Goes
          simp only [Lpt9, List.getD_cons_zero, List.getD_cons_succ]
          generalize Roll.putD Dpt9 vs [0] b0 = a1 at *
          refine Roll.goes_val (w' := p) (.pointer (some ⟨g, 0, none⟩)) rfl ?_ ⟨hI, Below.refl _ _, rfl⟩
          (have ec : ∀ x, a1.eval (.const x) = x := fun _ => rfl); (have ef : ∀ x, a1.eval (.func x) = .func (.func x) #[] #[] := fun _ => rfl); generalize a1.eval = ρ at *
          clear h0
          go_simp <;> (intros; first | (exfalso; omega) | rfl)
        · intro vs p hI hp
          have h1 : (vs 1) = .pointer (some ⟨g, 0, none⟩) := hp 1 (by simp [Lpt9])
          have e48 : (Roll.putD Dpt9 vs [1] b0).eval (.tmp 48) = .pointer (some ⟨g, 0, none⟩) := (Roll.eval_new 1 rfl (by decide) (by decide) (by omega)).trans h1
          clear hp hlv hN
          unfold Roll.Goes
          simp only [Lpt9, List.getD_cons_zero, List.getD_cons_succ]
          generalize Roll.putD Dpt9 vs [1] b0 = a1 at *
          refine Roll.goes_val (w' := p) (.pointer (some ⟨g, 0, none⟩)) rfl ?_ ⟨hI, Below.refl _ _, rfl⟩
          (have ec : ∀ x, a1.eval (.const x) = x := fun _ => rfl); (have ef : ∀ x, a1.eval (.func x) = .func (.func x) #[] #[] := fun _ => rfl); generalize a1.eval = ρ at *
          clear h1
          go_simp <;> (intros; first | (exfalso; omega) | rfl)
        · intro vs p hI hp
          have h2 : (vs 2) = .pointer (some ⟨g, 0, none⟩) := hp 2 (by simp [Lpt9])
          have e49 : (Roll.putD Dpt9 vs [2] b0).eval (.tmp 49) = .pointer (some ⟨g, 0, none⟩) := (Roll.eval_new 2 rfl (by decide) (by decide) (by omega)).trans h2
          clear hp hlv hN
          unfold Roll.Goes
          simp only [Lpt9, List.getD_cons_zero, List.getD_cons_succ]
          generalize Roll.putD Dpt9 vs [2] b0 = a1 at *
          have cf : p.cell? ⟨g, 0, none⟩ = some (.pointer (some ⟨bg, 0, none⟩)) := (hI.cell (p := ⟨g, 0, none⟩) HGL.out).trans CG0.out
          refine Roll.goes_val (w' := p) (.pointer (some ⟨bg, 0, none⟩)) rfl ?_ ⟨hI, Below.refl _ _, rfl⟩
          (have ec : ∀ x, a1.eval (.const x) = x := fun _ => rfl); (have ef : ∀ x, a1.eval (.func x) = .func (.func x) #[] #[] := fun _ => rfl); generalize a1.eval = ρ at *
          clear h2
          go_simp <;> (intros; first | (exfalso; omega) | rfl)
        · intro vs p hI hp
          have e7 : (Roll.putD Dpt9 vs [] b0).eval (.tmp 7) = .pointer (some ⟨gb, 0, none⟩) := (Roll.eval_old rfl).trans (hlv.at 1 (7, .pointer (some ⟨gb, 0, none⟩)) rfl)
          clear hp hlv hN
          unfold Roll.Goes
          simp only [Lpt9, List.getD_cons_zero, List.getD_cons_succ]
          generalize Roll.putD Dpt9 vs [] b0 = a1 at *
          have ld0 := run_loadPair (range_below HRB.out (by simp [KV.cells]) hI)
          refine Roll.goes_val (w' := p) (.agg #[.string key, .string value]) rfl ?_ ⟨hI, Below.refl _ _, rfl⟩
          (have ec : ∀ x, a1.eval (.const x) = x := fun _ => rfl); (have ef : ∀ x, a1.eval (.func x) = .func (.func x) #[] #[] := fun _ => rfl); generalize a1.eval = ρ at *
          skip
          go_simp <;> (intros; first | (exfalso; omega) | rfl)
        · intro vs p hI hp
          have h3 : (vs 3) = .pointer (some ⟨bg, 0, none⟩) := hp 3 (by simp [Lpt9])
          have h4 : (vs 4) = .agg #[.string key, .string value] := hp 4 (by simp [Lpt9])
          have e50 : (Roll.putD Dpt9 vs [3, 4] b0).eval (.tmp 50) = .pointer (some ⟨bg, 0, none⟩) := (Roll.eval_new 3 rfl (by decide) (by decide) (by omega)).trans h3
          have e51 : (Roll.putD Dpt9 vs [3, 4] b0).eval (.tmp 51) = .agg #[.string key, .string value] := (Roll.eval_new 4 rfl (by decide) (by decide) (by omega)).trans h4
          clear hp hlv hN
          unfold Roll.Goes
          simp only [Lpt9, List.getD_cons_zero, List.getD_cons_succ]
          generalize Roll.putD Dpt9 vs [3, 4] b0 = a1 at *
          refine Roll.goes_call 50 #[.pointer (some ⟨bg, 0, none⟩), .agg #[.string key, .string value]] p rfl (by have ec : ∀ x, a1.eval (.const x) = x := fun _ => rfl; have ef : ∀ x, a1.eval (.func x) = .func (.func x) #[] #[] := fun _ => rfl; generalize a1.eval = ρ at *; go_simp) ?_
          refine (HPUT.out p hI).mono ?_
          rintro y p2 ⟨r, rfl, hnd, hb2, hpo⟩
          exact ⟨_, rfl, hI.trans (hb2.mono hI.size), hb2, r, rfl, hnd.dom (fun _ _ => trivial), hpo⟩
      · intro vs p hI hR
        have h0 : (vs 0) = .pointer (some ⟨g, 0, none⟩) := hR 0 (by omega)
        have h1 : (vs 1) = .pointer (some ⟨g, 0, none⟩) := hR 1 (by omega)
        have h2 : (vs 2) = .pointer (some ⟨g, 0, none⟩) := hR 2 (by omega)
        have h3 : (vs 3) = .pointer (some ⟨bg, 0, none⟩) := hR 3 (by omega)
        have h4 : (vs 4) = .agg #[.string key, .string value] := hR 4 (by omega)
        have h5 : ∃ r : BT, (vs 5) = .pointer (some ⟨r.g, 0, none⟩) ∧ NdD (fun _ => True) p r ∧ PutOf k b r ⟨key, value⟩ := hR 5 (by omega)
        clear hR
        simp only [List.range_succ, List.range_zero, List.nil_append, List.cons_append, Roll.putD, Act.put, List.getD_cons_zero, List.getD_cons_succ, List.setIfInBounds_toArray, List.set_cons_zero, List.set_cons_succ, List.drop_succ_cons, List.drop_zero, Dpt9]
        simp only [h0, h1, h2, h3, h4]
        clear h0 h1 h2 h3 h4
        generalize vs 5 = v5 at *
        obtain ⟨r, rfl, hnd, hpo⟩ := h5
        have HND := Lib.hid hnd
        have HPO := Lib.hid hpo
        have HI := Lib.hid hI
        obtain ⟨aR, nR, cR, bR, mR, eR, -, -, cr0, -, hrp, -, -⟩ := hnd.facts
        have hnr := hrp.1
        have hncr : nR ≤ cR := hrp.2.2.1
        have hcr : cR ≤ 9223372036854775807 := hrp.2.2.2.1
        subst hnr
        obtain ⟨rn, hrn⟩ : ∃ rn, rn = r.ps.length := ⟨_, rfl⟩
        rw [← hrn] at cr0 hncr
        have HRN := Lib.hid hrn
        have cg1 := (hI.cell (p := ⟨g, 1, none⟩) HGL.out).trans CG1.out
        have HSOR : Hid (Sorted r.toL) := Lib.hid (by rw [hpo.list]; exact insL_sorted HSO.out)
        by_cases h8 : 8 < rn
        · have h8' : (8 : Int) < (rn : Int) := by omega
          have hbn := run_bs1N r.g
          have hb94 := run_bld94b
          clear hnd hpo hI hrp hrn
          go_upto_region 12 with fail
          obtain ⟨q4, hq4⟩ : ∃ q4, q4 = (p.alloc (.cells #[.pointer (some ⟨r.g, 0, none⟩)] 85)).alloc (.cells #[.slice none 0 0, .slice (some ⟨p.heap.size, 0, none⟩) 1 1] 94) := ⟨_, rfl⟩
          obtain ⟨gN, hgN⟩ : ∃ gN, gN = p.heap.size + 1 := ⟨_, rfl⟩
          have hb4 : Below p.heap.size p q4 := by rw [hq4]; exact ((Below.refl _ _).alloc (Nat.le_refl _) _).alloc (by simp) _
          have hON : ON (fun _ => True) p q4 gN [] [r] [] := by
            have hg1 : q4.heap[p.heap.size]? = some (.cells #[.pointer (some ⟨r.g, 0, none⟩)] 85 (0, 0)) := by rw [hq4]; exact heap_old (heap_new rfl)
            have hg2 : q4.heap[gN]? = some (.cells #[.slice none 0 0, .slice (some ⟨p.heap.size, 0, none⟩) 1 1] 94 (0, 0)) := by rw [hq4, hgN]; exact heap_new (by simp)
            refine ⟨none, some p.heap.size, _, _, hg2, Own.nil _ _ _, Own.of hg1 (Nat.le_refl _) (by unfold maxLen; simp) rfl (by simp [pnts]), (by simp), (fun e => by cases e; omega), (fun _ e => by cases e), by omega, (fun _ e => by cases e), (fun j e => by cases e; exact Nat.le_refl _), fun x hx => ?_, hb4⟩
            have hx : x = r := by simpa using hx
            subst hx
            exact HND.out.off hb4 (by omega) (fun _ e => by cases e) (fun j e => by cases e; exact Nat.le_refl _)
          rw [← hq4, ← hgN]
          have HB4 := Lib.hid hb4
          have g0 : 0 < ([r] : List BT).length := by simp
          have g3 : 3 ≤ ([r] : List BT)[0].ps.length := by show 3 ≤ r.ps.length; have := HRN.out; omega
          have g9 : ([r] : List BT)[0].ps.length ≤ 900 := by show r.ps.length ≤ 900; have := HPO.out.high; have := HB8.out; omega
          have HSP := Lib.hid (split_any hON 0 g0 rfl (by simp) HPO.out.sh.lens g3 g9)
          have CG1P : Hid (∀ u, Below p.heap.size p u → u.cell? ⟨g, 1, none⟩ = some (.int .i64 ((treeL (some b)).length : Int))) := Lib.hid (fun u hu => (hu.cell (p := ⟨g, 1, none⟩) (Nat.lt_of_lt_of_le HGL.out HI.out.size)).trans cg1)
          clear hq4 hgN hb4 hON cg1 cr0
          go_wp2_with (go_at_call 51; refine HSP.out.mono ?_; rintro e q5 ⟨rfl, LL, RR, hon, l1, l2, r1, r2⟩; have HB5 := Lib.hid (by obtain ⟨_, _, _, _, h⟩ := hon; exact h.below : Below p.heap.size p q5); have cg5 := CG1P.out q5 HB5.out; have HON5 := Lib.hid hon; have HL5 := Lib.hid (And.intro l1 (And.intro l2 (And.intro r1 r2))); clear hon l1 l2 r1 r2)
          go_ret
          obtain ⟨l1, l2, r1, r2⟩ := HL5.out
          obtain ⟨m1, m2, m3, m4⟩ := split_math rfl (HPO.out.sh : (([r] : List BT)[0]).Sh k) (by show 7 ≤ r.ps.length; have := HRN.out; omega) (by show r.ps.length ≤ 16; have := HPO.out.high; have := HB8.out; omega) l1 l2 r1 r2
          have hnd5 := HON5.out
          obtain ⟨_, _, _, _, hnd5⟩ := hnd5
          have hnd6 := hnd5.nd.dom (D' := fun _ => True) (fun _ _ => trivial)
          refine put_fin HBQ2.out HI.out HB5.out hnd6 (k := k + 1) (.inr ⟨by omega, rfl, ?_⟩) (by show 1 ≤ 8; omega) (by show 1 ≤ 1; omega) ?_ ?_ (.inr rfl) ?_
          · intro x hx
            have hx : x ∈ [LL, RR] := hx
            have hx : x = LL ∨ x = RR := by simpa using hx
            rcases hx with rfl | rfl
            · exact m1
            · exact m2
          · rw [toL_mk]
            show toLs [_] [LL, RR] = _
            rw [toLs_cons, toLs_last]
            exact m3.symm.trans HPO.out.list
          · exact HLEN.out
          · intro P
            have h1 : LL.cnt P + RR.cnt P ≤ cntL P r.ks + 2 := m4 P
            have h2 := HPO.out.cnt P
            have h3 := cnt_eq P r
            have h4 := toNat_le (P gN)
            rw [cnt_mk]
            show _ + cntL P [LL, RR] ≤ _
            rw [cntL_cons, cntL_cons, cntL_nil]
            have h6 : tcnt P (some b) = b.cnt P := rfl
            omega
        · have h8' : ¬ (8 : Int) < (rn : Int) := by omega
          clear hnd hpo hI hrp hrn
          go_wp2_with fail
          go_ret
          refine put_fin HBQ2.out HI.out (Below.refl _ _) HND.out HPO.out.sh (by have := HRN.out; omega) (by have := HPO.out.low; have := HB8.out; omega) HPO.out.list ?_ (.inl rfl) ?_
          · exact HLEN.out
          · intro P
            have h2 := HPO.out.cnt P
            have h6 : tcnt P (some b) = b.cnt P := rfl
            omega
    | some v2 =>
      have HGET2 : Hid (Calls Try.prog 36 #[.pointer (some ⟨g, 0, none⟩), .string key] q fun e w' => e = .returned (.tuple #[.string v2, .bool true]) ∧ Below q.heap.size q w') := HGET
      clear HGET
      have HMEM : Hid (KV.mk key v2 ∈ b.toL) := Lib.hid (got_some HGG.out.symm)
      by_cases hvv : v2 = value
      · subst hvv
        have HRET : Hid (∀ u, Below q.heap.size q u → PutT w (some b) (k + 1) ⟨key, v2⟩ (.returned (.pointer (some ⟨g, 0, none⟩))) u) := Lib.hid (fun u hu => ⟨g, some b, k + 1, rfl, HTQ.out.under hu, (insL_same HSO.out HMEM.out).symm, .inl rfl, fun P => by omega, HBQ.out.trans (hu.mono HBQ.out.size)⟩)
        have hveq : (v2.toList == v2.toList) = true := by simp
        go_wp2_with (go_at_call 36; refine HGET2.out.mono ?_; rintro e q2 ⟨rfl, hb2⟩; have HB2 := Lib.hid hb2; clear hb2)
        go_ret
        exact HRET.out _ HB2.out
      · have hveq : (v2.toList == value.toList) = false := by rw [str_beq]; exact decide_eq_false hvv
        have HLEN : Hid ((((treeL (some b)).length : Int)) = ((insL b.toL ⟨key, value⟩).length : Int)) := Lib.hid (by
          rw [insL_len_old (l := b.toL) (p := ⟨key, value⟩) HSO.out HMEM.out rfl]
          rfl)
        go_upto_region 9 with (go_at_call 36; refine HGET2.out.mono ?_; rintro e q2 ⟨rfl, hb2⟩; obtain ⟨q, hqq⟩ : ∃ q', q' = q2 := ⟨_, rfl⟩; subst hqq; have HBQ2 : Hid (Sorted (treeL (some b)) ∧ Below w.heap.size w q) := Lib.hid ⟨HSO.out, HBQ.out.trans (hb2.mono HBQ.out.size)⟩; have HRB : Hid (q.rangeAt gb 0 (KV.mk key value).cells) := Lib.hid (range_kv ((hb2.block _ (heap_lt HBB.out)).trans HBB.out)); have HGL : Hid (g < q.heap.size) := Lib.hid (Nat.lt_of_lt_of_le HGL0.out hb2.size); have CG0 : Hid (q.cell? ⟨g, 0, none⟩ = some (.pointer (some ⟨bg, 0, none⟩))) := Lib.hid ((hb2.cell (p := ⟨g, 0, none⟩) HGL0.out).trans cv0); have CG1 : Hid (q.cell? ⟨g, 1, none⟩ = some (.int .i64 ((treeL (some b)).length : Int))) := Lib.hid ((hb2.cell (p := ⟨g, 1, none⟩) HGL0.out).trans cv1); have HPUT : Hid (∀ p, Below q.heap.size q p → Calls Try.prog 50 #[.pointer (some ⟨bg, 0, none⟩), .agg #[.string key, .string value]] p (PutRes (fun _ => True) p k b ⟨key, value⟩)) := Lib.hid (fun p hp => by rw [HBG.out]; exact put_any key value k ((HBD.out.under hb2).under hp) HW.out.2 HW.out.1 HB1.out HSO.out); clear hb2)
        clear cv0 cv1
        refine Roll.region_f 6 81 Dpt9 Lpt9 [(0, .pointer (some ⟨g, 0, none⟩)), (7, .pointer (some ⟨gb, 0, none⟩))] (fun p => Below q.heap.size q p) (fun p p2 => Below p.heap.size p p2) [fun vv p => vv = .pointer (some ⟨g, 0, none⟩), fun vv p => vv = .pointer (some ⟨g, 0, none⟩), fun vv p => vv = .pointer (some ⟨g, 0, none⟩), fun vv p => vv = .pointer (some ⟨bg, 0, none⟩), fun vv p => vv = .agg #[.string key, .string value], fun vv p => ∃ r : BT, vv = .pointer (some ⟨r.g, 0, none⟩) ∧ NdD (fun _ => True) p r ∧ PutOf k b r ⟨key, value⟩] (by kernel_rfl) (by kernel_rfl) rfl ⟨rfl, rfl, trivial⟩ ((Below.refl _ _).drew) ?_ ?_ ?_
        · exact ⟨fun _ _ _ _ h => h, fun _ _ _ _ h => h, fun _ _ _ _ h => h, fun _ _ _ _ h => h, fun _ _ _ _ h => h, fun _ _ _ hs h => by obtain ⟨r, e1, e2, e3⟩ := h; exact ⟨r, e1, e2.under hs, e3⟩, trivial⟩
        · intro b0 hN hlv
          refine ⟨?_, ?_, ?_, ?_, ?_, ?_, trivial⟩
          · intro vs p hI hp
            have e0 : (Roll.putD Dpt9 vs [] b0).eval (.tmp 0) = .pointer (some ⟨g, 0, none⟩) := (Roll.eval_old rfl).trans (hlv.at 0 (0, .pointer (some ⟨g, 0, none⟩)) rfl)
            clear hp hlv hN
            unfold Roll.Goes
            simp only [Lpt9, List.getD_cons_zero, List.getD_cons_succ]
            generalize Roll.putD Dpt9 vs [] b0 = a1 at *
            refine Roll.goes_val (w' := p) (.pointer (some ⟨g, 0, none⟩)) rfl ?_ ⟨hI, Below.refl _ _, rfl⟩
            (have ec : ∀ x, a1.eval (.const x) = x := fun _ => rfl); (have ef : ∀ x, a1.eval (.func x) = .func (.func x) #[] #[] := fun _ => rfl); generalize a1.eval = ρ at *
            skip
            go_simp <;> (intros; first | (exfalso; omega) | rfl)
          · intro vs p hI hp
            have h0 : (vs 0) = .pointer (some ⟨g, 0, none⟩) := hp 0 (by simp [Lpt9])
            have e47 : (Roll.putD Dpt9 vs [0] b0).eval (.tmp 47) = .pointer (some ⟨g, 0, none⟩) := (Roll.eval_new 0 rfl (by decide) (by decide) (by omega)).trans h0
            clear hp hlv hN
            unfold Roll.Goes
            simp only [Lpt9, List.getD_cons_zero, List.getD_cons_succ]
            generalize Roll.putD Dpt9 vs [0] b0 = a1 at *
            refine Roll.goes_val (w' := p) (.pointer (some ⟨g, 0, none⟩)) rfl ?_ ⟨hI, Below.refl _ _, rfl⟩
            (have ec : ∀ x, a1.eval (.const x) = x := fun _ => rfl); (have ef : ∀ x, a1.eval (.func x) = .func (.func x) #[] #[] := fun _ => rfl); generalize a1.eval = ρ at *
            clear h0
            go_simp <;> (intros; first | (exfalso; omega) | rfl)
          · intro vs p hI hp
            have h1 : (vs 1) = .pointer (some ⟨g, 0, none⟩) := hp 1 (by simp [Lpt9])
            have e48 : (Roll.putD Dpt9 vs [1] b0).eval (.tmp 48) = .pointer (some ⟨g, 0, none⟩) := (Roll.eval_new 1 rfl (by decide) (by decide) (by omega)).trans h1
            clear hp hlv hN
            unfold Roll.Goes
            simp only [Lpt9, List.getD_cons_zero, List.getD_cons_succ]
            generalize Roll.putD Dpt9 vs [1] b0 = a1 at *
            refine Roll.goes_val (w' := p) (.pointer (some ⟨g, 0, none⟩)) rfl ?_ ⟨hI, Below.refl _ _, rfl⟩
            (have ec : ∀ x, a1.eval (.const x) = x := fun _ => rfl); (have ef : ∀ x, a1.eval (.func x) = .func (.func x) #[] #[] := fun _ => rfl); generalize a1.eval = ρ at *
            clear h1
            go_simp <;> (intros; first | (exfalso; omega) | rfl)
          · intro vs p hI hp
            have h2 : (vs 2) = .pointer (some ⟨g, 0, none⟩) := hp 2 (by simp [Lpt9])
            have e49 : (Roll.putD Dpt9 vs [2] b0).eval (.tmp 49) = .pointer (some ⟨g, 0, none⟩) := (Roll.eval_new 2 rfl (by decide) (by decide) (by omega)).trans h2
            clear hp hlv hN
            unfold Roll.Goes
            simp only [Lpt9, List.getD_cons_zero, List.getD_cons_succ]
            generalize Roll.putD Dpt9 vs [2] b0 = a1 at *
            have cf : p.cell? ⟨g, 0, none⟩ = some (.pointer (some ⟨bg, 0, none⟩)) := (hI.cell (p := ⟨g, 0, none⟩) HGL.out).trans CG0.out
            refine Roll.goes_val (w' := p) (.pointer (some ⟨bg, 0, none⟩)) rfl ?_ ⟨hI, Below.refl _ _, rfl⟩
            (have ec : ∀ x, a1.eval (.const x) = x := fun _ => rfl); (have ef : ∀ x, a1.eval (.func x) = .func (.func x) #[] #[] := fun _ => rfl); generalize a1.eval = ρ at *
            clear h2
            go_simp <;> (intros; first | (exfalso; omega) | rfl)
          · intro vs p hI hp
            have e7 : (Roll.putD Dpt9 vs [] b0).eval (.tmp 7) = .pointer (some ⟨gb, 0, none⟩) := (Roll.eval_old rfl).trans (hlv.at 1 (7, .pointer (some ⟨gb, 0, none⟩)) rfl)
            clear hp hlv hN
            unfold Roll.Goes
            simp only [Lpt9, List.getD_cons_zero, List.getD_cons_succ]
            generalize Roll.putD Dpt9 vs [] b0 = a1 at *
            have ld0 := run_loadPair (range_below HRB.out (by simp [KV.cells]) hI)
            refine Roll.goes_val (w' := p) (.agg #[.string key, .string value]) rfl ?_ ⟨hI, Below.refl _ _, rfl⟩
            (have ec : ∀ x, a1.eval (.const x) = x := fun _ => rfl); (have ef : ∀ x, a1.eval (.func x) = .func (.func x) #[] #[] := fun _ => rfl); generalize a1.eval = ρ at *
            skip
            go_simp <;> (intros; first | (exfalso; omega) | rfl)
          · intro vs p hI hp
            have h3 : (vs 3) = .pointer (some ⟨bg, 0, none⟩) := hp 3 (by simp [Lpt9])
            have h4 : (vs 4) = .agg #[.string key, .string value] := hp 4 (by simp [Lpt9])
            have e50 : (Roll.putD Dpt9 vs [3, 4] b0).eval (.tmp 50) = .pointer (some ⟨bg, 0, none⟩) := (Roll.eval_new 3 rfl (by decide) (by decide) (by omega)).trans h3
            have e51 : (Roll.putD Dpt9 vs [3, 4] b0).eval (.tmp 51) = .agg #[.string key, .string value] := (Roll.eval_new 4 rfl (by decide) (by decide) (by omega)).trans h4
            clear hp hlv hN
            unfold Roll.Goes
            simp only [Lpt9, List.getD_cons_zero, List.getD_cons_succ]
            generalize Roll.putD Dpt9 vs [3, 4] b0 = a1 at *
            refine Roll.goes_call 50 #[.pointer (some ⟨bg, 0, none⟩), .agg #[.string key, .string value]] p rfl (by have ec : ∀ x, a1.eval (.const x) = x := fun _ => rfl; have ef : ∀ x, a1.eval (.func x) = .func (.func x) #[] #[] := fun _ => rfl; generalize a1.eval = ρ at *; go_simp) ?_
            refine (HPUT.out p hI).mono ?_
            rintro y p2 ⟨r, rfl, hnd, hb2, hpo⟩
            exact ⟨_, rfl, hI.trans (hb2.mono hI.size), hb2, r, rfl, hnd.dom (fun _ _ => trivial), hpo⟩
        · intro vs p hI hR
          have h0 : (vs 0) = .pointer (some ⟨g, 0, none⟩) := hR 0 (by omega)
          have h1 : (vs 1) = .pointer (some ⟨g, 0, none⟩) := hR 1 (by omega)
          have h2 : (vs 2) = .pointer (some ⟨g, 0, none⟩) := hR 2 (by omega)
          have h3 : (vs 3) = .pointer (some ⟨bg, 0, none⟩) := hR 3 (by omega)
          have h4 : (vs 4) = .agg #[.string key, .string value] := hR 4 (by omega)
          have h5 : ∃ r : BT, (vs 5) = .pointer (some ⟨r.g, 0, none⟩) ∧ NdD (fun _ => True) p r ∧ PutOf k b r ⟨key, value⟩ := hR 5 (by omega)
          clear hR
          simp only [List.range_succ, List.range_zero, List.nil_append, List.cons_append, Roll.putD, Act.put, List.getD_cons_zero, List.getD_cons_succ, List.setIfInBounds_toArray, List.set_cons_zero, List.set_cons_succ, List.drop_succ_cons, List.drop_zero, Dpt9]
          simp only [h0, h1, h2, h3, h4]
          clear h0 h1 h2 h3 h4
          generalize vs 5 = v5 at *
          obtain ⟨r, rfl, hnd, hpo⟩ := h5
          have HND := Lib.hid hnd
          have HPO := Lib.hid hpo
          have HI := Lib.hid hI
          obtain ⟨aR, nR, cR, bR, mR, eR, -, -, cr0, -, hrp, -, -⟩ := hnd.facts
          have hnr := hrp.1
          have hncr : nR ≤ cR := hrp.2.2.1
          have hcr : cR ≤ 9223372036854775807 := hrp.2.2.2.1
          subst hnr
          obtain ⟨rn, hrn⟩ : ∃ rn, rn = r.ps.length := ⟨_, rfl⟩
          rw [← hrn] at cr0 hncr
          have HRN := Lib.hid hrn
          have cg1 := (hI.cell (p := ⟨g, 1, none⟩) HGL.out).trans CG1.out
          have HSOR : Hid (Sorted r.toL) := Lib.hid (by rw [hpo.list]; exact insL_sorted HSO.out)
          by_cases h8 : 8 < rn
          · have h8' : (8 : Int) < (rn : Int) := by omega
            have hbn := run_bs1N r.g
            have hb94 := run_bld94b
            clear hnd hpo hI hrp hrn
            go_upto_region 12 with fail
            obtain ⟨q4, hq4⟩ : ∃ q4, q4 = (p.alloc (.cells #[.pointer (some ⟨r.g, 0, none⟩)] 85)).alloc (.cells #[.slice none 0 0, .slice (some ⟨p.heap.size, 0, none⟩) 1 1] 94) := ⟨_, rfl⟩
            obtain ⟨gN, hgN⟩ : ∃ gN, gN = p.heap.size + 1 := ⟨_, rfl⟩
            have hb4 : Below p.heap.size p q4 := by rw [hq4]; exact ((Below.refl _ _).alloc (Nat.le_refl _) _).alloc (by simp) _
            have hON : ON (fun _ => True) p q4 gN [] [r] [] := by
              have hg1 : q4.heap[p.heap.size]? = some (.cells #[.pointer (some ⟨r.g, 0, none⟩)] 85 (0, 0)) := by rw [hq4]; exact heap_old (heap_new rfl)
              have hg2 : q4.heap[gN]? = some (.cells #[.slice none 0 0, .slice (some ⟨p.heap.size, 0, none⟩) 1 1] 94 (0, 0)) := by rw [hq4, hgN]; exact heap_new (by simp)
              refine ⟨none, some p.heap.size, _, _, hg2, Own.nil _ _ _, Own.of hg1 (Nat.le_refl _) (by unfold maxLen; simp) rfl (by simp [pnts]), (by simp), (fun e => by cases e; omega), (fun _ e => by cases e), by omega, (fun _ e => by cases e), (fun j e => by cases e; exact Nat.le_refl _), fun x hx => ?_, hb4⟩
              have hx : x = r := by simpa using hx
              subst hx
              exact HND.out.off hb4 (by omega) (fun _ e => by cases e) (fun j e => by cases e; exact Nat.le_refl _)
            rw [← hq4, ← hgN]
            have HB4 := Lib.hid hb4
            have g0 : 0 < ([r] : List BT).length := by simp
            have g3 : 3 ≤ ([r] : List BT)[0].ps.length := by show 3 ≤ r.ps.length; have := HRN.out; omega
            have g9 : ([r] : List BT)[0].ps.length ≤ 900 := by show r.ps.length ≤ 900; have := HPO.out.high; have := HB8.out; omega
            have HSP := Lib.hid (split_any hON 0 g0 rfl (by simp) HPO.out.sh.lens g3 g9)
            have CG1P : Hid (∀ u, Below p.heap.size p u → u.cell? ⟨g, 1, none⟩ = some (.int .i64 ((treeL (some b)).length : Int))) := Lib.hid (fun u hu => (hu.cell (p := ⟨g, 1, none⟩) (Nat.lt_of_lt_of_le HGL.out HI.out.size)).trans cg1)
            clear hq4 hgN hb4 hON cg1 cr0
            go_wp2_with (go_at_call 51; refine HSP.out.mono ?_; rintro e q5 ⟨rfl, LL, RR, hon, l1, l2, r1, r2⟩; have HB5 := Lib.hid (by obtain ⟨_, _, _, _, h⟩ := hon; exact h.below : Below p.heap.size p q5); have cg5 := CG1P.out q5 HB5.out; have HON5 := Lib.hid hon; have HL5 := Lib.hid (And.intro l1 (And.intro l2 (And.intro r1 r2))); clear hon l1 l2 r1 r2)
            go_ret
            obtain ⟨l1, l2, r1, r2⟩ := HL5.out
            obtain ⟨m1, m2, m3, m4⟩ := split_math rfl (HPO.out.sh : (([r] : List BT)[0]).Sh k) (by show 7 ≤ r.ps.length; have := HRN.out; omega) (by show r.ps.length ≤ 16; have := HPO.out.high; have := HB8.out; omega) l1 l2 r1 r2
            have hnd5 := HON5.out
            obtain ⟨_, _, _, _, hnd5⟩ := hnd5
            have hnd6 := hnd5.nd.dom (D' := fun _ => True) (fun _ _ => trivial)
            refine put_fin HBQ2.out HI.out HB5.out hnd6 (k := k + 1) (.inr ⟨by omega, rfl, ?_⟩) (by show 1 ≤ 8; omega) (by show 1 ≤ 1; omega) ?_ ?_ (.inr rfl) ?_
            · intro x hx
              have hx : x ∈ [LL, RR] := hx
              have hx : x = LL ∨ x = RR := by simpa using hx
              rcases hx with rfl | rfl
              · exact m1
              · exact m2
            · rw [toL_mk]
              show toLs [_] [LL, RR] = _
              rw [toLs_cons, toLs_last]
              exact m3.symm.trans HPO.out.list
            · exact HLEN.out
            · intro P
              have h1 : LL.cnt P + RR.cnt P ≤ cntL P r.ks + 2 := m4 P
              have h2 := HPO.out.cnt P
              have h3 := cnt_eq P r
              have h4 := toNat_le (P gN)
              rw [cnt_mk]
              show _ + cntL P [LL, RR] ≤ _
              rw [cntL_cons, cntL_cons, cntL_nil]
              have h6 : tcnt P (some b) = b.cnt P := rfl
              omega
          · have h8' : ¬ (8 : Int) < (rn : Int) := by omega
            clear hnd hpo hI hrp hrn
            go_wp2_with fail
            go_ret
            refine put_fin HBQ2.out HI.out (Below.refl _ _) HND.out HPO.out.sh (by have := HRN.out; omega) (by have := HPO.out.low; have := HB8.out; omega) HPO.out.list ?_ (.inl rfl) ?_
            · exact HLEN.out
            · intro P
              have h2 := HPO.out.cnt P
              have h6 : tcnt P (some b) = b.cnt P := rfl
              omega
end Go.Proofs.Ytfgmhidgkemfoaa
namespace Go.Proofs.Ytfgmhidgkemfoaa
open Go.RowKit
set_option linter.unusedSimpArgs false
set_option linter.unusedVariables false
def DelT (w : World) (t : Option BT) (H : Nat) (key : ByteArray) (e : Ending) (w' : World) : Prop := ∃ g' t' H', e = .returned (.pointer (some ⟨g', 0, none⟩)) ∧ TT w' g' t' H' ∧ treeL t' = delL (treeL t) key ∧ (H' = H ∨ H' + 1 = H) ∧ (∀ P, tcnt P t' ≤ tcnt P t + (3 * H + 2)) ∧ Below w.heap.size w w'
set_option maxRecDepth 100000 in
set_option maxHeartbeats 4000000 in
theorem del_tree {w : World} {g : Nat} {t : Option BT} {H : Nat} (h : TT w g t H) (hlen : (treeL t).length ≤ 1000000) (key : ByteArray) :
    Calls Try.prog 27 #[.pointer (some ⟨g, 0, none⟩), .string key] w (DelT w t H key) := by
  have hb2 := run_bld87
  have HGET := Lib.hid (get_any h.tr h.ok h.so key)
  obtain ⟨G, hG⟩ : ∃ G, G = gotF (floorL (treeL t) key) key := ⟨_, rfl⟩
  rw [← hG] at HGET
  have HT := Lib.hid h
  have HGL := Lib.hid h.lt
  cases G with
  | none =>
    have HGET2 : Hid (Calls Try.prog 36 #[.pointer (some ⟨g, 0, none⟩), .string key] w fun e w' => e = .returned (.tuple #[.string ⟨#[]⟩, .bool false]) ∧ Below w.heap.size w w') := HGET
    have HRET : Hid (∀ u, Below w.heap.size w u → DelT w t H key (.returned (.pointer (some ⟨g, 0, none⟩))) u) := Lib.hid (fun u hu => ⟨g, t, H, rfl, h.under hu, (delL_none (fun p hp => got_none h.so hG.symm p hp)).symm, .inl rfl, fun P => by omega, hu⟩)
    clear HGET h hlen hG
    go_enter Try.func27, Try.ntmps27
    go_wp2_with (go_at_call 36; refine HGET2.out.mono ?_; rintro e q2 ⟨rfl, hb2⟩; have HB2 := Lib.hid hb2; clear hb2)
    go_ret
    exact HRET.out _ HB2.out
  | some v2 =>
    have hmem : KV.mk key v2 ∈ treeL t := got_some hG.symm
    have HGET2 : Hid (Calls Try.prog 36 #[.pointer (some ⟨g, 0, none⟩), .string key] w fun e w' => e = .returned (.tuple #[.string v2, .bool true]) ∧ Below w.heap.size w w') := HGET
    cases t with
    | none => cases hmem
    | some b =>
      obtain ⟨k, rfl⟩ : ∃ k, H = k + 1 := by
        rcases H with _ | k
        · exact h.ok.1.elim
        · exact ⟨k, rfl⟩
      have hwf := (wf_iff _ _).1 h.ok.1
      obtain ⟨v, cv0, cv1, hroot⟩ := h.tr.facts
      obtain ⟨bg, rfl, hbn⟩ := hroot
      obtain ⟨rfl, hbd⟩ := hbn
      have hlen2 : (delL b.toL key).length + 1 = b.toL.length := delL_len (q := ⟨key, v2⟩) h.so hmem
      have HL2 : Hid ((((treeL (some b)).length : Int) - 1) = ((delL b.toL key).length : Int)) := Lib.hid (by
        show ((b.toL.length : Int) - 1) = _
        omega)
      have hn1 : IntKind.i64.wrap (((treeL (some b)).length : Int) - 1) = ((treeL (some b)).length : Int) - 1 := i64_id _ (by omega) (by omega)
      have HREM : Hid (∀ p, Below w.heap.size w p → Calls Try.prog 54 #[.pointer (some ⟨b.g, 0, none⟩), .string key] p (DelRes (fun _ => True) p k b key)) := Lib.hid (fun p hp => remove_any k key (hbd.under hp) hwf.2 hwf.1 h.ok.2 h.so ⟨_, hmem, rfl⟩)
      have HSO : Hid (Sorted (delL b.toL key)) := Lib.hid (delL_sorted h.so)
      obtain ⟨bg, hbg⟩ : ∃ bg, bg = b.g := ⟨_, rfl⟩
      rw [← hbg] at cv0 HREM
      have C0 : Hid (∀ p, Below w.heap.size w p → p.cell? ⟨g, 0, none⟩ = some (.pointer (some ⟨bg, 0, none⟩))) := Lib.hid (fun p hp => (hp.cell (p := ⟨g, 0, none⟩) HGL.out).trans cv0)
      have C1 : Hid (∀ p, Below w.heap.size w p → p.cell? ⟨g, 1, none⟩ = some (.int .i64 ((treeL (some b)).length : Int))) := Lib.hid (fun p hp => (hp.cell (p := ⟨g, 1, none⟩) HGL.out).trans cv1)
      have HB18 : Hid (1 ≤ b.ps.length ∧ b.ps.length ≤ 8) := Lib.hid ⟨h.ok.2, hwf.1⟩
      clear HGET h hlen hG hmem hwf cv0 cv1 hbd hlen2 hbg
      go_enter Try.func27, Try.ntmps27
      go_upto_region 4 with (go_at_call 36; refine HGET2.out.mono ?_; rintro e q2 ⟨rfl, hb2⟩; have HB2 := Lib.hid hb2; have c0 := C0.out _ hb2; clear hb2)
      go_upto_region 5 with (go_at_call 54; refine (HREM.out _ HB2.out).mono ?_; rintro e q3 ⟨r, rfl, hnd, hb3, hpo⟩; have HB3 := Lib.hid (HB2.out.trans (hb3.mono HB2.out.size)); have HND := Lib.hid (hnd.dom (D' := fun _ => True) (fun _ _ => trivial)); have HPO := Lib.hid hpo; clear hnd hb3 hpo)
      obtain ⟨aR, nR, cR, bR, mR, eR, -, -, cr0, cr1, hrp, hrk, hrkd⟩ := HND.out.facts
      have hnr := hrp.1
      have hncr : nR ≤ cR := hrp.2.2.1
      have hcr : cR ≤ 9223372036854775807 := hrp.2.2.2.1
      subst hnr
      have c1 := C1.out _ HB3.out
      clear c0
      by_cases h0 : r.ps.length = 0
      · have h0' : ((r.ps.length : Int) == 0) = true := by rw [h0]; rfl
        by_cases hk0 : r.ks = []
        · have HK := Lib.hid (kid_leaf HND.out.nd (by rw [hk0]; rfl) 0)
          have HRN : Hid (∀ (u : World) (n : Int), n = ((delL b.toL key).length : Int) → Below w.heap.size w u → DelT w (some b) (k + 1) key (.returned (.pointer (some ⟨u.heap.size, 0, none⟩))) (u.alloc (.cells #[.pointer none, .int .i64 n] 87))) := Lib.hid (fun u n hn hu => by
            have hps : r.ps = [] := List.eq_nil_of_length_eq_zero h0
            have hl : delL b.toL key = [] := by rw [← HPO.out.list, toL_eq, hk0, hps, toLs_leaf]
            have hkk : k = 0 := by
              rcases HPO.out.sh with ⟨h, -⟩ | ⟨-, h, -⟩
              · exact h
              · rw [hk0, hps] at h; simp at h
            refine ⟨_, none, 0, rfl, ⟨⟨.pointer none, ?_, rfl⟩, rfl, List.Pairwise.nil⟩, ?_, .inr (by omega), fun P => Nat.zero_le _, hu.alloc hu.size _⟩
            · rw [hn, hl]
              exact heap_new rfl
            · show [] = delL b.toL key
              rw [hl])
          clear hrp hrk hrkd h0 hk0
          go_wp2_with (go_at_call 49; refine HK.out.mono ?_; rintro e w4 ⟨rfl, rfl⟩)
          go_ret
          exact HRN.out _ _ HL2.out HB3.out
        · have hkl : r.ks.length = r.ps.length + 1 := by
            rcases HPO.out.sh.lens with h | h
            · exact absurd h hk0
            · exact h
          have hk1 : r.ks.length = 1 := by omega
          have hk00 : 0 < r.ks.length := by omega
          have HK := Lib.hid (kid_any HND.out.nd 0 hk00)
          have HRN : Hid (∀ (u : World) (n : Int) (gk : Nat), n = ((delL b.toL key).length : Int) → Below w.heap.size w u → Nd u gk (r.ks[0]'hk00) → DelT w (some b) (k + 1) key (.returned (.pointer (some ⟨u.heap.size, 0, none⟩))) (u.alloc (.cells #[.pointer (some ⟨gk, 0, none⟩), .int .i64 n] 87))) := Lib.hid (fun u n gk hn hu hnd => by
            obtain ⟨rfl, hnd⟩ := hnd
            obtain ⟨k', hkk', hkids⟩ : ∃ k', k = k' + 1 ∧ ∀ x ∈ r.ks, x.Wf (k' + 1) ∧ 3 ≤ x.ps.length := by
              rcases HPO.out.sh with ⟨-, h⟩ | ⟨hne, -, h⟩
              · exact absurd h hk0
              · exact ⟨k - 1, by omega, by rw [show k - 1 + 1 = k by omega]; exact h⟩
            subst hkk'
            have hps : r.ps = [] := List.eq_nil_of_length_eq_zero h0
            have hks1 : r.ks = [r.ks[0]'hk00] := by
              have := at_split r.ks 0 hk00
              rw [List.take_zero, List.nil_append, List.drop_eq_nil_of_le (by omega)] at this
              exact this
            have hl : (r.ks[0]'hk00).toL = delL b.toL key := by
              rw [← HPO.out.list, toL_eq r, hps]
              conv => rhs; rw [hks1]
              rw [toLs_last]
            have hw := hkids _ (List.getElem_mem hk00)
            have hw2 := (wf_iff _ _).1 hw.1
            refine ⟨_, some (r.ks[0]'hk00), k' + 1, rfl, tree_made hnd hw2.2 hw2.1 (by omega) (by rw [hl]; exact HSO.out) n (by rw [hl]; exact hn), hl, .inr rfl, fun P => ?_, hu.alloc hu.size _⟩
            have h1 := HPO.out.cnt P
            have h2 : r.cnt P = (P r.g).toNat + (r.ks[0]'hk00).cnt P := by
              rw [cnt_eq]
              conv => lhs; rw [hks1]
              rw [cntL_cons, cntL_nil, Nat.add_zero]
            show (r.ks[0]'hk00).cnt P ≤ b.cnt P + _
            omega)
          clear hrp hrk hrkd h0 hk0 hkl
          go_wp2_with (go_at_call 49; refine HK.out.mono ?_; rintro e w4 ⟨gk, rfl, hnk, rfl⟩; have HNK := Lib.hid hnk; clear hnk)
          go_ret
          exact HRN.out _ _ _ HL2.out HB3.out HNK.out
      · have h0' : ((r.ps.length : Int) == 0) = false := by simpa using h0
        have HRN : Hid (∀ (u : World) (n : Int), n = ((delL b.toL key).length : Int) → Below w.heap.size w u → NdD (fun _ => True) u r → DelT w (some b) (k + 1) key (.returned (.pointer (some ⟨u.heap.size, 0, none⟩))) (u.alloc (.cells #[.pointer (some ⟨r.g, 0, none⟩), .int .i64 n] 87))) := Lib.hid (fun u n hn hu hnd => by
          refine ⟨_, some r, k + 1, rfl, tree_made hnd HPO.out.sh (by have := HPO.out.high; have := HB18.out; omega) (by omega) (by rw [HPO.out.list]; exact HSO.out) n (by rw [HPO.out.list]; exact hn), HPO.out.list, .inl rfl, fun P => ?_, hu.alloc hu.size _⟩
          have h1 := HPO.out.cnt P
          show r.cnt P ≤ b.cnt P + _
          omega)
        clear hrp hrk hrkd h0
        go_wp2_with fail
        go_ret
        exact HRN.out _ _ HL2.out HB3.out HND.out
end Go.Proofs.Ytfgmhidgkemfoaa
namespace Go.Proofs.Ytfgmhidgkemfoaa
open Go.RowKit
set_option linter.unusedSimpArgs false
set_option linter.unusedVariables false
/-- the pairs from a key on -/
def geL (from_ : ByteArray) (l : List KV) : List KV := l.filter fun p => decide (0 ≤ cmpK p.k from_)
theorem geL_app (f : ByteArray) (a b : List KV) : geL f (a ++ b) = geL f a ++ geL f b := by unfold geL; rw [List.filter_append]
theorem geL_cons (f : ByteArray) (p : KV) (b : List KV) (h : 0 ≤ cmpK p.k f) : geL f (p :: b) = p :: geL f b := by unfold geL; rw [List.filter_cons_of_pos (by simpa using h)]
theorem geL_lt (f : ByteArray) (a : List KV) (h : ∀ p ∈ a, cmpK p.k f < 0) : geL f a = [] := by
  unfold geL
  rw [List.filter_eq_nil_iff]
  intro p hp
  have := h p hp
  simp
  omega
def restT (T : BT) (j : Nat) : List KV := toLs (T.ps.drop j) (T.ks.drop j)
theorem restT_leaf (T : BT) (j : Nat) (h : T.ks = []) : restT T j = T.ps.drop j := by unfold restT; rw [h, List.drop_nil, toLs_leaf]
theorem restT_step (T : BT) (j : Nat) (hl : T.ks = [] ∨ T.ks.length = T.ps.length + 1) (hj : j < T.ps.length) : restT T j = treeL T.ks[j]? ++ T.ps[j] :: restT T (j + 1) := by
  rcases hl with h | h
  · rw [restT_leaf T j h, restT_leaf T (j + 1) h, h, List.drop_eq_getElem_cons hj]
    rfl
  · unfold restT
    rw [List.drop_eq_getElem_cons hj, List.drop_eq_getElem_cons (show j < T.ks.length by omega), toLs_cons, List.getElem?_eq_getElem (by omega)]
    rfl
theorem restT_end (T : BT) (hl : T.ks = [] ∨ T.ks.length = T.ps.length + 1) : restT T T.ps.length = treeL T.ks[T.ps.length]? := by
  rcases hl with h | h
  · rw [restT_leaf T _ h, h, List.drop_length]
    rfl
  · unfold restT
    rw [List.drop_length, List.drop_eq_getElem_cons (show T.ps.length < T.ks.length by omega), List.drop_eq_nil_of_le (by omega), toLs_last, List.getElem?_eq_getElem (by omega)]
    rfl
theorem restT_pre (T : BT) (i : Nat) (from_ : ByteArray) (hl : T.ks = [] ∨ T.ks.length = T.ps.length + 1) (hs : Sorted T.toL) (hp : Place T.ps from_ i) : geL from_ T.toL = geL from_ (restT T i) := by
  have hi := hp.1
  rcases hl with h | h
  · rw [restT_leaf T i h, toL_eq, h, toLs_leaf]
    conv => lhs; rw [← List.take_append_drop i T.ps]
    rw [geL_app, geL_lt, List.nil_append]
    intro q hq
    obtain ⟨t, ht, hti, rfl⟩ := mem_take2 hq
    exact hp.2.1 t ht hti
  · have hik : i < T.ks.length := by omega
    have e : T.toL = preL T.ps T.ks i ++ restT T i := by
      rw [toL_eq, toLs_split T.ps T.ks i hik h]
      unfold restT
      rw [List.drop_eq_getElem_cons hik, toLs_one _ _ _ (by simp only [List.length_drop]; omega)]
    rw [e] at hs
    rw [e, geL_app, geL_lt, List.nil_append]
    intro q hq
    by_cases h0 : i = 0
    · subst h0
      rw [preL_zero] at hq
      cases hq
    · obtain ⟨j, rfl⟩ : ∃ j, i = j + 1 := ⟨i - 1, by omega⟩
      obtain ⟨A, hA⟩ := preL_snoc T.ps T.ks j (by omega) hik
      rw [hA] at hq hs
      have h5 := hp.2.1 j (by omega) (by omega)
      rcases List.mem_append.1 hq with hq | hq
      · have := (sorted_app.1 (sorted_app.1 hs).1).2.2 q hq T.ps[j] (by simp)
        exact cmpK_trans this h5
      · rw [List.mem_singleton.1 hq]; exact h5
/-- what a round that goes on keeps: what lay below n₀, and the variables of the walk -/
def KP (n₀ : Nat) (W W' : World) : Prop := Below n₀ W W' ∧ ∀ (b : Nat) (cs : Array Value) (t : TypeId), (t = 9 ∨ t = 24 ∨ t = 124 ∨ t = 125) → W.heap[b]? = some (.cells cs t (0, 0)) → W'.heap[b]? = some (.cells cs t (0, 0))
theorem KP.refl (n₀ : Nat) (W : World) : KP n₀ W W := ⟨Below.refl _ _, fun _ _ _ _ h => h⟩
theorem KP.trans {n₀ : Nat} {A B C : World} (h : KP n₀ A B) (k : KP n₀ B C) : KP n₀ A C := ⟨h.1.trans k.1, fun b cs t ht hh => k.2 b cs t ht (h.2 b cs t ht hh)⟩
theorem KP.of {n₀ : Nat} {A B : World} (h : Below A.heap.size A B) (hn : n₀ ≤ A.heap.size) : KP n₀ A B := ⟨h.mono hn, fun b cs t _ hh => (h.block b (Array.getElem?_eq_some_iff.1 hh).1).trans hh⟩
end Go.Proofs.Ytfgmhidgkemfoaa
namespace Go.Proofs.Ytfgmhidgkemfoaa
open Go.RowKit Go.Shelf
set_option linter.unusedSimpArgs false
set_option linter.unusedVariables false
attribute [local go_sem] Oper.semAt_some
attribute [local go_sem ↓] exec_loadPair exec_at_zeroP exec_at_succP Go.wp_at_zero Go.wp_at_succ
theorem room_of_none' {F : Fence} (hd : F.depth = none) (k : Nat) : F.room k := fun d h => by rw [hd] at h; cases h
theorem RoundIn.anyDepth' {F : Fence} (hd : F.depth = none) {m m' : Nat} {P : Program} {l : Nat} {f : FuncId} {tmps : Array Value} {assign body : Code} {w : World} {R : Ending → World → Prop}
    (h : RoundIn F m P l f tmps assign body w R) : RoundIn F m' P l f tmps assign body w R := ⟨h.1, fun c cs _ => h.2 c cs (room_of_none' hd _)⟩
theorem YieldAt.anyDepth' {F : Fence} (hd : F.depth = none) {m : Nat} (m' : Nat) {P : Program} {l : Nat} {args : Array Value} {W : World} {R : Ending → World → Prop} (h : YieldAt F m P l args W R) : YieldAt F m' P l args W R := by
  obtain ⟨fn, tmps, assign, body, hy, hR⟩ := h
  exact ⟨fn, tmps, assign, body, hy, RoundIn.anyDepth' hd hR⟩
def pairV (p : KV) : Value := .agg #[.string p.k, .string p.v]
theorem take_at {F : Fence} {n : Nat} {P : Program} {md : Region.Mode} {ops : Array Oper} {Q : Exit → Act → World → Prop} {i d : Nat} {oi : Oper} {v : Value} {fuel : Nat} {listed : Array Bool} {l : List Value} {df : List Deferred} {w : World} (hro : F.round = none) (hi : ops[i]? = some oi) (hd : oi.dst = some d)
    (hs : Region.noSelect ops = true) (hf : Region.free md ops listed i = true) (hr : (Region.ready md ops listed).contains i = true)
    (hQ : ∀ c l l' df w, Q (.panic c) ⟨l, df⟩ w → Q (.panic c) ⟨l', df⟩ w) (hy : YieldsFenced P ops oi v ⟨l.toArray, df⟩)
    (h : wpAnyIn F n P md ops Q fuel (listed.setIfInBounds i true) ⟨(l.set d v).toArray, df⟩ w) : wpAnyIn F n P md ops Q (fuel + 1) listed ⟨l.toArray, df⟩ w := by
  refine wpAnyIn_take hro hi hs hf hr (fun c a w h => hQ c _ _ _ w (by unfold Act.put at h; rw [hd] at h; exact h)) hy ?_
  unfold Act.put
  rw [hd]
  simpa using h
/-- the variables of the walk -/
structure Vars (W : World) (bf bv bY l : Nat) (from_ : ByteArray) : Prop where
  f : W.heap[bf]? = some (.cells #[.string from_] 9 (0, 0))
  v : W.heap[bv]? = some (.cells #[.func (.func 77) #[] #[.pointer (some ⟨bf, 0, none⟩), .pointer (some ⟨bv, 0, none⟩), .pointer (some ⟨bY, 0, none⟩)]] 125 (0, 0))
  y : W.heap[bY]? = some (.cells #[.func (.yield l) #[] #[]] 124 (0, 0))
theorem Vars.kp {n₀ : Nat} {W W' : World} {bf bv bY l : Nat} {from_ : ByteArray} (h : Vars W bf bv bY l from_) (hk : KP n₀ W W') : Vars W' bf bv bY l from_ :=
  ⟨hk.2 _ _ _ (.inl rfl) h.f, hk.2 _ _ _ (.inr (.inr (.inr rfl))) h.v, hk.2 _ _ _ (.inr (.inr (.inl rfl))) h.y⟩
theorem NdD.kp {n₀ : Nat} {W W' : World} {T : BT} (h : NdD (fun b => b < n₀) W T) (hk : KP n₀ W W') : NdD (fun b => b < n₀) W' T :=
  h.kept (S := fun b => n₀ ≤ b) ⟨hk.1.os, hk.1.tape, hk.1.output, hk.1.size, fun b hb hs => hk.1.block b (by omega)⟩ (fun b _ hb e => by omega)
/-- what visit promises -/
def Vis (J Jx : List KV → World → Prop) (n₀ : Nat) (pre L : List KV) (W : World) (e : Ending) (W' : World) : Prop := (e = .returned (.bool true) ∧ J (pre ++ L) W' ∧ KP n₀ W W') ∨ (e = .returned (.bool false) ∧ ∃ q, q <+: L ∧ Jx (pre ++ q) W')
set_option maxRecDepth 100000 in
set_option maxHeartbeats 4000000 in
theorem visit_nil (F : Fence) (hF : F = Fence.wide) (l n₀ bf bv bY : Nat) (from_ : ByteArray) (J Jx : List KV → World → Prop) (n : Nat) (pre : List KV) (W : World) (hJ : J pre W) :
    CallsIn F n Try.prog 77 #[.pointer none, .pointer (some ⟨bf, 0, none⟩), .pointer (some ⟨bv, 0, none⟩), .pointer (some ⟨bY, 0, none⟩)] W (Vis J Jx n₀ pre [] W) := by
  have h77 : F.fn 77 := by rw [hF]; trivial
  have hro : F.round = none := by rw [hF]; rfl
  clear hF
  refine callsIn_of_wp Try.func77 rfl h77 ?_ hro
  simp only [Try.ntmps77, List.size_toArray, List.length_cons, List.length_nil, Nat.reduceAdd, Nat.reduceSub, Array.replicate_succ, Array.replicate_zero, List.push_toArray, List.append_toArray, List.nil_append, List.cons_append]
  gi_wp2
  go_ret
  exact .inl ⟨rfl, by rw [List.append_nil]; exact hJ, KP.refl _ _⟩
set_option maxRecDepth 100000 in
set_option maxHeartbeats 4000000 in
theorem visit_step (F : Fence) (hF : F = Fence.wide) (l n₀ bf bv bY N : Nat) (from_ : ByteArray) (J Jx : List KV → World → Prop) (hJb : ∀ s W W', J s W → Below W.heap.size W W' → J s W')
    (hY : ∀ m pre x W, J pre W → pre.length < N → YieldAt F m Try.prog l #[pairV x] W fun e W' => (e = .returned (.bool true) ∧ J (pre ++ [x]) W' ∧ KP n₀ W W') ∨ (e = .returned (.bool false) ∧ Jx (pre ++ [x]) W'))
    (T : BT) (k : Nat) (hs : T.Sh k) (h8 : T.ps.length ≤ 8) (hso : Sorted T.toL)
    (ih : ∀ (n : Nat) (C : BT) (pre : List KV) (W : World), C ∈ T.ks → Sorted C.toL → NdD (fun b => b < n₀) W C → n₀ ≤ W.heap.size → Vars W bf bv bY l from_ → J pre W → pre.length + (geL from_ C.toL).length ≤ N → CallsIn F n Try.prog 77 #[.pointer (some ⟨C.g, 0, none⟩), .pointer (some ⟨bf, 0, none⟩), .pointer (some ⟨bv, 0, none⟩), .pointer (some ⟨bY, 0, none⟩)] W (Vis J Jx n₀ pre (geL from_ C.toL) W))
    (n : Nat) (pre : List KV) (W : World) (hT : NdD (fun b => b < n₀) W T) (hn₀ : n₀ ≤ W.heap.size) (hV : Vars W bf bv bY l from_) (hJ : J pre W) (hN : pre.length + (geL from_ T.toL).length ≤ N) :
    CallsIn F n Try.prog 77 #[.pointer (some ⟨T.g, 0, none⟩), .pointer (some ⟨bf, 0, none⟩), .pointer (some ⟨bv, 0, none⟩), .pointer (some ⟨bY, 0, none⟩)] W (Vis J Jx n₀ pre (geL from_ T.toL) W) := by
  have h77 : F.fn 77 := by rw [hF]; trivial
  have h59 : F.fn 59 := by rw [hF]; trivial
  have h49 : F.fn 49 := by rw [hF]; trivial
  have hro : F.round = none := by rw [hF]; rfl
  have hdd : ∀ k : Nat, (F.depth.isSome = true → 1 ≤ k) := fun k h => by rw [hF] at h; cases h
  have HW : Hid (∀ {m : Nat} {f : FuncId} {args : Array Value} {u : World} {R : Ending → World → Prop}, Calls Try.prog f args u R → CallsIn F m Try.prog f args u R) := Lib.hid (fun h => by rw [hF]; exact callsIn_wide.2 h)
  have HF := Lib.hid hF
  clear hF
  obtain ⟨tg, htg⟩ : ∃ tg, tg = T.g := ⟨_, rfl⟩
  have HFI := Lib.hid (find_any hT.nd from_ (by exact Sorted.ps ((wf_iff _ _).2 ⟨h8, hs⟩) hso) (by omega))
  rw [← htg] at HFI ⊢
  have HTG := Lib.hid htg
  have cf := cell_of_row W bf 0 _ _ _ hV.f
  have HV := Lib.hid hV
  have HT := Lib.hid hT
  have HJ := Lib.hid hJ
  have HN := Lib.hid hN
  have HN0 := Lib.hid hn₀
  clear htg hV hT hJ hN hn₀
  refine callsIn_of_wp Try.func77 rfl h77 ?_ hro
  simp only [Try.ntmps77, List.size_toArray, List.length_cons, List.length_nil, Nat.reduceAdd, Nat.reduceSub, Array.replicate_succ, Array.replicate_zero, List.push_toArray, List.append_toArray, List.nil_append, List.cons_append]
  gi_wp2_with ((try refine ⟨hdd _, ?_⟩); gi_at_call 59; refine (HW.out HFI.out).mono ?_; rintro e W1 ⟨i, rfl, hpl, hb1⟩; have HPL := Lib.hid hpl; have HB1 := Lib.hid hb1; clear hpl hb1)
  have hE : geL from_ T.toL = geL from_ (restT T i) := restT_pre T i from_ hs.lens hso HPL.out
  have HB1K : Hid (KP n₀ W W1) := Lib.hid (KP.of HB1.out HN0.out)
  have HJ1 : Hid (J pre W1) := Lib.hid (hJb _ _ _ HJ.out HB1.out)
  have HE := Lib.hid hE
  have HIP := Lib.hid HPL.out.1
  have HS := Lib.hid hs
  have HSO := Lib.hid hso
  have HJB := Lib.hid hJb
  have HIH := Lib.hid ih
  have HYY := Lib.hid hY
  have H8 := Lib.hid h8
  clear hE hs hso hJb ih hY h8 cf
  gi_loopw [6] (fun u6 wr => ∃ (j : Nat) (done : List KV), u6 = .int .i64 (j : Int) ∧ i ≤ j ∧ j ≤ T.ps.length ∧ geL from_ T.toL = done ++ geL from_ (restT T j) ∧ J (pre ++ done) wr ∧ KP n₀ W wr) (fun u6 wr => T.ps.length - (intOf u6).toNat)
  case atStart => exact ⟨i, [], rfl, Nat.le_refl _, HIP.out, by rw [List.nil_append]; exact HE.out, by rw [List.append_nil]; exact HJ1.out, HB1K.out⟩
  case round =>
    obtain ⟨j, done, rfl, hij, hjn, hdone, hJ, hk⟩ := hrel
    have hTr := HT.out.kp hk
    have hVr := HV.out.kp hk
    obtain ⟨aT, nT, cT, bT, mT, eT, -, -, ct0, -, htp, -, -⟩ := hTr.facts
    rw [← HTG.out] at ct0
    have hnT := htp.1
    have hncT : nT ≤ cT := htp.2.2.1
    have hcT : cT ≤ 9223372036854775807 := htp.2.2.2.1
    have HDONE := Lib.hid hdone
    have HJ2 := Lib.hid hJ
    have HK2 := Lib.hid hk
    have cv : wr.cell? ⟨bv, 0, none⟩ = some (.func (.func 77) #[] #[.pointer (some ⟨bf, 0, none⟩), .pointer (some ⟨bv, 0, none⟩), .pointer (some ⟨bY, 0, none⟩)]) := cell_of_row wr bv 0 _ _ _ hVr.v
    have HVR := Lib.hid hVr
    have HTR := Lib.hid hTr
    have HNT := Lib.hid hnT
    have HKID : Hid (∃ xk : Value, (∀ u, Below wr.heap.size wr u → Calls Try.prog 49 #[.pointer (some ⟨tg, 0, none⟩), .int .i64 (j : Int)] u fun e w' => e = .returned xk ∧ u = w') ∧ ∀ (m : Nat) (u : World), Below wr.heap.size wr u → CallsIn F m Try.prog 77 #[xk, .pointer (some ⟨bf, 0, none⟩), .pointer (some ⟨bv, 0, none⟩), .pointer (some ⟨bY, 0, none⟩)] u (Vis J Jx n₀ (pre ++ done) (geL from_ (treeL T.ks[j]?)) u)) := Lib.hid (by
      have hn0r : n₀ ≤ wr.heap.size := Nat.le_trans HN0.out HK2.out.1.size
      have hlen : done.length + (geL from_ (treeL T.ks[j]?)).length ≤ (geL from_ T.toL).length := by
        rw [hdone, List.length_append]
        rcases Nat.lt_or_ge j T.ps.length with h | h
        · rw [restT_step T j HS.out.lens h, geL_app, List.length_append]; omega
        · obtain rfl : j = T.ps.length := by omega
          rw [restT_end T HS.out.lens]
          omega
      by_cases hk0 : T.ks = []
      · refine ⟨.pointer none, fun u hu => ?_, fun m u hu => ?_⟩
        · have := kid_leaf (hTr.under hu).nd (by rw [hk0]; rfl) (j : Int)
          rw [← HTG.out] at this
          exact this
        · have e : T.ks[j]? = none := by rw [hk0]; rfl
          rw [e]
          exact visit_nil F HF.out l n₀ bf bv bY from_ J Jx m (pre ++ done) u (HJB.out _ _ _ hJ hu)
      · have hkl : T.ks.length = T.ps.length + 1 := by
          rcases HS.out.lens with h | h
          · exact absurd h hk0
          · exact h
        have hjk : j < T.ks.length := by omega
        have e : T.ks[j]? = some T.ks[j] := List.getElem?_eq_getElem hjk
        refine ⟨.pointer (some ⟨T.ks[j].g, 0, none⟩), fun u hu => ?_, fun m u hu => ?_⟩
        · have := kid_any (hTr.under hu).nd j hjk
          rw [← HTG.out] at this
          refine this.mono ?_
          rintro e w' ⟨gk, rfl, hnd, rfl⟩
          exact ⟨by rw [hnd.1], rfl⟩
        · rw [e] at hlen ⊢
          have hsk : Sorted T.ks[j].toL := by
            have h := HSO.out
            rw [toL_eq, toLs_split T.ps T.ks j hjk hkl] at h
            exact (sorted_app.1 (sorted_app.1 h).2.1).1
          obtain ⟨_, _, _, _, _, _, -, -, -, -, -, -, hkd⟩ := (hTr.under hu).facts
          exact HIH.out m T.ks[j] (pre ++ done) u (List.getElem_mem hjk) hsk (hkd _ (List.getElem_mem hjk)) (Nat.le_trans hn0r hu.size) (hVr.kp (KP.of hu hn0r)) (HJB.out _ _ _ hJ hu) (by have := HN.out; rw [List.length_append]; show _ + (geL from_ (treeL (some T.ks[j]))).length ≤ _; omega))
    obtain ⟨xk, hck, hvk⟩ := HKID.out
    have HCK := Lib.hid hck
    have HVK := Lib.hid hvk
    clear hck hvk HKID
    have hbd : Below wr.heap.size wr wr.drew := (Below.refl _ wr).drew
    by_cases hlt : j < T.ps.length
    · have hlt' : (j : Int) < (nT : Int) := by omega
      obtain ⟨p, hp⟩ : ∃ p, p = T.ps[j]'hlt := ⟨_, rfl⟩
      have hst : geL from_ (restT T j) = geL from_ (treeL T.ks[j]?) ++ p :: geL from_ (restT T (j + 1)) := by
        rw [hp, restT_step T j HS.out.lens hlt, geL_app, geL_cons _ _ _ (HPL.out.2.2 j hlt hij)]
      obtain ⟨L, hL⟩ : ∃ L, L = geL from_ (treeL T.ks[j]?) := ⟨_, rfl⟩
      rw [← hL] at hst HVK
      have HST := Lib.hid hst
      have HP : Hid (T.ps[j]? = some p) := Lib.hid (by rw [hp]; exact List.getElem?_eq_getElem hlt)
      have HLT := Lib.hid hlt
      clear hVr hTr htp hnT hdone hJ hk hL hst hp hlt
      have hmix : Try.prog.follows .mixedOrders = true := by kernel_rfl
      gi_wp2
      have hF2 := HF.out
      subst hF2
      gi_region_with_o (first
        | ((try refine ⟨hdd _, ?_⟩); gi_at_call 49; refine (HW.out (HCK.out _ hbd)).mono ?_; rintro e W2 ⟨rfl, rfl⟩)
        | ((try refine ⟨hdd _, ?_⟩)
           gi_at_call 77
           rename_i KK hKK
           refine (HVK.out _ _ hbd).mono ?_
           rintro e W3 (⟨rfl, hJ3, hk3⟩ | ⟨rfl, q, hq, hx⟩)
           rotate_left
           · go_loud (
              refine hKK _ _ ?_
              refine take_at (i := 5) (d := 30) (v := ?_) rfl rfl rfl (by kernel_rfl) (by kernel_rfl) (by kernel_rfl) (fun _ _ _ _ _ h => h) ⟨Or.inl ⟨by kernel_rfl, ?_⟩, fun _ => by kernel_rfl⟩ ?_
              rotate_left
              · intro w; go_simp; try rfl
              simp only [List.set_cons_zero, List.set_cons_succ]
              refine take_at (i := 6) (d := 31) (v := ?_) rfl rfl rfl (by kernel_rfl) (by kernel_rfl) (by kernel_rfl) (fun _ _ _ _ _ h => h) ⟨Or.inl ⟨by kernel_rfl, ?_⟩, fun _ => by kernel_rfl⟩ ?_
              rotate_left
              · intro w; go_simp; try rfl
              simp only [List.set_cons_zero, List.set_cons_succ]
              refine take_at (i := 7) (d := 32) rfl rfl rfl (by kernel_rfl) (by kernel_rfl) (by kernel_rfl) (fun _ _ _ _ _ h => h) ⟨Or.inr ⟨by kernel_rfl, by rfl⟩, fun _ => by kernel_rfl⟩ ?_
              simp only [List.set_cons_zero, List.set_cons_succ]
              refine take_at (i := 8) (d := 33) rfl rfl rfl (by kernel_rfl) (by kernel_rfl) (by kernel_rfl) (fun _ _ _ _ _ h => h) ⟨Or.inr ⟨by kernel_rfl, by rfl⟩, fun _ => by kernel_rfl⟩ ?_
              simp only [List.set_cons_zero, List.set_cons_succ]
              refine take_at (i := 9) (d := 34) rfl rfl rfl (by kernel_rfl) (by kernel_rfl) (by kernel_rfl) (fun _ _ _ _ _ h => h) ⟨Or.inr ⟨by kernel_rfl, by rfl⟩, fun _ => by kernel_rfl⟩ ?_
              simp only [List.set_cons_zero, List.set_cons_succ]
              refine take_at (i := 10) (d := 35) rfl rfl rfl (by kernel_rfl) (by kernel_rfl) (by kernel_rfl) (fun _ _ _ _ _ h => h) ⟨Or.inr ⟨by kernel_rfl, by rfl⟩, fun _ => by kernel_rfl⟩ ?_
              simp only [List.set_cons_zero, List.set_cons_succ]
              refine take_at (i := 11) (d := 36) rfl rfl rfl (by kernel_rfl) (by kernel_rfl) (by kernel_rfl) (fun _ _ _ _ _ h => h) ⟨Or.inr ⟨by kernel_rfl, by rfl⟩, fun _ => by kernel_rfl⟩ ?_
              simp only [List.set_cons_zero, List.set_cons_succ]
              refine take_at (i := 12) (d := 37) rfl rfl rfl (by kernel_rfl) (by kernel_rfl) (by kernel_rfl) (fun _ _ _ _ _ h => h) ⟨Or.inr ⟨by kernel_rfl, by rfl⟩, fun _ => by kernel_rfl⟩ ?_
              simp only [List.set_cons_zero, List.set_cons_succ]
              refine take_at (i := 13) (d := 38) rfl rfl rfl (by kernel_rfl) (by kernel_rfl) (by kernel_rfl) (fun _ _ _ _ _ h => h) ⟨Or.inr ⟨by kernel_rfl, by rfl⟩, fun _ => by kernel_rfl⟩ ?_
              simp only [List.set_cons_zero, List.set_cons_succ]
              refine take_at (i := 14) (d := 39) rfl rfl rfl (by kernel_rfl) (by kernel_rfl) (by kernel_rfl) (fun _ _ _ _ _ h => h) ⟨Or.inr ⟨by kernel_rfl, by rfl⟩, fun _ => by kernel_rfl⟩ ?_
              simp only [List.set_cons_zero, List.set_cons_succ]
              refine take_at (i := 15) (d := 40) rfl rfl rfl (by kernel_rfl) (by kernel_rfl) (by kernel_rfl) (fun _ _ _ _ _ h => h) ⟨Or.inr ⟨by kernel_rfl, by rfl⟩, fun _ => by kernel_rfl⟩ ?_
              simp only [List.set_cons_zero, List.set_cons_succ]
              refine take_at (i := 16) (d := 41) rfl rfl rfl (by kernel_rfl) (by kernel_rfl) (by kernel_rfl) (fun _ _ _ _ _ h => h) ⟨Or.inr ⟨by kernel_rfl, by rfl⟩, fun _ => by kernel_rfl⟩ ?_
              simp only [List.set_cons_zero, List.set_cons_succ]
              refine take_at (i := 17) (d := 42) (v := ?_) rfl rfl rfl (by kernel_rfl) (by kernel_rfl) (by kernel_rfl) (fun _ _ _ _ _ h => h) ⟨Or.inl ⟨by kernel_rfl, ?_⟩, fun _ => by kernel_rfl⟩ ?_
              rotate_left
              · intro w; go_simp; try rfl
              simp only [List.set_cons_zero, List.set_cons_succ]
              refine wpAnyIn_done (by kernel_rfl) ?_ _
              gi_wp2
              go_ret
              exact .inr ⟨rfl, done ++ q, by rw [HDONE.out, HST.out]; exact (List.prefix_append_right_inj done).2 (hq.trans (List.prefix_append _ _)), by rw [← List.append_assoc]; exact hx⟩)
           have hkw : KP n₀ W W3 := HK2.out.trans ((KP.of hbd (Nat.le_trans HN0.out HK2.out.1.size)).trans hk3)
           obtain ⟨aU, nU, cU, bU, mU, eU, -, -, cu0, -, hup, -, -⟩ := (HT.out.kp hkw).facts
           rw [← HTG.out] at cu0
           have hnU : T.ps.length = nU := hup.1
           obtain ⟨bb, off, -, hbb, rfl, hcell⟩ := hup.at (by have := HLT.out; omega)
           have hr := hcell j HLT.out
           obtain ⟨kv, hkv⟩ : ∃ kv, kv = T.ps[j]'HLT.out := ⟨_, rfl⟩
           rw [← hkv] at hr
           obtain rfl : p = kv := by have := HP.out; rw [List.getElem?_eq_getElem HLT.out, ← hkv] at this; exact (Option.some.inj this).symm
           obtain ⟨ob, hob⟩ : ∃ ob, ob = off + j * 2 := ⟨_, rfl⟩
           rw [← hob] at hr
           have hob2 : off + j * 2 = ob := hob.symm
           have ld0 := run_loadPair hr
           have hjU : (j : Int) < (nU : Int) := by have := HLT.out; omega
           have hU1 : nU ≤ cU := hup.2.2.1
           have hU2 : cU ≤ 9223372036854775807 := hup.2.2.2.1
           have cy : W3.cell? ⟨bY, 0, none⟩ = some (.func (.yield l) #[] #[]) := cell_of_row W3 bY 0 _ _ _ (HV.out.kp hkw).y
           obtain ⟨fn, ytm, yas, ybo, hy, hR⟩ := HYY.out n (pre ++ done ++ L) p W3 hJ3 (by have h := HN.out; rw [HDONE.out, HST.out] at h; simp only [List.length_append, List.length_cons] at h ⊢; omega)
           unfold pairV at hy
           have HRR := Lib.hid hR
           have HJ3 := Lib.hid hJ3
           have HKW := Lib.hid hkw
           clear hcell hr hkv hob hup hnU hR hJ3 hkw hk3)
        | ((try refine ⟨hdd _, ?_⟩)
           rename_i KK hKK
           refine (RoundIn.anyDepth' rfl HRR.out).mono ?_
           rintro e W4 (⟨rfl, hJ4, hk4⟩ | ⟨rfl, hx⟩)
           rotate_left
           · go_loud (
              refine hKK _ _ ?_
              refine take_at (i := 16) (d := 41) (v := ?_) rfl rfl rfl (by kernel_rfl) (by kernel_rfl) (by kernel_rfl) (fun _ _ _ _ _ h => h) ⟨Or.inl ⟨by kernel_rfl, ?_⟩, fun _ => by kernel_rfl⟩ ?_
              rotate_left
              · intro w; go_simp; try rfl
              simp only [List.set_cons_zero, List.set_cons_succ]
              refine take_at (i := 17) (d := 42) (v := ?_) rfl rfl rfl (by kernel_rfl) (by kernel_rfl) (by kernel_rfl) (fun _ _ _ _ _ h => h) ⟨Or.inl ⟨by kernel_rfl, ?_⟩, fun _ => by kernel_rfl⟩ ?_
              rotate_left
              · intro w; go_simp; try rfl
              simp only [List.set_cons_zero, List.set_cons_succ]
              refine wpAnyIn_done (by kernel_rfl) ?_ _
              gi_wp2
              go_ret
              exact .inr ⟨rfl, done ++ (L ++ [p]), by rw [HDONE.out, HST.out]; exact (List.prefix_append_right_inj done).2 ((List.prefix_append_right_inj L).2 ⟨geL from_ (restT T (j + 1)), rfl⟩), by simpa only [List.append_assoc] using hx⟩)
           skip))
      all_goals gi_wp2
      all_goals exact ⟨⟨j + 1, done ++ (L ++ [p]), by congr 1, by omega, by have := HLT.out; omega, by rw [HDONE.out, HST.out]; simp only [List.append_assoc, List.cons_append, List.nil_append], by simpa only [List.append_assoc] using hJ4, HKW.out.trans hk4⟩, by have := HLT.out; show T.ps.length - ((j : Int) + 1).toNat < T.ps.length - ((j : Int)).toNat; omega⟩
    · have hge : ¬ ((j : Int) < (nT : Int)) := by omega
      have HST : Hid (geL from_ T.toL = done ++ geL from_ (treeL T.ks[j]?)) := Lib.hid (by have e : j = T.ps.length := (by omega); rw [HDONE.out, e, restT_end T HS.out.lens])
      have hmix : Try.prog.follows .mixedOrders = true := by kernel_rfl
      clear hVr hTr htp hnT hdone hJ hk hlt hij hjn
      gi_wp2
      have hF2 := HF.out
      subst hF2
      gi_region_with_o (first
        | ((try refine ⟨hdd _, ?_⟩); gi_at_call 49; refine (HW.out (HCK.out _ hbd)).mono ?_; rintro e W2 ⟨rfl, rfl⟩)
        | ((try refine ⟨hdd _, ?_⟩); gi_at_call 77; refine (HVK.out _ _ hbd).mono ?_; rintro e W3 h; obtain ⟨vb, rfl⟩ : ∃ vb, e = .returned vb := by (rcases h with ⟨rfl, _⟩ | ⟨rfl, _⟩ <;> exact ⟨_, rfl⟩)))
      all_goals gi_wp2
      all_goals go_ret
      all_goals
        rcases h with ⟨he, hJ3, hk3⟩ | ⟨he, q, hq, hx⟩
        · exact .inl ⟨he, by rw [HST.out, ← List.append_assoc]; exact hJ3, HK2.out.trans ((KP.of hbd (Nat.le_trans HN0.out HK2.out.1.size)).trans hk3)⟩
        · exact .inr ⟨he, done ++ q, by rw [HST.out]; exact (List.prefix_append_right_inj done).2 hq, by rw [← List.append_assoc]; exact hx⟩
theorem visit_any (F : Fence) (hF : F = Fence.wide) (l n₀ bf bv bY N : Nat) (from_ : ByteArray) (J Jx : List KV → World → Prop) (hJb : ∀ s W W', J s W → Below W.heap.size W W' → J s W')
    (hY : ∀ m pre x W, J pre W → pre.length < N → YieldAt F m Try.prog l #[pairV x] W fun e W' => (e = .returned (.bool true) ∧ J (pre ++ [x]) W' ∧ KP n₀ W W') ∨ (e = .returned (.bool false) ∧ Jx (pre ++ [x]) W')) :
    ∀ (k : Nat) (T : BT), T.Wf (k + 1) → Sorted T.toL → ∀ (n : Nat) (pre : List KV) (W : World), NdD (fun b => b < n₀) W T → n₀ ≤ W.heap.size → Vars W bf bv bY l from_ → J pre W → pre.length + (geL from_ T.toL).length ≤ N →
      CallsIn F n Try.prog 77 #[.pointer (some ⟨T.g, 0, none⟩), .pointer (some ⟨bf, 0, none⟩), .pointer (some ⟨bv, 0, none⟩), .pointer (some ⟨bY, 0, none⟩)] W (Vis J Jx n₀ pre (geL from_ T.toL) W) := by
  intro k
  induction k with
  | zero =>
    intro T hw hs n pre W hT hn hV hJ hN
    obtain ⟨h8, hsh⟩ := (wf_iff _ _).1 hw
    refine visit_step F hF l n₀ bf bv bY N from_ J Jx hJb hY T 0 hsh h8 hs (fun n C pre W hC => ?_) n pre W hT hn hV hJ hN
    rcases hsh with ⟨-, h⟩ | ⟨h, -⟩
    · rw [h] at hC; cases hC
    · exact absurd rfl h
  | succ k ih =>
    intro T hw hs n pre W hT hn hV hJ hN
    obtain ⟨h8, hsh⟩ := (wf_iff _ _).1 hw
    refine visit_step F hF l n₀ bf bv bY N from_ J Jx hJb hY T (k + 1) hsh h8 hs (fun n C pre W hC => ?_) n pre W hT hn hV hJ hN
    rcases hsh with ⟨h, -⟩ | ⟨-, -, h⟩
    · cases h
    · exact fun hsC hNd hn hV hJ hN => ih C (h C hC).1 hsC n pre W hNd hn hV hJ hN
end Go.Proofs.Ytfgmhidgkemfoaa
namespace Go.Proofs.Ytfgmhidgkemfoaa
open Go.RowKit Go.Shelf
set_option linter.unusedSimpArgs false
set_option linter.unusedVariables false
attribute [local go_sem] Oper.semAt_some
theorem run_storeF {P : Program} {w : World} {a : Addr} {m : Mode} (fn : Fn) (first captured : Array Value) : (Go.store a (.func fn first captured) m).run P w = stored P w a (.func fn first captured) m := run_store P w a _ m rfl
attribute [local go_sem] run_storeF
theorem abides_below {β : Type} {B : Nat} {J : β → World → Prop} (h : AbidesFrom B J) (s : β) (W W' : World) (hs : J s W) (hb : Below W.heap.size W W') : J s W' :=
  h s W W' none hs ⟨hb.os, hb.tape, hb.output, hb.size, fun i hi _ => hb.block i hi⟩ (fun r e => by cases e)
/-- what the iterator over a tree reads -/
structure Itr (n₀ : Nat) (w : World) (bf bt g : Nat) (v : Value) (t : Option BT) (from_ : ByteArray) : Prop where
  hf : w.heap[bf]? = some (.cells #[.string from_] 9 (0, 0))
  ht : w.heap[bt]? = some (.cells #[.pointer (some ⟨g, 0, none⟩)] 24 (0, 0))
  lt : g < n₀
  hr : w.heap[g]? = some (.cells #[v, .int .i64 ((treeL t).length : Int)] 87 (0, 0))
  hk : match t with | none => v = .pointer none | some T => v = .pointer (some ⟨T.g, 0, none⟩) ∧ NdD (fun b => b < n₀) w T
theorem Itr.kp {n₀ : Nat} {w w' : World} {bf bt g : Nat} {v : Value} {t : Option BT} {from_ : ByteArray} (h : Itr n₀ w bf bt g v t from_) (hk : KP n₀ w w') : Itr n₀ w' bf bt g v t from_ := by
  refine ⟨hk.2 _ _ _ (.inl rfl) h.hf, hk.2 _ _ _ (.inr (.inl rfl)) h.ht, h.lt, (hk.1.block g h.lt).trans h.hr, ?_⟩
  have := h.hk
  cases t with
  | none => exact this
  | some T => exact ⟨this.1, this.2.kp hk⟩
set_option maxRecDepth 100000 in
set_option maxHeartbeats 4000000 in
theorem pairs1_in (F : Fence) (hF : F = Fence.wide) (n l n₀ bf bt g : Nat) (v : Value) (t : Option BT) (H : Nat) (from_ : ByteArray) (ht : TOk t H) (hs : Sorted (treeL t)) (J Jx : List KV → World → Prop) (W : World) (hn₀ : n₀ ≤ W.heap.size) (hJa : AbidesFrom W.heap.size J)
    (hY : ∀ pre x W1, J pre W1 → pre.length < (geL from_ (treeL t)).length → YieldAt F (n - 1) Try.prog l #[pairV x] W1 fun e W' => (e = .returned (.bool true) ∧ J (pre ++ [x]) W' ∧ KP n₀ W1 W') ∨ (e = .returned (.bool false) ∧ Jx (pre ++ [x]) W'))
    (hI : Itr n₀ W bf bt g v t from_) (h0 : J [] W) :
    CallsIn F n Try.prog 76 #[.func (.yield l) #[] #[], .pointer (some ⟨bf, 0, none⟩), .pointer (some ⟨bt, 0, none⟩)] W fun e W' => (∃ v, e = .returned v) ∧ ((∃ xs, xs = geL from_ (treeL t) ∧ J xs W') ∨ (∃ pre, pre <+: geL from_ (treeL t) ∧ Jx pre W')) := by
  have h76 : F.fn 76 := by rw [hF]; trivial
  have h77 : F.fn 77 := by rw [hF]; trivial
  have hro : F.round = none := by rw [hF]; rfl
  have hdd : ∀ k : Nat, (F.depth.isSome = true → 1 ≤ k) := fun k h => by rw [hF] at h; cases h
  have hdn : F.depth = none := by rw [hF]; rfl
  have HF := Lib.hid hF
  have HI := Lib.hid hI
  clear hF
  have c0 : W.cell? ⟨bt, 0, none⟩ = some (.pointer (some ⟨g, 0, none⟩)) := cell_of_row W bt 0 _ _ _ hI.ht
  have c1 : W.cell? ⟨g, 0, none⟩ = some v := cell_of_row W g 0 _ _ _ hI.hr
  have HY := Lib.hid hY
  have HJA := Lib.hid hJa
  have H0 := Lib.hid h0
  have HN0 := Lib.hid hn₀
  clear hI hY hJa h0 hn₀
  refine callsIn_of_wp Try.func76 rfl h76 ?_ hro
  simp only [Try.ntmps76, List.size_toArray, List.length_cons, List.length_nil, Nat.reduceAdd, Nat.reduceSub, Array.replicate_succ, Array.replicate_zero, List.push_toArray, List.append_toArray, List.nil_append, List.cons_append]
  have bx := Boxed.new (W.alloc (.cells #[.func (.yield l) #[] #[]] 124)) 125 .nilFunc
  simp only [World.size_alloc] at bx
  have cx := bx.cell
  have fx := bx.frozen
  clear bx
  gi_wp2
  clear cx fx
  obtain ⟨W3, hW3⟩ : ∃ W3, W3 = ((W.alloc (.cells #[.func (.yield l) #[] #[]] 124)).alloc (.cells #[.func (.func 77) #[] #[.pointer (some ⟨bf, 0, none⟩), .pointer (some ⟨W.heap.size + 1, 0, none⟩), .pointer (some ⟨W.heap.size, 0, none⟩)]] 125)) := ⟨_, rfl⟩
  rw [← hW3]
  have hb3 : Below W.heap.size W W3 := by rw [hW3]; exact ((Below.refl _ W).alloc (Nat.le_refl _) _).alloc (by simp) _
  have hv3 : W3.heap[W.heap.size + 1]? = some (.cells #[.func (.func 77) #[] #[.pointer (some ⟨bf, 0, none⟩), .pointer (some ⟨W.heap.size + 1, 0, none⟩), .pointer (some ⟨W.heap.size, 0, none⟩)]] 125 (0, 0)) := by
    rw [hW3]; have := World.alloc_heap_new (W.alloc (.cells #[.func (.yield l) #[] #[]] 124)) (.cells #[.func (.func 77) #[] #[.pointer (some ⟨bf, 0, none⟩), .pointer (some ⟨W.heap.size + 1, 0, none⟩), .pointer (some ⟨W.heap.size, 0, none⟩)]] 125 (0, 0)); rwa [World.size_alloc] at this
  have hy3 : W3.heap[W.heap.size]? = some (.cells #[.func (.yield l) #[] #[]] 124 (0, 0)) := by
    rw [hW3]; exact (Below.heap_alloc _ _ _ (by simp)).trans (World.alloc_heap_new W _)
  clear hW3 c0 c1
  have hn3 : n₀ ≤ W3.heap.size := Nat.le_trans HN0.out hb3.size
  have hi3 := HI.out.kp (KP.of hb3 HN0.out)
  have HVK : Hid (∀ (m : Nat) (u : World), Below W3.heap.size W3 u → CallsIn F m Try.prog 77 #[v, .pointer (some ⟨bf, 0, none⟩), .pointer (some ⟨W.heap.size + 1, 0, none⟩), .pointer (some ⟨W.heap.size, 0, none⟩)] u (Vis J Jx n₀ [] (geL from_ (treeL t)) u)) := Lib.hid (by
    intro m u hu
    have hJu : J [] u := abides_below HJA.out _ _ _ (abides_below HJA.out _ _ _ H0.out hb3) hu
    have hku : KP n₀ W3 u := KP.of hu hn3
    have hiu := hi3.kp hku
    have hVu : Vars u bf (W.heap.size + 1) W.heap.size l from_ := Vars.kp ⟨hi3.hf, hv3, hy3⟩ hku
    have hk := hiu.hk
    cases t with
    | none =>
      obtain rfl : v = .pointer none := hk
      exact visit_nil F HF.out l n₀ bf _ _ from_ J Jx m [] u hJu
    | some T =>
      obtain ⟨rfl, hnd⟩ := hk
      obtain ⟨hw, h1⟩ := ht
      cases H with
      | zero => exact hw.elim
      | succ k => exact visit_any F HF.out l n₀ bf _ _ (geL from_ T.toL).length from_ J Jx (fun s A B hj hb => abides_below HJA.out s A B hj hb) (fun m' pre x W1 hj hl => YieldAt.anyDepth' hdn m' (HY.out pre x W1 hj hl)) k T hw hs m [] u hnd (Nat.le_trans hn3 hu.size) hVu hJu (by simp))
  have c0 : W3.cell? ⟨bt, 0, none⟩ = some (.pointer (some ⟨g, 0, none⟩)) := cell_of_row W3 bt 0 _ _ _ hi3.ht
  have c1 : W3.cell? ⟨g, 0, none⟩ = some v := cell_of_row W3 g 0 _ _ _ hi3.hr
  have cv : W3.cell? ⟨W.heap.size + 1, 0, none⟩ = some (.func (.func 77) #[] #[.pointer (some ⟨bf, 0, none⟩), .pointer (some ⟨W.heap.size + 1, 0, none⟩), .pointer (some ⟨W.heap.size, 0, none⟩)]) := cell_of_row W3 (W.heap.size + 1) 0 _ _ _ hv3
  have hbd : Below W3.heap.size W3 W3.drew := (Below.refl _ W3).drew
  clear hi3 hv3 hy3 hb3 hn3 ht hs
  have hmix : Try.prog.follows .mixedOrders = true := by kernel_rfl
  have hF2 := HF.out
  subst hF2
  gi_region_with_o ((try refine ⟨hdd _, ?_⟩); gi_at_call 77; refine (HVK.out _ _ hbd).mono ?_; rintro e W4 h; obtain ⟨vb, rfl⟩ : ∃ vb, e = .returned vb := by (rcases h with ⟨rfl, _⟩ | ⟨rfl, _⟩ <;> exact ⟨_, rfl⟩))
  all_goals gi_wp2
  all_goals go_end0
  all_goals
    refine ⟨⟨_, rfl⟩, ?_⟩
    rcases h with ⟨he, hJ3, hk3⟩ | ⟨he, q, hq, hx⟩
    · exact .inl ⟨_, rfl, hJ3⟩
    · exact .inr ⟨q, hq, hx⟩
/-- what pairs returns may be ranged over -/
theorem pairs1_stops (F : Fence) (hF : F = Fence.wide) (n n₀ bf bt g : Nat) (v : Value) (t : Option BT) (H : Nat) (from_ : ByteArray) (ht : TOk t H) (hs : Sorted (treeL t)) (w : World) (hn₀ : n₀ ≤ w.heap.size) (hI : Itr n₀ w bf bt g v t from_) :
    SeqStopsK F n Try.prog 76 #[.pointer (some ⟨bf, 0, none⟩), .pointer (some ⟨bt, 0, none⟩)] (fun x : KV => #[pairV x]) (KP n₀) (fun xs => xs = geL from_ (treeL t)) (fun pre => pre <+: geL from_ (treeL t)) (geL from_ (treeL t)).length w :=
  fun l J Jx W hW hJ _ hY h0 => pairs1_in F hF n l n₀ bf bt g v t H from_ ht hs J Jx W (Nat.le_trans hn₀ hW.size) hJ hY (hI.kp (KP.of hW hn₀)) h0
/-- Kp of the law of loops -/
theorem KP.putObj {n₀ : Nat} {B : Nat} (hB : n₀ ≤ B) (W : World) (l : Nat) (o o' : Obj) (hl : B ≤ l) (h : W.heap[l]? = some o) (hc : o.isCells = false) : KP n₀ W (W.putObj l o') := by
  refine ⟨(Below.refl n₀ W).grown (grownBy_putObj' W l o') (by have := (Array.getElem?_eq_some_iff.1 h).1; omega) (fun k e => by cases e; omega), fun b cs t _ hh => ?_⟩
  by_cases e : b = l
  · subst e
    rw [h] at hh
    cases hh
    cases hc
  · exact (World.putObj_heap_other e).trans hh
set_option maxRecDepth 100000 in
theorem pairs_any {w : World} {g : Nat} (from_ : ByteArray) :
    Calls Try.prog 55 #[.pointer (some ⟨g, 0, none⟩), .string from_] w fun e w' => e = .returned (.func (.func 76) #[] #[.pointer (some ⟨w.heap.size + 1, 0, none⟩), .pointer (some ⟨w.heap.size, 0, none⟩)]) ∧ w' = (w.alloc (.cells #[.pointer (some ⟨g, 0, none⟩)] 24)).alloc (.cells #[.string from_] 9) := by
  go_enter Try.func55, Try.ntmps55
  go_wp2
  go_ret
  exact ⟨rfl, rfl⟩
/-- what pairs leaves -/
theorem Itr.made {w : World} {g : Nat} {t : Option BT} (h : Tr w g t) (from_ : ByteArray) : ∃ v, Itr w.heap.size ((w.alloc (.cells #[.pointer (some ⟨g, 0, none⟩)] 24)).alloc (.cells #[.string from_] 9)) (w.heap.size + 1) w.heap.size g v t from_ := by
  obtain ⟨v, h1, h2⟩ := h
  have hb : Below w.heap.size w ((w.alloc (.cells #[.pointer (some ⟨g, 0, none⟩)] 24)).alloc (.cells #[.string from_] 9)) := ((Below.refl _ w).alloc (Nat.le_refl _) _).alloc (by simp) _
  have hg := (Array.getElem?_eq_some_iff.1 h1).1
  refine ⟨v, ?_, (Below.heap_alloc _ _ _ (by simp)).trans (World.alloc_heap_new w _), hg, (hb.block g hg).trans h1, ?_⟩
  · have := World.alloc_heap_new (w.alloc (.cells #[.pointer (some ⟨g, 0, none⟩)] 24)) (.cells #[.string from_] 9)
    rwa [World.size_alloc] at this
  · cases t with
    | none => exact h2
    | some T =>
      obtain ⟨g', rfl, hn⟩ := h2
      obtain ⟨rfl, hd⟩ := hn
      exact ⟨rfl, (hd.in.dom (fun b h => h.2)).under hb⟩
end Go.Proofs.Ytfgmhidgkemfoaa
namespace Go.Proofs.Ytfgmhidgkemfoaa
open Go.RowKit Go.Shelf
set_option linter.unusedSimpArgs false
set_option linter.unusedVariables false
attribute [local go_sem] Oper.semAt_some
attribute [local go_sem ↓] exec_loadPair exec_storePair exec_at_zeroP exec_at_succP Go.wp_at_zero Go.wp_at_succ
attribute [local go_sem] run_storePair
theorem less_cmp : ∀ a b : List UInt8, Op.bytesLess a b = decide (Lib.compareBytes a b < 0)
  | [], [] => by simp [Op.bytesLess, Lib.compareBytes]
  | [], _ :: _ => by simp [Op.bytesLess, Lib.compareBytes]
  | _ :: _, [] => by simp [Op.bytesLess, Lib.compareBytes]
  | x :: a, y :: b => by
    have ih := less_cmp a b
    unfold Op.bytesLess Lib.compareBytes
    by_cases h : x < y
    · simp [h]
    · by_cases h2 : y < x
      · have hne : x ≠ y := fun e => h (e ▸ h2)
        simp [h, h2, hne]
      · have hxy : x = y := UInt8.le_antisymm (UInt8.not_lt.1 h2) (UInt8.not_lt.1 h)
        subst hxy
        simp only [if_neg h]
        simpa using ih
theorem less_cmpK (a b : ByteArray) : Op.bytesLess a.toList b.toList = decide (cmpK a b < 0) := by
  rw [less_cmp, ByteArray.toList_eq, ByteArray.toList_eq]
  rfl
theorem emp_iff (u : ByteArray) : u.toList.isEmpty = decide (u = emptyS) := by
  rw [ByteArray.toList_eq]
  obtain ⟨⟨l⟩⟩ := u
  cases l with
  | nil => rfl
  | cons a l => simp [emptyS]
/-- the keys before a key, or all of them -/
def befK (u : ByteArray) (p : KV) : Bool := u = emptyS || decide (cmpK p.k u < 0)
/-- the pairs of a range -/
def rngL (f u : ByteArray) (l : List KV) : List KV := (geL f l).takeWhile (befK u)
theorem tw_all {α : Type} (P : α → Bool) : ∀ l : List α, (∀ y ∈ l, P y = true) → l.takeWhile P = l
  | [], _ => rfl
  | x :: l, h => by rw [List.takeWhile_cons_of_pos (h x (List.mem_cons_self ..)), tw_all P l (fun y hy => h y (List.mem_cons_of_mem _ hy))]
theorem tw_stop {α : Type} (P : α → Bool) (pre rest : List α) (x : α) (h : ∀ y ∈ pre, P y = true) (hx : P x = false) : (pre ++ [x] ++ rest).takeWhile P = pre := by
  rw [List.append_assoc, List.takeWhile_append_of_pos h, List.cons_append, List.takeWhile_cons_of_neg (by simp [hx]), List.append_nil]
theorem rng_info : (Try.prog.info? 65).map (fun i => (i.zero, i.size, i.bytes)) = some (some (.agg #[.string ⟨#[]⟩, .string ⟨#[]⟩]), 2, 32) := by kernel_rfl
theorem Itr.of {w0 w : World} {g : Nat} {t : Option BT} (h : Tr w0 g t) (hb : Below w0.heap.size w0 w) (from_ : ByteArray) : ∃ v, Itr w0.heap.size ((w.alloc (.cells #[.pointer (some ⟨g, 0, none⟩)] 24)).alloc (.cells #[.string from_] 9)) (w.heap.size + 1) w.heap.size g v t from_ := by
  obtain ⟨v, h1, h2⟩ := h
  have hb2 : Below w.heap.size w ((w.alloc (.cells #[.pointer (some ⟨g, 0, none⟩)] 24)).alloc (.cells #[.string from_] 9)) := ((Below.refl _ w).alloc (Nat.le_refl _) _).alloc (by simp) _
  have hg := (Array.getElem?_eq_some_iff.1 h1).1
  have hb3 := hb.trans (hb2.mono hb.size)
  refine ⟨v, ?_, (Below.heap_alloc _ _ _ (by simp)).trans (World.alloc_heap_new w _), hg, (hb3.block g hg).trans h1, ?_⟩
  · have := World.alloc_heap_new (w.alloc (.cells #[.pointer (some ⟨g, 0, none⟩)] 24)) (.cells #[.string from_] 9)
    rwa [World.size_alloc] at this
  · cases t with
    | none => exact h2
    | some T =>
      obtain ⟨g', rfl, hn⟩ := h2
      obtain ⟨rfl, hd⟩ := hn
      exact ⟨rfl, (hd.in.dom (fun b h => h.2)).under hb3⟩
theorem not_row {W : World} {b : Nat} {cs : Array Value} {t e : TypeId} (h : W.heap[b]? = some (.cells cs t (0, 0))) (hte : t ≠ e) {base size k : Nat} {v : Value} {xs : List Value} (hr : W.ownsRow base e size v k xs) : some b ≠ v.ownBlock := by
  rcases hr.2 with ⟨rfl, _⟩ | ⟨g, cap, cur, rfl, _, hgb, _⟩
  · simp [Value.ownBlock]
  · intro e'
    obtain rfl : b = g := by simpa [Value.ownBlock] using e'
    have := h.symm.trans hgb
    simp at this
    exact hte this.2
theorem KP.appended {W w1 : World} {n₀ B k : Nat} {te : TypeId} {size : Nat} {tb : TypeId} {v v' : Value} {xs : List Value} {tmp : Obj} (hv : Boxed W B tb v) (hrow : W.ownsRow n₀ te size v k xs) (hgrow : (W.alloc tmp).grownBy w1 v.ownBlock)
    (h1 : tb ≠ 9 ∧ tb ≠ 24 ∧ tb ≠ 124 ∧ tb ≠ 125) (h2 : te ≠ 9 ∧ te ≠ 24 ∧ te ≠ 124 ∧ te ≠ 125)
    (hb : Below n₀ W (w1.setCell ⟨B, 0, none⟩ v')) : KP n₀ W (w1.setCell ⟨B, 0, none⟩ v') := by
  refine ⟨hb, fun b cs t ht hh => ?_⟩
  have hlt := (Array.getElem?_eq_some_iff.1 hh).1
  have hte : t ≠ te := by rintro rfl; rcases ht with h | h | h | h <;> simp_all
  have htb : t ≠ tb := by rintro rfl; rcases ht with h | h | h | h <;> simp_all
  have hbB : b ≠ B := by
    rintro rfl
    have := hh.symm.trans hv
    simp at this
    exact htb this.2
  refine (Below.heap_setCell _ _ _ b hbB).trans ((hgrow.block b (by rw [World.size_alloc]; omega) (not_row hh hte hrow)).trans ((Below.heap_alloc _ _ _ hlt).trans hh))
/-- what a round of Range finds -/
def RI (w : World) (m0 : Nat) (until_ : ByteArray) (pre : List KV) (W : World) : Prop :=
  ((∃ sl, Boxed W (m0 + 1) 26 sl ∧ W.ownsRow m0 65 2 sl pre.length (pcells pre) ∧ True) ∧ Boxed W m0 9 (.string until_)) ∧ (Below m0 w W ∧ ∀ p ∈ pre, befK until_ p = true)
theorem RI.own {w : World} {m0 B : Nat} {until_ : ByteArray} (hm : m0 ≤ w.heap.size) (hB : m0 ≤ B) : OwnFrom B (RI w m0 until_) :=
  OwnFrom.and (OwnFrom.and (Own.from (holdsRow_own m0 (m0 + 1) 26 65 2 (fun pre : List KV => pre.length) (fun pre => pcells pre) (fun _ _ => True)) _) (Own.from (boxed_own _ _ (fun _ => .string until_)) _)) (OwnFrom.and (ownFrom_below hm hB) (ownFrom_pure B (fun pre => ∀ p ∈ pre, befK until_ p = true)))
theorem two_new (W : World) (a b : Value) (t : TypeId) : ∀ j u, ([a, b] : List Value)[j]? = some u → (W.alloc (.cells #[a, b] t)).cell? ((⟨W.heap.size, 0, none⟩ : Addr).add j) = some u := by
  intro j u h
  rcases j with _ | _ | j
  · obtain rfl : a = u := by simpa using h
    exact cell_of_row (W.alloc (.cells #[a, b] t)) W.heap.size 0 #[a, b] _ _ (World.alloc_heap_new W _)
  · obtain rfl : b = u := by simpa using h
    exact cell_of_row (W.alloc (.cells #[a, b] t)) W.heap.size 1 #[a, b] _ _ (World.alloc_heap_new W _)
  · simp at h
set_option maxRecDepth 100000 in
set_option maxHeartbeats 4000000 in
theorem range_any {w : World} {g : Nat} {t : Option BT} {H : Nat} (h : TT w g t H) (from_ until_ : ByteArray) (hlen : (treeL t).length ≤ 1000000000) :
    Calls Try.prog 29 #[.pointer (some ⟨g, 0, none⟩), .string from_, .string until_] w fun e W' => ∃ v, e = .returned v ∧ W'.ownsRow w.heap.size 65 2 v (rngL from_ until_ (treeL t)).length (pcells (rngL from_ until_ (treeL t))) ∧ Below w.heap.size w W' := by
  refine (callsIn_wide (n := 7)).1 ?_
  obtain ⟨F, hF⟩ : ∃ F, F = Fence.wide := ⟨_, rfl⟩
  rw [← hF]
  have h29 : F.fn 29 := by rw [hF]; trivial
  have h55 : F.fn 55 := by rw [hF]; trivial
  have h76 : F.fn 76 := by rw [hF]; trivial
  have hro : F.round = none := by rw [hF]; rfl
  have hdd : ∀ k : Nat, (F.depth.isSome = true → 1 ≤ k) := fun k h => by rw [hF] at h; cases h
  have HW : Hid (∀ {m : Nat} {f : FuncId} {args : Array Value} {u : World} {R : Ending → World → Prop}, Calls Try.prog f args u R → CallsIn F m Try.prog f args u R) := Lib.hid (fun h => by rw [hF]; exact callsIn_wide.2 h)
  have HF := Lib.hid hF
  have HT := Lib.hid h
  have HL := Lib.hid hlen
  clear hF h hlen
  obtain ⟨i0, hi, hz0, hz1, hz2⟩ := info_parts rng_info
  refine callsIn_of_wp_marks Try.func29 rfl h29 ?_ hro
  simp only [Try.ntmps29, List.size_toArray, List.length_cons, List.length_nil, Nat.reduceAdd, Nat.reduceSub, Array.replicate_succ, Array.replicate_zero, List.push_toArray, List.append_toArray, List.nil_append, List.cons_append]
  gi_wp2_with ((try refine ⟨hdd _, ?_⟩); gi_at_call 55; refine (HW.out (pairs_any _)).mono ?_; rintro e w' ⟨rfl, rfl⟩)
  have bU := ((Boxed.new w 9 (.string until_)).alloc (.cells #[.slice none 0 0] 26))
  have bS := Boxed.new (w.alloc (.cells #[.string until_] 9)) 26 (.slice none 0 0)
  rw [World.size_alloc] at bS
  have hB1 : Below w.heap.size w ((w.alloc (.cells #[.string until_] 9)).alloc (.cells #[.slice none 0 0] 26)) := ((Below.refl _ w).alloc (Nat.le_refl _) _).alloc (by simp) _
  have hs1 : ((w.alloc (.cells #[.string until_] 9)).alloc (.cells #[.slice none 0 0] 26)).heap.size = w.heap.size + 2 := by simp
  obtain ⟨W1, hW1⟩ : ∃ W1, W1 = ((w.alloc (.cells #[.string until_] 9)).alloc (.cells #[.slice none 0 0] 26)) := ⟨_, rfl⟩
  rw [← hW1] at bU bS hB1 hs1 ⊢
  clear hW1
  obtain ⟨v, hit⟩ := Itr.of HT.out.tr hB1 from_
  rw [hs1] at hit
  have bU := (bU.alloc (.cells #[.pointer (some ⟨g, 0, none⟩)] 24)).alloc (.cells #[.string from_] 9)
  have bS := (bS.alloc (.cells #[.pointer (some ⟨g, 0, none⟩)] 24)).alloc (.cells #[.string from_] 9)
  have hB0 := (hB1.alloc (by omega) (.cells #[.pointer (some ⟨g, 0, none⟩)] 24)).alloc (by simp; omega) (.cells #[.string from_] 9)
  have hs0 : ((W1.alloc (.cells #[.pointer (some ⟨g, 0, none⟩)] 24)).alloc (.cells #[.string from_] 9)).heap.size = w.heap.size + 4 := by simp; omega
  obtain ⟨W0, hW0⟩ : ∃ W0, W0 = ((W1.alloc (.cells #[.pointer (some ⟨g, 0, none⟩)] 24)).alloc (.cells #[.string from_] 9)) := ⟨_, rfl⟩
  rw [← hW0] at bU bS hB0 hs0 hit ⊢
  clear hW0 hB1 hs1
  refine wpIn_rangeFunc_ownH hro (by omega) (gf := 76) (lb := #[.pointer (some ⟨w.heap.size + 1 + 1 + 1, 0, none⟩), .pointer (some ⟨w.heap.size + 1 + 1, 0, none⟩)]) rfl h76 (enters_of Try.func76 (by kernel_rfl) rfl)
    (pairs1_stops F HF.out (7 - 1) w.heap.size (w.heap.size + 1 + 1 + 1) (w.heap.size + 1 + 1) g v t H from_ HT.out.ok HT.out.so W0 (by omega) hit) (fun h k => KP.trans h k) (fun W l o o' hl h hc _ => KP.putObj (B := W0.heap.size) (by omega) W l o o' hl h hc) (Below.refl _ _) (fun _ => rfl)
    (RI w w.heap.size until_)
    (fun c pre W => ∃ q x, (c = .exit 0 ∧ pre = q ++ [x] ∧ befK until_ x = false) ∧ RI w w.heap.size until_ q W)
    (RI.own (Nat.le_refl _) (by omega))
    (fun c s A B row hs hg hr => by obtain ⟨q, x, h1, h2⟩ := hs; exact ⟨q, x, h1, RI.own (Nat.le_refl _) (by omega) q A B row h2 hg hr⟩)
    ⟨⟨⟨_, bS, World.ownsRow_nil _ _ _ _, trivial⟩, bU⟩, hB0, fun p hp => by cases hp⟩
    (fun x a' W => ∃ Bx, w.heap.size + 1 < Bx ∧ W.heap[Bx]? = some (.cells (kcells x) 65 (0, 0)) ∧ a' = { tmps := #[.pointer (some ⟨g, 0, none⟩), .string from_, .string until_, undef, undef, .pointer (some ⟨w.heap.size, 0, none⟩), .slice none 0 0, .pointer (some ⟨w.heap.size + 1, 0, none⟩), .pointer (some ⟨Bx, 0, none⟩), .pointer (some ⟨g, 0, none⟩), .string from_, .func (.func 76) #[] #[.pointer (some ⟨w.heap.size + 1 + 1 + 1, 0, none⟩), .pointer (some ⟨w.heap.size + 1 + 1, 0, none⟩)], pairV x, undef, undef, undef, undef, undef, undef, undef, undef, undef, undef, undef, undef, undef], defers := [] })
    (fun x a' s A B row hs hg hr => by
      obtain ⟨Bx, h1, h2, h3⟩ := hs
      refine ⟨Bx, h1, (hg.block Bx (Array.getElem?_eq_some_iff.1 h2).1 (fun e => ?_)).trans h2, h3⟩
      obtain ⟨_, o, ho, hc⟩ := hr Bx e.symm
      rw [h2] at ho; cases ho; cases hc)
    ?assign ?body ?done ?stop
  case assign =>
    rintro l pre x W K hR hK
    have p6 : PB (W.alloc (.cells #[.string ⟨#[]⟩, .string ⟨#[]⟩] 65)) W.heap.size := ⟨⟨⟨#[]⟩, ⟨#[]⟩⟩, heap_new rfl⟩
    unfold pairV
    have HR := Lib.hid hR
    clear hR
    gi_wp2
    have hb : Below W.heap.size W ((W.alloc (.cells #[.string ⟨#[]⟩, .string ⟨#[]⟩] 65)).setRow W.heap.size #[.string x.k, .string x.v]) :=
      ((((Kept.of_below (fun _ => False) (Below.refl W.heap.size W)).alloc _).setRow (fun h => by omega) _).below (Nat.le_refl _) (fun _ _ h => h))
    have hw : w.heap.size ≤ W.heap.size := HR.out.2.1.size
    have hWx := HR.out.1.1
    refine hK _ _ ⟨hb.size, fun k o _ h _ => (hb.block k (Array.getElem?_eq_some_iff.1 h).1).trans h⟩ (KP.of hb hw) (RI.own (Nat.le_refl _) (Nat.le_refl _) pre W _ none HR.out ⟨hb.os, hb.tape, hb.output, hb.size, fun i hi _ => hb.block i hi⟩ (fun r e => by cases e)) ⟨W.heap.size, ?_, setRow_heap _ _ _ _ _ _ (heap_new rfl), rfl⟩
    obtain ⟨_, h1, -⟩ := hWx
    exact h1.lt
  case body =>
    rintro l pre x a' W hl ⟨r, hr⟩ ⟨⟨⟨sl, hv, hrow, -⟩, hU⟩, hB, hall⟩ ⟨Bx, hBx, hbx, rfl⟩ hlt
    have cU := hU.cell
    have cS := hv.cell
    have c0 : W.cell? ⟨Bx, 0, none⟩ = some (.string x.k) := cell_of_row W Bx 0 _ _ _ hbx
    have HALL := Lib.hid hall
    have HB := Lib.hid hB
    have HLT := Lib.hid hlt
    clear hall hB hlt
    have hdp : ∀ k : Nat, k ≤ 3 → 1 ≤ 7 - k := fun k h => by omega
    have ld0 := run_loadPair (p := x) (range_kv hbx)
    have hpl : pre.length < 1000000000 := Nat.lt_of_lt_of_le HLT.out (Nat.le_trans (List.length_filter_le _ _) HL.out)
    have hk1 : pre.length + 1 ≤ maxLen := by unfold maxLen; omega
    have hk2 : (pre.length + 1) * 32 ≤ 140737488355328 := by omega
    have HU : Hid (∀ {w1 : World} {tmp : Obj} {v' : Value}, (W.alloc tmp).grownBy w1 sl.ownBlock → Boxed (w1.setCell ⟨w.heap.size + 1, 0, none⟩ v') w.heap.size 9 (.string until_)) := Lib.hid (fun hgrow => ((hU.alloc _).kept hgrow (hU.not_row (by decide) hrow)).other (by omega) _)
    clear hpl
    by_cases hue : until_ = emptyS
    · have hem : until_.toList.isEmpty = true := by rw [emp_iff]; simpa using hue
      have HBF : Hid (befK until_ x = true) := Lib.hid (by unfold befK; rw [hue]; simp)
      clear hue
      gi_wp2_with (gi_at_builtin; refine wpListIn_append_own _ rfl _ _ 26 rfl w.heap.size 65 i0 (.agg #[.string ⟨#[]⟩, .string ⟨#[]⟩]) 2 32 Try.underlying26 hi hz0 hz1 hz2 rfl (by decide) _ _ _ rfl (hrow.alloc _) ⟨W.heap.size, 0, none⟩ 1 1 [.string x.k, .string x.v] rfl rfl (two_new _ _ _ _) (by simp [Value.oneCell']) hk1 hk2 (by have := HB.out.size; simp; omega) ?_; intro sl' w1 hown' hgrow _; obtain ⟨g', cap', rfl⟩ := ownsRow_succ hown'; obtain ⟨hv1, hv2, hr2, hkk, hb2⟩ := hv.appended (by decide) hrow HB.out.size (by omega) hown' hgrow; have hc1 := hv1.cell; have hf1 := hv1.frozen)
      exact ⟨hkk.from _, KP.appended hv hrow hgrow (by decide) (by decide) hb2, ⟨⟨⟨_, hv2, by rw [List.length_append, pcells_app]; simpa [pcells, KV.cells] using hr2, trivial⟩, HU.out hgrow⟩, HB.out.trans hb2, fun p hp => by
            rcases List.mem_append.1 hp with h | h
            · exact HALL.out p h
            · rw [List.mem_singleton.1 h]; exact HBF.out⟩⟩
    · have hem : until_.toList.isEmpty = false := by rw [emp_iff]; simpa using hue
      by_cases hless : cmpK x.k until_ < 0
      · have hls : Op.bytesLess x.k.toList until_.toList = true := by rw [less_cmpK]; simpa using hless
        have HBF : Hid (befK until_ x = true) := Lib.hid (by unfold befK; simp [hless])
        clear hue hless
        gi_wp2_with (gi_at_builtin; refine wpListIn_append_own _ rfl _ _ 26 rfl w.heap.size 65 i0 (.agg #[.string ⟨#[]⟩, .string ⟨#[]⟩]) 2 32 Try.underlying26 hi hz0 hz1 hz2 rfl (by decide) _ _ _ rfl (hrow.alloc _) ⟨W.heap.size, 0, none⟩ 1 1 [.string x.k, .string x.v] rfl rfl (two_new _ _ _ _) (by simp [Value.oneCell']) hk1 hk2 (by have := HB.out.size; simp; omega) ?_; intro sl' w1 hown' hgrow _; obtain ⟨g', cap', rfl⟩ := ownsRow_succ hown'; obtain ⟨hv1, hv2, hr2, hkk, hb2⟩ := hv.appended (by decide) hrow HB.out.size (by omega) hown' hgrow; have hc1 := hv1.cell; have hf1 := hv1.frozen)
        exact ⟨hkk.from _, KP.appended hv hrow hgrow (by decide) (by decide) hb2, ⟨⟨⟨_, hv2, by rw [List.length_append, pcells_app]; simpa [pcells, KV.cells] using hr2, trivial⟩, HU.out hgrow⟩, HB.out.trans hb2, fun p hp => by
            rcases List.mem_append.1 hp with h | h
            · exact HALL.out p h
            · rw [List.mem_singleton.1 h]; exact HBF.out⟩⟩
      · have hls : Op.bytesLess x.k.toList until_.toList = false := by rw [less_cmpK]; simpa using hless
        have HBF : Hid (befK until_ x = false) := Lib.hid (by unfold befK; simp [hless, hue])
        have HRI : Hid (RI w w.heap.size until_ pre W) := Lib.hid ⟨⟨⟨sl, hv, hrow, trivial⟩, hU⟩, HB.out, HALL.out⟩
        clear hue hless
        gi_wp2
        exact ⟨KeepsFrom.refl _ _, pre, x, ⟨rfl, rfl, HBF.out⟩, HRI.out⟩
  case done =>
    rintro D ys W hD hys hRI hK
    have hL : rngL from_ until_ (treeL t) = ys := by unfold rngL; rw [← hys]; exact tw_all _ _ hRI.2.2
    have HLL := Lib.hid hL
    clear hys hL
    obtain ⟨⟨⟨sl, hv, hrow, -⟩, hU⟩, hB, hall⟩ := hRI
    have hc := hv.cell
    have HB := Lib.hid hB
    clear hU hB hall
    gi_wp2
    refine ⟨by simp, .inl ⟨_, _, rfl, run_takeDeferred hK, ?_⟩⟩
    exact ⟨_, results_tmp rfl _ _ _, sl, rfl, by rw [HLL.out]; exact ownsRow_putObj hrow _ hK rfl, HB.out.trans (belowK_b (w := w) (Nat.le_refl _) W D _ _ (by omega) hK rfl rfl)⟩
  case stop =>
    rintro D c pre W hD hSp ⟨q, x, ⟨rfl, rfl, hbf⟩, hRI⟩ hK
    have hL : rngL from_ until_ (treeL t) = q := by
      obtain ⟨rest, hr⟩ := hSp
      unfold rngL
      rw [← hr]
      exact tw_stop _ _ _ _ hRI.2.2 hbf
    have HLL := Lib.hid hL
    clear hSp hL hbf
    obtain ⟨⟨⟨sl, hv, hrow, -⟩, hU⟩, hB, hall⟩ := hRI
    have hc := hv.cell
    have HB := Lib.hid hB
    clear hU hB hall
    gi_wp2
    refine ⟨by simp, .inl ⟨_, _, rfl, run_takeDeferred hK, ?_⟩⟩
    exact ⟨_, results_tmp rfl _ _ _, sl, rfl, by rw [HLL.out]; exact ownsRow_putObj hrow _ hK rfl, HB.out.trans (belowK_b (w := w) (Nat.le_refl _) W D _ _ (by omega) hK rfl rfl)⟩
end Go.Proofs.Ytfgmhidgkemfoaa
namespace Go.Proofs.Ytfgmhidgkemfoaa
open Go.RowKit
set_option linter.unusedSimpArgs false
set_option linter.unusedVariables false
attribute [local go_sem ↓] exec_loadPair exec_storePair exec_at_zeroP exec_at_succP Go.wp_at_zero Go.wp_at_succ
attribute [local go_sem] run_storePair
theorem permitted_any {w : World} (k v : ByteArray) (hk : k.size < 9223372036854775808) (hv : v.size < 9223372036854775808) :
    Calls Try.prog 52 #[.string k, .string v] w fun e w' => e = .returned (.bool (decide (k.size ≤ 60 ∧ v.size ≤ 1000))) ∧ w = w' := by
  by_cases h1 : (k.size : Int) ≤ 60
  · by_cases h2 : (v.size : Int) ≤ 1000
    · rw [show decide (k.size ≤ 60 ∧ v.size ≤ 1000) = true from decide_eq_true (by omega)]
      go_enter Try.func52, Try.ntmps52
      go_wp2
      go_ret
      exact ⟨rfl, rfl⟩
    · rw [show decide (k.size ≤ 60 ∧ v.size ≤ 1000) = false from decide_eq_false (by omega)]
      go_enter Try.func52, Try.ntmps52
      go_wp2
      go_ret
      exact ⟨rfl, rfl⟩
  · rw [show decide (k.size ≤ 60 ∧ v.size ≤ 1000) = false from decide_eq_false (by omega)]
    go_enter Try.func52, Try.ntmps52
    go_wp2
    go_ret
    exact ⟨rfl, rfl⟩
set_option maxRecDepth 100000 in
set_option maxHeartbeats 2000000 in
theorem place_any {D : Nat → Prop} {w : World} {a : Option Addr} {n c : Nat} {ps : List KV} (h : Ps D w a n c ps) (key : ByteArray) :
    Calls Try.prog 53 #[.slice a n c, .string key] w fun e w' => e = .returned (.int .i64 ((ps.takeWhile fun p => decide (cmpK p.k key < 0)).length : Int)) ∧ w = w' := by
  have hL := h.1
  have hc1 := h.2.2.1
  have hc2 : c ≤ 9223372036854775807 := h.2.2.2.1
  have HP := Lib.hid h
  have HL := Lib.hid hL
  clear h hL
  go_enter Try.func53, Try.ntmps53
  go_wp2
  go_loopw [5] (fun x wr => ∃ j : Nat, x = .int .i64 (j : Int) ∧ j ≤ n ∧ (∀ p ∈ ps.take j, cmpK p.k key < 0) ∧ wr = w) (fun x _ => n - (intOf x).toNat)
  case atStart => exact ⟨0, rfl, Nat.zero_le _, (fun p hp => by cases hp), rfl⟩
  case round =>
    obtain ⟨j, rfl, hjn, hall, rfl⟩ := hrel
    have HALL := Lib.hid hall
    clear hall
    by_cases hlt : j < n
    · have hlt2 : (j : Int) < (n : Int) := by omega
      have hjl : j < ps.length := by rw [HL.out]; exact hlt
      obtain ⟨b, off, -, hbs, rfl, hcell⟩ := HP.out.at (by omega)
      have hr := hcell j hjl
      obtain ⟨kv, hkv⟩ : ∃ kv, kv = ps[j]'hjl := ⟨_, rfl⟩
      rw [← hkv] at hr
      obtain ⟨ob, hob⟩ : ∃ ob, ob = off + j * 2 := ⟨_, rfl⟩
      rw [← hob] at hr
      have hob2 : off + j * 2 = ob := hob.symm
      have c0 : wr.cell? ⟨b, ob, none⟩ = some (.string kv.k) := hr 0 _ rfl
      have HKV := Lib.hid hkv
      have HJL := Lib.hid hjl
      have hwj : IntKind.i64.wrap ((j : Int) + 1) = (j : Int) + 1 := i64_id _ (by omega) (by omega)
      clear hcell hr hkv hob
      by_cases hless : cmpK kv.k key < 0
      · have hls : Op.bytesLess kv.k.toList key.toList = true := by rw [less_cmpK]; simpa using hless
        have HLS := Lib.hid hless
        clear hless
        go_wp2
        go_roundw
        case rel => exact ⟨j + 1, by go_num, by omega, fun p hp => by
          rw [List.take_succ_eq_append_getElem HJL.out] at hp
          rcases List.mem_append.1 hp with h | h
          · exact HALL.out p h
          · rw [List.mem_singleton.1 h, ← HKV.out]; exact HLS.out, trivial⟩
        case measure => (try go_num); (try (simp only [intOf])); omega
      · have hls : Op.bytesLess kv.k.toList key.toList = false := by rw [less_cmpK]; simpa using hless
        have HE : Hid ((ps.takeWhile fun p => decide (cmpK p.k key < 0)).length = j) := Lib.hid (by
          conv => lhs; rw [← List.take_append_drop j ps]
          rw [List.takeWhile_append_of_pos (fun p hp => by simpa using HALL.out p hp), List.drop_eq_getElem_cons HJL.out, List.takeWhile_cons_of_neg (by rw [← HKV.out]; simpa using hless), List.append_nil, List.length_take]
          have := HJL.out
          omega)
        clear hless
        go_wp2
        go_ret
        exact ⟨by rw [HE.out]; rfl, rfl⟩
    · have hge : ¬ (j : Int) < (n : Int) := by omega
      have HE : Hid ((ps.takeWhile fun p => decide (cmpK p.k key < 0)).length = j) := Lib.hid (by
        have e : j = ps.length := by have := HL.out; omega
        have h2 := HALL.out
        rw [e, List.take_length] at h2
        rw [tw_all _ _ (fun p hp => by simpa using h2 p hp), e])
      go_wp2
      go_ret
      exact ⟨by rw [HE.out]; rfl, rfl⟩
deriving instance DecidableEq for KV
theorem str_eq (a b : ByteArray) : (a.toList = b.toList) ↔ a = b := by
  have h := str_beq a b
  rw [Bool.eq_iff_iff] at h
  simpa using h
theorem KV.ext' {p q : KV} (h1 : p.k = q.k) (h2 : p.v = q.v) : p = q := by cases p; cases q; simp_all
set_option maxRecDepth 100000 in
set_option maxHeartbeats 2000000 in
theorem same_any {D D' : Nat → Prop} {w : World} {a b : Option Addr} {n c m e : Nat} {ps qs : List KV} (h : Ps D w a n c ps) (h' : Ps D' w b m e qs) :
    Calls Try.prog 30 #[.slice a n c, .slice b m e] w fun e w' => e = .returned (.bool (decide (ps = qs))) ∧ Below w.heap.size w w' := by
  have hL := h.1
  have hM := h'.1
  have hc1 := h.2.2.1
  have hc2 : c ≤ 9223372036854775807 := h.2.2.2.1
  have he1 := h'.2.2.1
  have he2 : e ≤ 9223372036854775807 := h'.2.2.2.1
  have HP := Lib.hid h
  have HQ := Lib.hid h'
  have HL := Lib.hid hL
  have HM := Lib.hid hM
  clear h h' hL hM
  by_cases hnm : n = m
  · subst hnm
    obtain ⟨B, hB⟩ : ∃ B, B = decide (ps = qs) := ⟨_, rfl⟩
    rw [← hB]
    have HB := Lib.hid hB
    clear hB
    go_enter Try.func30, Try.ntmps30
    go_wp2
    go_loopw [5] (fun x wr => ∃ j : Nat, x = .int .i64 (j : Int) ∧ j ≤ n ∧ ps.take j = qs.take j ∧ Below w.heap.size w wr) (fun x _ => n - (intOf x).toNat)
    case atStart => exact ⟨0, rfl, Nat.zero_le _, rfl, Below.refl _ _⟩
    case round =>
      obtain ⟨j, rfl, hjn, htk, hb⟩ := hrel
      have HT := Lib.hid htk
      have HW := Lib.hid hb
      clear htk hb
      by_cases hlt : j < n
      · have hlt2 : (j : Int) < (n : Int) := by omega
        have hjl : j < ps.length := by rw [HL.out]; exact hlt
        have hjm : j < qs.length := by rw [HM.out]; exact hlt
        obtain ⟨b1, off1, -, hbs1, rfl, hcell1⟩ := (HP.out.below HW.out).at (by omega)
        obtain ⟨b2, off2, -, hbs2, rfl, hcell2⟩ := (HQ.out.below HW.out).at (by omega)
        have hr1 := hcell1 j hjl
        have hr2 := hcell2 j hjm
        obtain ⟨p, hp⟩ : ∃ p, p = ps[j]'hjl := ⟨_, rfl⟩
        obtain ⟨q, hq⟩ : ∃ q, q = qs[j]'hjm := ⟨_, rfl⟩
        rw [← hp] at hr1
        rw [← hq] at hr2
        obtain ⟨o1, ho1⟩ : ∃ o1, o1 = off1 + j * 2 := ⟨_, rfl⟩
        obtain ⟨o2, ho2⟩ : ∃ o2, o2 = off2 + j * 2 := ⟨_, rfl⟩
        rw [← ho1] at hr1
        rw [← ho2] at hr2
        have hob1 : off1 + j * 2 = o1 := ho1.symm
        have hob2 : off2 + j * 2 = o2 := ho2.symm
        have ld1 : ∀ u : World, u = wr.drew → (loadPairA (.pointer (some ⟨b1, o1, none⟩))).run Try.prog u = .ok (.value (.agg #[.string p.k, .string p.v])) u := fun u hu => by rw [hu]; exact run_loadPair (fun j v h => hr1 j v h)
        have ld1 := ld1 _ rfl
        have ld2 : (loadPairA (.pointer (some ⟨b2, o2, none⟩))).run Try.prog wr.drew = .ok (.value (.agg #[.string q.k, .string q.v])) wr.drew := run_loadPair (fun j v h => hr2 j v h)
        have HPQ : Hid (ps[j]'hjl = p ∧ qs[j]'hjm = q) := Lib.hid ⟨hp.symm, hq.symm⟩
        have hwj : IntKind.i64.wrap ((j : Int) + 1) = (j : Int) + 1 := i64_id _ (by omega) (by omega)
        clear hcell1 hcell2 hr1 hr2 hp hq ho1 ho2
        by_cases hpq : p = q
        · subst hpq
          go_wp2
          go_region
          go_wp2
          go_roundw
          case rel => exact ⟨j + 1, by go_num, by omega, by rw [List.take_succ_eq_append_getElem (by rw [HL.out]; omega), List.take_succ_eq_append_getElem (by rw [HM.out]; omega), HT.out, HPQ.out.1, HPQ.out.2], HW.out.drew⟩
          case measure => (try go_num); (try (simp only [intOf])); omega
        · have HNE : Hid (B = false) := Lib.hid (by rw [HB.out]; exact decide_eq_false (fun e => hpq (by have h1 := HPQ.out; subst e; exact h1.1.symm.trans h1.2)))
          by_cases hk : p.k = q.k
          · have hk1 : p.k.toList = q.k.toList := by rw [hk]
            have hv1 : ¬ p.v.toList = q.v.toList := fun h => hpq (KV.ext' hk ((str_eq _ _).1 h))
            clear hpq hk
            go_wp2
            go_region
            go_wp2
            go_ret
            exact ⟨by rw [HNE.out]; rfl, HW.out.drew⟩
          · have hk1 : ¬ p.k.toList = q.k.toList := fun h => hk ((str_eq _ _).1 h)
            clear hpq hk
            go_wp2
            go_region
            go_wp2
            go_ret
            exact ⟨by rw [HNE.out]; rfl, HW.out.drew⟩
      · have hge : ¬ (j : Int) < (n : Int) := by omega
        have HE : Hid (B = true) := Lib.hid (by
          rw [HB.out]
          have e1 : j = ps.length := by have := HL.out; omega
          have e2 : j = qs.length := by have := HM.out; omega
          have h := HT.out
          rw [e1, List.take_length, ← e1, e2, List.take_length] at h
          exact decide_eq_true h)
        go_wp2
        go_ret
        exact ⟨by rw [HE.out]; rfl, HW.out⟩
  · have HE : Hid (decide (ps = qs) = false) := Lib.hid (decide_eq_false (fun e => hnm (by rw [← HL.out, ← HM.out, e])))
    rw [HE.out]
    have hne : ¬ (n : Int) = (m : Int) := by omega
    clear hnm
    go_enter Try.func30, Try.ntmps30
    go_wp2
    go_ret
    exact ⟨rfl, Below.refl _ _⟩
end Go.Proofs.Ytfgmhidgkemfoaa

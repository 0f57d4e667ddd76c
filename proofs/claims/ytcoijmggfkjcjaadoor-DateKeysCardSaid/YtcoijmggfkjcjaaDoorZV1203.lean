/-
  Texts NW, NY, NZ, O1, O2, one behind the other.
-/
import Derived.WalkKit
import Derived.WalkSpells
import Derived.WalkLawsBesides
import Derived.Laws.AppendOwn
import Derived.Laws.OwnMore
import Derived.Deep.AppendSrc
import Derived.Deep.MidRow
import Derived.Lib.Hide
import GoSem.Claim
import Derived.Lib.Bytealg
import Derived.Laws.Externs
import Derived.Deep.QuietTactic
import Derived.BigQuiet
import Derived.Deep.CutBlock
import Derived.OwnWalk
import Derived.Deep.DrawnRows
import Derived.Deep.CutRange
import Derived.Deep.LoopGhost
import Derived.Laws.Tables
import Derived.Laws.ResultCell
import Derived.Deep.WholeRow
import Derived.Lib.Strings
import Derived.Shelf.Spec.SlicesInsert
import Derived.Lib.AppendZerosOnto
import Derived.Lib.Overlaps
import Derived.Laws.CopyRow
import Derived.Deep.RegionLaw
import Derived.StillTailTactics
import Derived.Orders
import Derived.Tactics
import Derived.RangeFuncNested
import Derived.RangeFuncBound
import Derived.RangeFuncCalls
import Derived.RangeFuncLeaves
import Derived.Shelf.Abstract
import Derived.Shelf.RegionOpen
import Derived.OwnWalkIn
import Derived.TacticsInMore
import Derived.LoopNIn
import Derived.LoopIn
import Derived.RangeFuncBox
import Derived.Test.YtcoijmggfkjcjaaDoorZV1202
namespace Go.Proofs.YtcoijmggfkjcjaaDoor
open Go.RowKit
set_option linter.unusedSimpArgs false
set_option linter.unusedVariables false
attribute [local go_sem ↓] exec_loadPair exec_storePair exec_at_zeroP exec_at_succP Go.wp_at_zero Go.wp_at_succ
attribute [local go_sem] run_storePair
def Dpt9 : List (Option Tmp) := [some 47, some 48, some 49, some 50, some 51, some 52, some 10]
def Lpt9 : List (List Nat) := [[], [0], [1], [2], [], [3, 4], [5]]
def PutT (w : World) (t : Option BT) (H : Nat) (p : KV) (e : Ending) (w' : World) : Prop := ∃ g' t' H', e = .returned (.pointer (some ⟨g', 0, none⟩)) ∧ TT w' g' t' H' ∧ treeL t' = insL (treeL t) p ∧ (H' = H ∨ H' = H + 1) ∧ (∀ P, tcnt P t' ≤ tcnt P t + (3 * H + 2)) ∧ Below w.heap.size w w'
set_option maxRecDepth 100000 in
set_option maxHeartbeats 4000000 in
theorem put_bad {w : World} {g : Nat} (key value : ByteArray) (hbad : ¬ (key.size ≤ 60 ∧ value.size ≤ 1000)) :
    Calls Tryd.prog 39 #[.pointer (some ⟨g, 0, none⟩), .string key, .string value] w fun e w' => e = .returned (.pointer (some ⟨g, 0, none⟩)) ∧ w = w' := by
  by_cases hk : 60 < key.size
  · have hk' : (60 : Int) < (key.size : Int) := by omega
    go_enter Tryd.func39, Tryd.ntmps39
    go_wp2_with fail
    go_ret
    exact ⟨rfl, rfl⟩
  · have hk' : ¬ (60 : Int) < (key.size : Int) := by omega
    have hv' : (1000 : Int) < (value.size : Int) := by omega
    go_enter Tryd.func39, Tryd.ntmps39
    go_wp2_with fail
    go_ret
    exact ⟨rfl, rfl⟩
theorem run_bld94a (a : Option Addr) (n c : Nat) (W : World) : (Instr.build 69 #[(0, .slice a n c)]).run Tryd.prog W = .ok (.agg #[.slice a n c, .slice none 0 0]) W := by kernel_rfl
theorem run_bld94b (a : Option Addr) (n c : Nat) (W : World) : (Instr.build 69 #[(1, .slice a n c)]).run Tryd.prog W = .ok (.agg #[.slice none 0 0, .slice a n c]) W := by kernel_rfl
theorem run_bld87 (x : Option Addr) (n : Int) (W : World) : (Instr.build 66 #[(0, .pointer x), (1, .int .i64 n)]).run Tryd.prog W = .ok (.agg #[.pointer x, .int .i64 n]) W := by kernel_rfl
theorem tree_made {q5 : World} {T : BT} {k : Nat} (hnd : NdD (fun _ => True) q5 T) (hs : T.Sh k) (h8 : T.ps.length ≤ 8) (h1 : 1 ≤ T.ps.length) (hso : Sorted T.toL) (n : Int) (hn : n = (T.toL.length : Int)) : TT (q5.alloc (.cells #[.pointer (some ⟨T.g, 0, none⟩), .int .i64 n] 66)) q5.heap.size (some T) (k + 1) := by
  refine ⟨⟨.pointer (some ⟨T.g, 0, none⟩), ?_, T.g, rfl, rfl, hnd.under ((Below.refl _ _).alloc (Nat.le_refl _) _)⟩, ⟨(wf_iff _ _).2 ⟨h8, hs⟩, h1⟩, hso⟩
  rw [hn]
  exact heap_new rfl
theorem put_fin {w q p q5 : World} {b T : BT} {k H : Nat} {kv : KV} {n : Int} (hso : Sorted (treeL (some b)) ∧ Below w.heap.size w q) (h1 : Below q.heap.size q p) (h2 : Below p.heap.size p q5) (hnd : NdD (fun _ => True) q5 T) (hs : T.Sh k) (h8 : T.ps.length ≤ 8) (hl : 1 ≤ T.ps.length) (hlist : T.toL = insL b.toL kv) (hn : n = ((insL b.toL kv).length : Int)) (hH : k + 1 = H ∨ k + 1 = H + 1) (hc : ∀ P, T.cnt P ≤ tcnt P (some b) + (3 * H + 2)) : PutT w (some b) H kv (.returned (.pointer (some ⟨q5.heap.size, 0, none⟩))) (q5.alloc (.cells #[.pointer (some ⟨T.g, 0, none⟩), .int .i64 n] 66)) := by
  have hb : Below w.heap.size w q5 := (hso.2.trans (h1.mono hso.2.size)).trans (h2.mono (Nat.le_trans hso.2.size h1.size))
  exact ⟨_, some T, k + 1, rfl, tree_made hnd hs h8 hl (by rw [hlist]; exact insL_sorted hso.1) n (by rw [hlist]; exact hn), hlist, hH, hc, hb.alloc hb.size _⟩
theorem put_none {w q : World} {H : Nat} (hH : TOk none H) (hb : Below w.heap.size w q) (key value : ByteArray) : PutT w none H ⟨key, value⟩ (.returned (.pointer (some ⟨q.heap.size + 1 + 1, 0, none⟩))) (((q.alloc (.cells #[.string key, .string value] 54)).alloc (.cells #[.slice (some ⟨q.heap.size, 0, none⟩) 1 1, .slice none 0 0] 69)).alloc (.cells #[.pointer (some ⟨q.heap.size + 1, 0, none⟩), .int .i64 1] 66)) := by
  obtain ⟨q5, hq5⟩ : ∃ q5, q5 = (q.alloc (.cells #[.string key, .string value] 54)).alloc (.cells #[.slice (some ⟨q.heap.size, 0, none⟩) 1 1, .slice none 0 0] 69) := ⟨_, rfl⟩
  have hsz : q5.heap.size = q.heap.size + 1 + 1 := by rw [hq5]; simp
  have hb5 : Below w.heap.size w q5 := by rw [hq5]; exact (hb.alloc hb.size _).alloc (by have := hb.size; simp; omega) _
  have h1 : q5.heap[q.heap.size]? = some (.cells #[.string key, .string value] 54 (0, 0)) := by rw [hq5]; exact heap_old (heap_new rfl)
  have h2 : q5.heap[q.heap.size + 1]? = some (.cells #[.slice (some ⟨q.heap.size, 0, none⟩) 1 1, .slice none 0 0] 69 (0, 0)) := by rw [hq5]; exact heap_new (by simp)
  have hnd : NdD (fun _ => True) q5 (.mk (q.heap.size + 1) [⟨key, value⟩] []) := by
    refine .mk trivial h2 ⟨rfl, rfl, Nat.le_refl _, by unfold maxLen; omega, (fun e => by cases e), fun _ => ⟨q.heap.size, 0, trivial, rfl, fun j u hj => ?_⟩⟩ ⟨rfl, rfl, Nat.le_refl _, Nat.zero_le _, (fun _ => rfl), fun h => absurd h (by omega)⟩ (fun _ h => by cases h)
    rw [Nat.zero_add, cell_of_row q5 _ j _ _ _ h1]
    simpa [pcells, KV.cells] using hj
  rw [← hq5, ← hsz]
  have e1 : (BT.mk (q.heap.size + 1) [⟨key, value⟩] []).toL = [⟨key, value⟩] := by rw [toL_mk, toLs_leaf]
  have hH0 : H = 0 := hH
  refine ⟨_, some (.mk (q.heap.size + 1) [⟨key, value⟩] []), 1, rfl, tree_made hnd (.inl ⟨rfl, rfl⟩) (by show 1 ≤ 8; omega) (by show 1 ≤ 1; omega) (by rw [e1]; exact List.pairwise_singleton _ _) 1 (by rw [e1]; rfl), e1, .inr (by omega), fun P => ?_, hb5.alloc hb5.size _⟩
  show (BT.mk (q.heap.size + 1) [⟨key, value⟩] []).cnt P ≤ _
  rw [cnt_mk, cntL_nil]
  have := toNat_le (P (q.heap.size + 1))
  omega
set_option maxRecDepth 100000 in
set_option maxHeartbeats 4000000 in
theorem put_tree {w : World} {g : Nat} {t : Option BT} {H : Nat} (h : TT w g t H) (hlen : (treeL t).length ≤ 1000000) (key value : ByteArray) (hk : key.size ≤ 60) (hv : value.size ≤ 1000) :
    Calls Tryd.prog 39 #[.pointer (some ⟨g, 0, none⟩), .string key, .string value] w (PutT w t H ⟨key, value⟩) := by
  have hk' : ¬ (60 : Int) < (key.size : Int) := by omega
  have hv' : ¬ (1000 : Int) < (value.size : Int) := by omega
  have hbs := run_bs1P key value
  have hb1 := run_bld94a
  have hb2 := run_bld87
  have mixed : Tryd.prog.follows .mixedOrders = true := by kernel_rfl
  obtain ⟨gb, hgb⟩ : ∃ gb, gb = w.heap.size := ⟨_, rfl⟩
  obtain ⟨q, hq⟩ : ∃ q, q = (w.alloc (.cells #[.string ⟨#[]⟩, .string ⟨#[]⟩] 54)).setRow w.heap.size #[.string key, .string value] := ⟨_, rfl⟩
  have hbq : Below w.heap.size w q := by rw [hq]; exact (((Kept.refl (fun _ => False) w).alloc _).setRow (fun h => absurd h (Nat.lt_irrefl _)) _).below (Nat.le_refl _) (fun _ _ h => h)
  have hbb : q.heap[gb]? = some (.cells (kcells ⟨key, value⟩) 54 (0, 0)) := by rw [hq, hgb]; exact setRow_heap _ _ _ _ _ _ (heap_new rfl)
  have hTq := h.under hbq
  obtain ⟨v, cv0, cv1, hroot⟩ := hTq.tr.facts
  have HTQ := Lib.hid hTq
  have HBQ := Lib.hid hbq
  have HBB := Lib.hid hbb
  have HL := Lib.hid hlen
  have HSO := Lib.hid h.so
  have HOK := Lib.hid h.ok
  have p7 : PB (w.alloc (.cells #[.string ⟨#[]⟩, .string ⟨#[]⟩] 54)) w.heap.size := ⟨⟨⟨#[]⟩, ⟨#[]⟩⟩, heap_new rfl⟩
  cases t with
  | none =>
    have hv : v = .pointer none := hroot
    subst hv
    clear h hlen hTq hbq hbb hroot
    go_enter Tryd.func39, Tryd.ntmps39
    go_upto_region 4 with fail
    rw [← hq, ← hgb]
    have ld0 := run_loadPair (range_kv HBB.out)
    clear hq hgb p7
    go_wp2_with fail
    go_ret
    exact put_none HOK.out HBQ.out key value
  | some b =>
    obtain ⟨bg, rfl, hbn⟩ := hroot
    obtain ⟨rfl, hbd⟩ := hbn
    obtain ⟨k, rfl⟩ : ∃ k, H = k + 1 := by
      rcases H with _ | k
      · exact h.ok.1.elim
      · exact ⟨k, rfl⟩
    have hwf := (wf_iff _ _).1 h.ok.1
    have HW := Lib.hid hwf
    have HB1 : Hid (1 ≤ b.ps.length) := Lib.hid h.ok.2
    have HB8 : Hid (1 ≤ b.ps.length ∧ b.ps.length ≤ 8) := Lib.hid ⟨h.ok.2, hwf.1⟩
    have HTW := Lib.hid h
    have HGET := Lib.hid (get_any hTq.tr hTq.ok hTq.so key)
    obtain ⟨G, hG⟩ : ∃ G, G = gotF (floorL (treeL (some b)) key) key := ⟨_, rfl⟩
    rw [← hG] at HGET
    have HGG := Lib.hid hG
    have HBD := Lib.hid hbd
    have HGL0 : Hid (g < q.heap.size) := Lib.hid hTq.lt
    have hn1 : IntKind.i64.wrap (((treeL (some b)).length : Int) + 1) = ((treeL (some b)).length : Int) + 1 := i64_id _ (by omega) (by omega)
    obtain ⟨bg, hbg⟩ : ∃ bg, bg = b.g := ⟨_, rfl⟩
    rw [← hbg] at cv0
    have HBG := Lib.hid hbg
    clear h hlen hTq hbq hbb hG hbd hwf hbg
    go_enter Tryd.func39, Tryd.ntmps39
    go_upto_region 4 with fail
    rw [← hq, ← hgb]
    clear hq hgb p7
    cases G with
    | none =>
      have HGET2 : Hid (Calls Tryd.prog 56 #[.pointer (some ⟨g, 0, none⟩), .string key] q fun e w' => e = .returned (.tuple #[.string ⟨#[]⟩, .bool false]) ∧ Below q.heap.size q w') := HGET
      clear HGET
      have HLEN : Hid ((((treeL (some b)).length : Int) + 1) = ((insL b.toL ⟨key, value⟩).length : Int)) := Lib.hid (by
        rw [insL_len_new (fun x hx => got_none (l := b.toL) (key := key) HSO.out HGG.out.symm x hx)]
        rfl)
      go_upto_region 9 with (go_at_call 56; refine HGET2.out.mono ?_; rintro e q2 ⟨rfl, hb2⟩; obtain ⟨q, hqq⟩ : ∃ q', q' = q2 := ⟨_, rfl⟩; subst hqq; have HBQ2 : Hid (Sorted (treeL (some b)) ∧ Below w.heap.size w q) := Lib.hid ⟨HSO.out, HBQ.out.trans (hb2.mono HBQ.out.size)⟩; have HRB : Hid (q.rangeAt gb 0 (KV.mk key value).cells) := Lib.hid (range_kv ((hb2.block _ (heap_lt HBB.out)).trans HBB.out)); have HGL : Hid (g < q.heap.size) := Lib.hid (Nat.lt_of_lt_of_le HGL0.out hb2.size); have CG0 : Hid (q.cell? ⟨g, 0, none⟩ = some (.pointer (some ⟨bg, 0, none⟩))) := Lib.hid ((hb2.cell (p := ⟨g, 0, none⟩) HGL0.out).trans cv0); have CG1 : Hid (q.cell? ⟨g, 1, none⟩ = some (.int .i64 ((treeL (some b)).length : Int))) := Lib.hid ((hb2.cell (p := ⟨g, 1, none⟩) HGL0.out).trans cv1); have HPUT : Hid (∀ p, Below q.heap.size q p → Calls Tryd.prog 57 #[.pointer (some ⟨bg, 0, none⟩), .agg #[.string key, .string value]] p (PutRes (fun _ => True) p k b ⟨key, value⟩)) := Lib.hid (fun p hp => by rw [HBG.out]; exact put_any key value k ((HBD.out.under hb2).under hp) HW.out.2 HW.out.1 HB1.out HSO.out); clear hb2)
      clear cv0 cv1
      refine Roll.region_f 6 81 Dpt9 Lpt9 [(0, .pointer (some ⟨g, 0, none⟩)), (7, .pointer (some ⟨gb, 0, none⟩))] (fun p => Below q.heap.size q p) (fun p p2 => Below p.heap.size p p2) [fun vv p => vv = .pointer (some ⟨g, 0, none⟩), fun vv p => vv = .pointer (some ⟨g, 0, none⟩), fun vv p => vv = .pointer (some ⟨g, 0, none⟩), fun vv p => vv = .pointer (some ⟨bg, 0, none⟩), fun vv p => vv = .agg #[.string key, .string value], fun vv p => ∃ r : BT, vv = .pointer (some ⟨r.g, 0, none⟩) ∧ NdD (fun _ => True) p r ∧ PutOf k b r ⟨key, value⟩] (by kernel_rfl) (by kernel_rfl) rfl ⟨rfl, rfl, trivial⟩ ((Below.refl _ _).drew) ?_ ?_ ?_
      · exact ⟨fun _ _ _ _ h => h, fun _ _ _ _ h => h, fun _ _ _ _ h => h, fun _ _ _ _ h => h, fun _ _ _ _ h => h, fun _ _ _ hs h => by obtain ⟨r, e1, e2, e3⟩ := h; exact ⟨r, e1, e2.under hs, e3⟩, trivial⟩
      · intro b0 hN hlv
        refine ⟨?_, ?_, ?_, ?_, ?_, ?_, trivial⟩
        · intro vs p hI hp
          have e0 : (Roll.putD Dpt9 vs [] b0).eval (.tmp 0) = .pointer (some ⟨g, 0, none⟩) := (Roll.eval_old rfl).trans (hlv.at 0 (0, .pointer (some ⟨g, 0, none⟩)) rfl)
          clear hp hlv hN
          unfold Roll.Goes
          simp only [Lpt9, List.getD_cons_zero, List.getD_cons_succ]
          generalize Roll.putD Dpt9 vs [] b0 = a1 at *
          refine Roll.goes_val (w' := p) (.pointer (some ⟨g, 0, none⟩)) rfl ?_ ⟨hI, Below.refl _ _, rfl⟩
          (have ec : ∀ x, a1.eval (.const x) = x := fun _ => rfl); (have ef : ∀ x, a1.eval (.func x) = .func (.func x) #[] #[] := fun _ => rfl); generalize a1.eval = ρ at *
          skip
          go_simp <;> (intros; first | (exfalso; omega) | rfl)
        · intro vs p hI hp
          have h0 : (vs 0) = .pointer (some ⟨g, 0, none⟩) := hp 0 (by simp [Lpt9])
          have e47 : (Roll.putD Dpt9 vs [0] b0).eval (.tmp 47) = .pointer (some ⟨g, 0, none⟩) := (Roll.eval_new 0 rfl (by decide) (by decide) (by omega)).trans h0
          clear hp hlv hN
          unfold Roll.Goes
          simp only [Lpt9, List.getD_cons_zero, List.getD_cons_succ]
          generalize Roll.putD Dpt9 vs [0] b0 = a1 at *
          refine Roll.goes_val (w' := p) (.pointer (some ⟨g, 0, none⟩)) rfl ?_ ⟨hI, Below.refl _ _, rfl⟩
          (have ec : ∀ x, a1.eval (.const x) = x := fun _ => rfl); (have ef : ∀ x, a1.eval (.func x) = .func (.func x) #[] #[] := fun _ => rfl); generalize a1.eval = ρ at *
          clear h0
          go_simp <;> (intros; first | (exfalso; omega) | rfl)
        · intro vs p hI hp
          have h1 : (vs 1) = .pointer (some ⟨g, 0, none⟩) := hp 1 (by simp [Lpt9])
          have e48 : (Roll.putD Dpt9 vs [1] b0).eval (.tmp 48) = .pointer (some ⟨g, 0, none⟩) := (Roll.eval_new 1 rfl (by decide) (by decide) (by omega)).trans h1
          clear hp hlv hN
          unfold Roll.Goes
          simp only [Lpt9, List.getD_cons_zero, List.getD_cons_succ]
          generalize Roll.putD Dpt9 vs [1] b0 = a1 at *
          refine Roll.goes_val (w' := p) (.pointer (some ⟨g, 0, none⟩)) rfl ?_ ⟨hI, Below.refl _ _, rfl⟩
          (have ec : ∀ x, a1.eval (.const x) = x := fun _ => rfl); (have ef : ∀ x, a1.eval (.func x) = .func (.func x) #[] #[] := fun _ => rfl); generalize a1.eval = ρ at *
          clear h1
          go_simp <;> (intros; first | (exfalso; omega) | rfl)
        · intro vs p hI hp
          have h2 : (vs 2) = .pointer (some ⟨g, 0, none⟩) := hp 2 (by simp [Lpt9])
          have e49 : (Roll.putD Dpt9 vs [2] b0).eval (.tmp 49) = .pointer (some ⟨g, 0, none⟩) := (Roll.eval_new 2 rfl (by decide) (by decide) (by omega)).trans h2
          clear hp hlv hN
          unfold Roll.Goes
          simp only [Lpt9, List.getD_cons_zero, List.getD_cons_succ]
          generalize Roll.putD Dpt9 vs [2] b0 = a1 at *
          have cf : p.cell? ⟨g, 0, none⟩ = some (.pointer (some ⟨bg, 0, none⟩)) := (hI.cell (p := ⟨g, 0, none⟩) HGL.out).trans CG0.out
          refine Roll.goes_val (w' := p) (.pointer (some ⟨bg, 0, none⟩)) rfl ?_ ⟨hI, Below.refl _ _, rfl⟩
          (have ec : ∀ x, a1.eval (.const x) = x := fun _ => rfl); (have ef : ∀ x, a1.eval (.func x) = .func (.func x) #[] #[] := fun _ => rfl); generalize a1.eval = ρ at *
          clear h2
          go_simp <;> (intros; first | (exfalso; omega) | rfl)
        · intro vs p hI hp
          have e7 : (Roll.putD Dpt9 vs [] b0).eval (.tmp 7) = .pointer (some ⟨gb, 0, none⟩) := (Roll.eval_old rfl).trans (hlv.at 1 (7, .pointer (some ⟨gb, 0, none⟩)) rfl)
          clear hp hlv hN
          unfold Roll.Goes
          simp only [Lpt9, List.getD_cons_zero, List.getD_cons_succ]
          generalize Roll.putD Dpt9 vs [] b0 = a1 at *
          have ld0 := run_loadPair (range_below HRB.out (by simp [KV.cells]) hI)
          refine Roll.goes_val (w' := p) (.agg #[.string key, .string value]) rfl ?_ ⟨hI, Below.refl _ _, rfl⟩
          (have ec : ∀ x, a1.eval (.const x) = x := fun _ => rfl); (have ef : ∀ x, a1.eval (.func x) = .func (.func x) #[] #[] := fun _ => rfl); generalize a1.eval = ρ at *
          skip
          go_simp <;> (intros; first | (exfalso; omega) | rfl)
        · intro vs p hI hp
          have h3 : (vs 3) = .pointer (some ⟨bg, 0, none⟩) := hp 3 (by simp [Lpt9])
          have h4 : (vs 4) = .agg #[.string key, .string value] := hp 4 (by simp [Lpt9])
          have e50 : (Roll.putD Dpt9 vs [3, 4] b0).eval (.tmp 50) = .pointer (some ⟨bg, 0, none⟩) := (Roll.eval_new 3 rfl (by decide) (by decide) (by omega)).trans h3
          have e51 : (Roll.putD Dpt9 vs [3, 4] b0).eval (.tmp 51) = .agg #[.string key, .string value] := (Roll.eval_new 4 rfl (by decide) (by decide) (by omega)).trans h4
          clear hp hlv hN
          unfold Roll.Goes
          simp only [Lpt9, List.getD_cons_zero, List.getD_cons_succ]
          generalize Roll.putD Dpt9 vs [3, 4] b0 = a1 at *
          refine Roll.goes_call 57 #[.pointer (some ⟨bg, 0, none⟩), .agg #[.string key, .string value]] p rfl (by have ec : ∀ x, a1.eval (.const x) = x := fun _ => rfl; have ef : ∀ x, a1.eval (.func x) = .func (.func x) #[] #[] := fun _ => rfl; generalize a1.eval = ρ at *; go_simp) ?_
          refine (HPUT.out p hI).mono ?_
          rintro y p2 ⟨r, rfl, hnd, hb2, hpo⟩
          exact ⟨_, rfl, hI.trans (hb2.mono hI.size), hb2, r, rfl, hnd.dom (fun _ _ => trivial), hpo⟩
      · intro vs p hI hR
        have h0 : (vs 0) = .pointer (some ⟨g, 0, none⟩) := hR 0 (by omega)
        have h1 : (vs 1) = .pointer (some ⟨g, 0, none⟩) := hR 1 (by omega)
        have h2 : (vs 2) = .pointer (some ⟨g, 0, none⟩) := hR 2 (by omega)
        have h3 : (vs 3) = .pointer (some ⟨bg, 0, none⟩) := hR 3 (by omega)
        have h4 : (vs 4) = .agg #[.string key, .string value] := hR 4 (by omega)
        have h5 : ∃ r : BT, (vs 5) = .pointer (some ⟨r.g, 0, none⟩) ∧ NdD (fun _ => True) p r ∧ PutOf k b r ⟨key, value⟩ := hR 5 (by omega)
        clear hR
        simp only [List.range_succ, List.range_zero, List.nil_append, List.cons_append, Roll.putD, Act.put, List.getD_cons_zero, List.getD_cons_succ, List.setIfInBounds_toArray, List.set_cons_zero, List.set_cons_succ, List.drop_succ_cons, List.drop_zero, Dpt9]
        simp only [h0, h1, h2, h3, h4]
        clear h0 h1 h2 h3 h4
        generalize vs 5 = v5 at *
        obtain ⟨r, rfl, hnd, hpo⟩ := h5
        have HND := Lib.hid hnd
        have HPO := Lib.hid hpo
        have HI := Lib.hid hI
        obtain ⟨aR, nR, cR, bR, mR, eR, -, -, cr0, -, hrp, -, -⟩ := hnd.facts
        have hnr := hrp.1
        have hncr : nR ≤ cR := hrp.2.2.1
        have hcr : cR ≤ 9223372036854775807 := hrp.2.2.2.1
        subst hnr
        obtain ⟨rn, hrn⟩ : ∃ rn, rn = r.ps.length := ⟨_, rfl⟩
        rw [← hrn] at cr0 hncr
        have HRN := Lib.hid hrn
        have cg1 := (hI.cell (p := ⟨g, 1, none⟩) HGL.out).trans CG1.out
        have HSOR : Hid (Sorted r.toL) := Lib.hid (by rw [hpo.list]; exact insL_sorted HSO.out)
        by_cases h8 : 8 < rn
        · have h8' : (8 : Int) < (rn : Int) := by omega
          have hbn := run_bs1N r.g
          have hb94 := run_bld94b
          clear hnd hpo hI hrp hrn
          go_upto_region 12 with fail
          obtain ⟨q4, hq4⟩ : ∃ q4, q4 = (p.alloc (.cells #[.pointer (some ⟨r.g, 0, none⟩)] 64)).alloc (.cells #[.slice none 0 0, .slice (some ⟨p.heap.size, 0, none⟩) 1 1] 69) := ⟨_, rfl⟩
          obtain ⟨gN, hgN⟩ : ∃ gN, gN = p.heap.size + 1 := ⟨_, rfl⟩
          have hb4 : Below p.heap.size p q4 := by rw [hq4]; exact ((Below.refl _ _).alloc (Nat.le_refl _) _).alloc (by simp) _
          have hON : ON (fun _ => True) p q4 gN [] [r] [] := by
            have hg1 : q4.heap[p.heap.size]? = some (.cells #[.pointer (some ⟨r.g, 0, none⟩)] 64 (0, 0)) := by rw [hq4]; exact heap_old (heap_new rfl)
            have hg2 : q4.heap[gN]? = some (.cells #[.slice none 0 0, .slice (some ⟨p.heap.size, 0, none⟩) 1 1] 69 (0, 0)) := by rw [hq4, hgN]; exact heap_new (by simp)
            refine ⟨none, some p.heap.size, _, _, hg2, Own.nil _ _ _, Own.of hg1 (Nat.le_refl _) (by unfold maxLen; simp) rfl (by simp [pnts]), (by simp), (fun e => by cases e; omega), (fun _ e => by cases e), by omega, (fun _ e => by cases e), (fun j e => by cases e; exact Nat.le_refl _), fun x hx => ?_, hb4⟩
            have hx : x = r := by simpa using hx
            subst hx
            exact HND.out.off hb4 (by omega) (fun _ e => by cases e) (fun j e => by cases e; exact Nat.le_refl _)
          rw [← hq4, ← hgN]
          have HB4 := Lib.hid hb4
          have g0 : 0 < ([r] : List BT).length := by simp
          have g3 : 3 ≤ ([r] : List BT)[0].ps.length := by show 3 ≤ r.ps.length; have := HRN.out; omega
          have g9 : ([r] : List BT)[0].ps.length ≤ 900 := by show r.ps.length ≤ 900; have := HPO.out.high; have := HB8.out; omega
          have HSP := Lib.hid (split_any hON 0 g0 rfl (by simp) HPO.out.sh.lens g3 g9)
          have CG1P : Hid (∀ u, Below p.heap.size p u → u.cell? ⟨g, 1, none⟩ = some (.int .i64 ((treeL (some b)).length : Int))) := Lib.hid (fun u hu => (hu.cell (p := ⟨g, 1, none⟩) (Nat.lt_of_lt_of_le HGL.out HI.out.size)).trans cg1)
          clear hq4 hgN hb4 hON cg1 cr0
          go_wp2_with (go_at_call 58; refine HSP.out.mono ?_; rintro e q5 ⟨rfl, LL, RR, hon, l1, l2, r1, r2⟩; have HB5 := Lib.hid (by obtain ⟨_, _, _, _, h⟩ := hon; exact h.below : Below p.heap.size p q5); have cg5 := CG1P.out q5 HB5.out; have HON5 := Lib.hid hon; have HL5 := Lib.hid (And.intro l1 (And.intro l2 (And.intro r1 r2))); clear hon l1 l2 r1 r2)
          go_ret
          obtain ⟨l1, l2, r1, r2⟩ := HL5.out
          obtain ⟨m1, m2, m3, m4⟩ := split_math rfl (HPO.out.sh : (([r] : List BT)[0]).Sh k) (by show 7 ≤ r.ps.length; have := HRN.out; omega) (by show r.ps.length ≤ 16; have := HPO.out.high; have := HB8.out; omega) l1 l2 r1 r2
          have hnd5 := HON5.out
          obtain ⟨_, _, _, _, hnd5⟩ := hnd5
          have hnd6 := hnd5.nd.dom (D' := fun _ => True) (fun _ _ => trivial)
          refine put_fin HBQ2.out HI.out HB5.out hnd6 (k := k + 1) (.inr ⟨by omega, rfl, ?_⟩) (by show 1 ≤ 8; omega) (by show 1 ≤ 1; omega) ?_ ?_ (.inr rfl) ?_
          · intro x hx
            have hx : x ∈ [LL, RR] := hx
            have hx : x = LL ∨ x = RR := by simpa using hx
            rcases hx with rfl | rfl
            · exact m1
            · exact m2
          · rw [toL_mk]
            show toLs [_] [LL, RR] = _
            rw [toLs_cons, toLs_last]
            exact m3.symm.trans HPO.out.list
          · exact HLEN.out
          · intro P
            have h1 : LL.cnt P + RR.cnt P ≤ cntL P r.ks + 2 := m4 P
            have h2 := HPO.out.cnt P
            have h3 := cnt_eq P r
            have h4 := toNat_le (P gN)
            rw [cnt_mk]
            show _ + cntL P [LL, RR] ≤ _
            rw [cntL_cons, cntL_cons, cntL_nil]
            have h6 : tcnt P (some b) = b.cnt P := rfl
            omega
        · have h8' : ¬ (8 : Int) < (rn : Int) := by omega
          clear hnd hpo hI hrp hrn
          go_wp2_with fail
          go_ret
          refine put_fin HBQ2.out HI.out (Below.refl _ _) HND.out HPO.out.sh (by have := HRN.out; omega) (by have := HPO.out.low; have := HB8.out; omega) HPO.out.list ?_ (.inl rfl) ?_
          · exact HLEN.out
          · intro P
            have h2 := HPO.out.cnt P
            have h6 : tcnt P (some b) = b.cnt P := rfl
            omega
    | some v2 =>
      have HGET2 : Hid (Calls Tryd.prog 56 #[.pointer (some ⟨g, 0, none⟩), .string key] q fun e w' => e = .returned (.tuple #[.string v2, .bool true]) ∧ Below q.heap.size q w') := HGET
      clear HGET
      have HMEM : Hid (KV.mk key v2 ∈ b.toL) := Lib.hid (got_some HGG.out.symm)
      by_cases hvv : v2 = value
      · subst hvv
        have HRET : Hid (∀ u, Below q.heap.size q u → PutT w (some b) (k + 1) ⟨key, v2⟩ (.returned (.pointer (some ⟨g, 0, none⟩))) u) := Lib.hid (fun u hu => ⟨g, some b, k + 1, rfl, HTQ.out.under hu, (insL_same HSO.out HMEM.out).symm, .inl rfl, fun P => by omega, HBQ.out.trans (hu.mono HBQ.out.size)⟩)
        have hveq : (v2.toList == v2.toList) = true := by simp
        go_wp2_with (go_at_call 56; refine HGET2.out.mono ?_; rintro e q2 ⟨rfl, hb2⟩; have HB2 := Lib.hid hb2; clear hb2)
        go_ret
        exact HRET.out _ HB2.out
      · have hveq : (v2.toList == value.toList) = false := by rw [str_beq]; exact decide_eq_false hvv
        have HLEN : Hid ((((treeL (some b)).length : Int)) = ((insL b.toL ⟨key, value⟩).length : Int)) := Lib.hid (by
          rw [insL_len_old (l := b.toL) (p := ⟨key, value⟩) HSO.out HMEM.out rfl]
          rfl)
        go_upto_region 9 with (go_at_call 56; refine HGET2.out.mono ?_; rintro e q2 ⟨rfl, hb2⟩; obtain ⟨q, hqq⟩ : ∃ q', q' = q2 := ⟨_, rfl⟩; subst hqq; have HBQ2 : Hid (Sorted (treeL (some b)) ∧ Below w.heap.size w q) := Lib.hid ⟨HSO.out, HBQ.out.trans (hb2.mono HBQ.out.size)⟩; have HRB : Hid (q.rangeAt gb 0 (KV.mk key value).cells) := Lib.hid (range_kv ((hb2.block _ (heap_lt HBB.out)).trans HBB.out)); have HGL : Hid (g < q.heap.size) := Lib.hid (Nat.lt_of_lt_of_le HGL0.out hb2.size); have CG0 : Hid (q.cell? ⟨g, 0, none⟩ = some (.pointer (some ⟨bg, 0, none⟩))) := Lib.hid ((hb2.cell (p := ⟨g, 0, none⟩) HGL0.out).trans cv0); have CG1 : Hid (q.cell? ⟨g, 1, none⟩ = some (.int .i64 ((treeL (some b)).length : Int))) := Lib.hid ((hb2.cell (p := ⟨g, 1, none⟩) HGL0.out).trans cv1); have HPUT : Hid (∀ p, Below q.heap.size q p → Calls Tryd.prog 57 #[.pointer (some ⟨bg, 0, none⟩), .agg #[.string key, .string value]] p (PutRes (fun _ => True) p k b ⟨key, value⟩)) := Lib.hid (fun p hp => by rw [HBG.out]; exact put_any key value k ((HBD.out.under hb2).under hp) HW.out.2 HW.out.1 HB1.out HSO.out); clear hb2)
        clear cv0 cv1
        refine Roll.region_f 6 81 Dpt9 Lpt9 [(0, .pointer (some ⟨g, 0, none⟩)), (7, .pointer (some ⟨gb, 0, none⟩))] (fun p => Below q.heap.size q p) (fun p p2 => Below p.heap.size p p2) [fun vv p => vv = .pointer (some ⟨g, 0, none⟩), fun vv p => vv = .pointer (some ⟨g, 0, none⟩), fun vv p => vv = .pointer (some ⟨g, 0, none⟩), fun vv p => vv = .pointer (some ⟨bg, 0, none⟩), fun vv p => vv = .agg #[.string key, .string value], fun vv p => ∃ r : BT, vv = .pointer (some ⟨r.g, 0, none⟩) ∧ NdD (fun _ => True) p r ∧ PutOf k b r ⟨key, value⟩] (by kernel_rfl) (by kernel_rfl) rfl ⟨rfl, rfl, trivial⟩ ((Below.refl _ _).drew) ?_ ?_ ?_
        · exact ⟨fun _ _ _ _ h => h, fun _ _ _ _ h => h, fun _ _ _ _ h => h, fun _ _ _ _ h => h, fun _ _ _ _ h => h, fun _ _ _ hs h => by obtain ⟨r, e1, e2, e3⟩ := h; exact ⟨r, e1, e2.under hs, e3⟩, trivial⟩
        · intro b0 hN hlv
          refine ⟨?_, ?_, ?_, ?_, ?_, ?_, trivial⟩
          · intro vs p hI hp
            have e0 : (Roll.putD Dpt9 vs [] b0).eval (.tmp 0) = .pointer (some ⟨g, 0, none⟩) := (Roll.eval_old rfl).trans (hlv.at 0 (0, .pointer (some ⟨g, 0, none⟩)) rfl)
            clear hp hlv hN
            unfold Roll.Goes
            simp only [Lpt9, List.getD_cons_zero, List.getD_cons_succ]
            generalize Roll.putD Dpt9 vs [] b0 = a1 at *
            refine Roll.goes_val (w' := p) (.pointer (some ⟨g, 0, none⟩)) rfl ?_ ⟨hI, Below.refl _ _, rfl⟩
            (have ec : ∀ x, a1.eval (.const x) = x := fun _ => rfl); (have ef : ∀ x, a1.eval (.func x) = .func (.func x) #[] #[] := fun _ => rfl); generalize a1.eval = ρ at *
            skip
            go_simp <;> (intros; first | (exfalso; omega) | rfl)
          · intro vs p hI hp
            have h0 : (vs 0) = .pointer (some ⟨g, 0, none⟩) := hp 0 (by simp [Lpt9])
            have e47 : (Roll.putD Dpt9 vs [0] b0).eval (.tmp 47) = .pointer (some ⟨g, 0, none⟩) := (Roll.eval_new 0 rfl (by decide) (by decide) (by omega)).trans h0
            clear hp hlv hN
            unfold Roll.Goes
            simp only [Lpt9, List.getD_cons_zero, List.getD_cons_succ]
            generalize Roll.putD Dpt9 vs [0] b0 = a1 at *
            refine Roll.goes_val (w' := p) (.pointer (some ⟨g, 0, none⟩)) rfl ?_ ⟨hI, Below.refl _ _, rfl⟩
            (have ec : ∀ x, a1.eval (.const x) = x := fun _ => rfl); (have ef : ∀ x, a1.eval (.func x) = .func (.func x) #[] #[] := fun _ => rfl); generalize a1.eval = ρ at *
            clear h0
            go_simp <;> (intros; first | (exfalso; omega) | rfl)
          · intro vs p hI hp
            have h1 : (vs 1) = .pointer (some ⟨g, 0, none⟩) := hp 1 (by simp [Lpt9])
            have e48 : (Roll.putD Dpt9 vs [1] b0).eval (.tmp 48) = .pointer (some ⟨g, 0, none⟩) := (Roll.eval_new 1 rfl (by decide) (by decide) (by omega)).trans h1
            clear hp hlv hN
            unfold Roll.Goes
            simp only [Lpt9, List.getD_cons_zero, List.getD_cons_succ]
            generalize Roll.putD Dpt9 vs [1] b0 = a1 at *
            refine Roll.goes_val (w' := p) (.pointer (some ⟨g, 0, none⟩)) rfl ?_ ⟨hI, Below.refl _ _, rfl⟩
            (have ec : ∀ x, a1.eval (.const x) = x := fun _ => rfl); (have ef : ∀ x, a1.eval (.func x) = .func (.func x) #[] #[] := fun _ => rfl); generalize a1.eval = ρ at *
            clear h1
            go_simp <;> (intros; first | (exfalso; omega) | rfl)
          · intro vs p hI hp
            have h2 : (vs 2) = .pointer (some ⟨g, 0, none⟩) := hp 2 (by simp [Lpt9])
            have e49 : (Roll.putD Dpt9 vs [2] b0).eval (.tmp 49) = .pointer (some ⟨g, 0, none⟩) := (Roll.eval_new 2 rfl (by decide) (by decide) (by omega)).trans h2
            clear hp hlv hN
            unfold Roll.Goes
            simp only [Lpt9, List.getD_cons_zero, List.getD_cons_succ]
            generalize Roll.putD Dpt9 vs [2] b0 = a1 at *
            have cf : p.cell? ⟨g, 0, none⟩ = some (.pointer (some ⟨bg, 0, none⟩)) := (hI.cell (p := ⟨g, 0, none⟩) HGL.out).trans CG0.out
            refine Roll.goes_val (w' := p) (.pointer (some ⟨bg, 0, none⟩)) rfl ?_ ⟨hI, Below.refl _ _, rfl⟩
            (have ec : ∀ x, a1.eval (.const x) = x := fun _ => rfl); (have ef : ∀ x, a1.eval (.func x) = .func (.func x) #[] #[] := fun _ => rfl); generalize a1.eval = ρ at *
            clear h2
            go_simp <;> (intros; first | (exfalso; omega) | rfl)
          · intro vs p hI hp
            have e7 : (Roll.putD Dpt9 vs [] b0).eval (.tmp 7) = .pointer (some ⟨gb, 0, none⟩) := (Roll.eval_old rfl).trans (hlv.at 1 (7, .pointer (some ⟨gb, 0, none⟩)) rfl)
            clear hp hlv hN
            unfold Roll.Goes
            simp only [Lpt9, List.getD_cons_zero, List.getD_cons_succ]
            generalize Roll.putD Dpt9 vs [] b0 = a1 at *
            have ld0 := run_loadPair (range_below HRB.out (by simp [KV.cells]) hI)
            refine Roll.goes_val (w' := p) (.agg #[.string key, .string value]) rfl ?_ ⟨hI, Below.refl _ _, rfl⟩
            (have ec : ∀ x, a1.eval (.const x) = x := fun _ => rfl); (have ef : ∀ x, a1.eval (.func x) = .func (.func x) #[] #[] := fun _ => rfl); generalize a1.eval = ρ at *
            skip
            go_simp <;> (intros; first | (exfalso; omega) | rfl)
          · intro vs p hI hp
            have h3 : (vs 3) = .pointer (some ⟨bg, 0, none⟩) := hp 3 (by simp [Lpt9])
            have h4 : (vs 4) = .agg #[.string key, .string value] := hp 4 (by simp [Lpt9])
            have e50 : (Roll.putD Dpt9 vs [3, 4] b0).eval (.tmp 50) = .pointer (some ⟨bg, 0, none⟩) := (Roll.eval_new 3 rfl (by decide) (by decide) (by omega)).trans h3
            have e51 : (Roll.putD Dpt9 vs [3, 4] b0).eval (.tmp 51) = .agg #[.string key, .string value] := (Roll.eval_new 4 rfl (by decide) (by decide) (by omega)).trans h4
            clear hp hlv hN
            unfold Roll.Goes
            simp only [Lpt9, List.getD_cons_zero, List.getD_cons_succ]
            generalize Roll.putD Dpt9 vs [3, 4] b0 = a1 at *
            refine Roll.goes_call 57 #[.pointer (some ⟨bg, 0, none⟩), .agg #[.string key, .string value]] p rfl (by have ec : ∀ x, a1.eval (.const x) = x := fun _ => rfl; have ef : ∀ x, a1.eval (.func x) = .func (.func x) #[] #[] := fun _ => rfl; generalize a1.eval = ρ at *; go_simp) ?_
            refine (HPUT.out p hI).mono ?_
            rintro y p2 ⟨r, rfl, hnd, hb2, hpo⟩
            exact ⟨_, rfl, hI.trans (hb2.mono hI.size), hb2, r, rfl, hnd.dom (fun _ _ => trivial), hpo⟩
        · intro vs p hI hR
          have h0 : (vs 0) = .pointer (some ⟨g, 0, none⟩) := hR 0 (by omega)
          have h1 : (vs 1) = .pointer (some ⟨g, 0, none⟩) := hR 1 (by omega)
          have h2 : (vs 2) = .pointer (some ⟨g, 0, none⟩) := hR 2 (by omega)
          have h3 : (vs 3) = .pointer (some ⟨bg, 0, none⟩) := hR 3 (by omega)
          have h4 : (vs 4) = .agg #[.string key, .string value] := hR 4 (by omega)
          have h5 : ∃ r : BT, (vs 5) = .pointer (some ⟨r.g, 0, none⟩) ∧ NdD (fun _ => True) p r ∧ PutOf k b r ⟨key, value⟩ := hR 5 (by omega)
          clear hR
          simp only [List.range_succ, List.range_zero, List.nil_append, List.cons_append, Roll.putD, Act.put, List.getD_cons_zero, List.getD_cons_succ, List.setIfInBounds_toArray, List.set_cons_zero, List.set_cons_succ, List.drop_succ_cons, List.drop_zero, Dpt9]
          simp only [h0, h1, h2, h3, h4]
          clear h0 h1 h2 h3 h4
          generalize vs 5 = v5 at *
          obtain ⟨r, rfl, hnd, hpo⟩ := h5
          have HND := Lib.hid hnd
          have HPO := Lib.hid hpo
          have HI := Lib.hid hI
          obtain ⟨aR, nR, cR, bR, mR, eR, -, -, cr0, -, hrp, -, -⟩ := hnd.facts
          have hnr := hrp.1
          have hncr : nR ≤ cR := hrp.2.2.1
          have hcr : cR ≤ 9223372036854775807 := hrp.2.2.2.1
          subst hnr
          obtain ⟨rn, hrn⟩ : ∃ rn, rn = r.ps.length := ⟨_, rfl⟩
          rw [← hrn] at cr0 hncr
          have HRN := Lib.hid hrn
          have cg1 := (hI.cell (p := ⟨g, 1, none⟩) HGL.out).trans CG1.out
          have HSOR : Hid (Sorted r.toL) := Lib.hid (by rw [hpo.list]; exact insL_sorted HSO.out)
          by_cases h8 : 8 < rn
          · have h8' : (8 : Int) < (rn : Int) := by omega
            have hbn := run_bs1N r.g
            have hb94 := run_bld94b
            clear hnd hpo hI hrp hrn
            go_upto_region 12 with fail
            obtain ⟨q4, hq4⟩ : ∃ q4, q4 = (p.alloc (.cells #[.pointer (some ⟨r.g, 0, none⟩)] 64)).alloc (.cells #[.slice none 0 0, .slice (some ⟨p.heap.size, 0, none⟩) 1 1] 69) := ⟨_, rfl⟩
            obtain ⟨gN, hgN⟩ : ∃ gN, gN = p.heap.size + 1 := ⟨_, rfl⟩
            have hb4 : Below p.heap.size p q4 := by rw [hq4]; exact ((Below.refl _ _).alloc (Nat.le_refl _) _).alloc (by simp) _
            have hON : ON (fun _ => True) p q4 gN [] [r] [] := by
              have hg1 : q4.heap[p.heap.size]? = some (.cells #[.pointer (some ⟨r.g, 0, none⟩)] 64 (0, 0)) := by rw [hq4]; exact heap_old (heap_new rfl)
              have hg2 : q4.heap[gN]? = some (.cells #[.slice none 0 0, .slice (some ⟨p.heap.size, 0, none⟩) 1 1] 69 (0, 0)) := by rw [hq4, hgN]; exact heap_new (by simp)
              refine ⟨none, some p.heap.size, _, _, hg2, Own.nil _ _ _, Own.of hg1 (Nat.le_refl _) (by unfold maxLen; simp) rfl (by simp [pnts]), (by simp), (fun e => by cases e; omega), (fun _ e => by cases e), by omega, (fun _ e => by cases e), (fun j e => by cases e; exact Nat.le_refl _), fun x hx => ?_, hb4⟩
              have hx : x = r := by simpa using hx
              subst hx
              exact HND.out.off hb4 (by omega) (fun _ e => by cases e) (fun j e => by cases e; exact Nat.le_refl _)
            rw [← hq4, ← hgN]
            have HB4 := Lib.hid hb4
            have g0 : 0 < ([r] : List BT).length := by simp
            have g3 : 3 ≤ ([r] : List BT)[0].ps.length := by show 3 ≤ r.ps.length; have := HRN.out; omega
            have g9 : ([r] : List BT)[0].ps.length ≤ 900 := by show r.ps.length ≤ 900; have := HPO.out.high; have := HB8.out; omega
            have HSP := Lib.hid (split_any hON 0 g0 rfl (by simp) HPO.out.sh.lens g3 g9)
            have CG1P : Hid (∀ u, Below p.heap.size p u → u.cell? ⟨g, 1, none⟩ = some (.int .i64 ((treeL (some b)).length : Int))) := Lib.hid (fun u hu => (hu.cell (p := ⟨g, 1, none⟩) (Nat.lt_of_lt_of_le HGL.out HI.out.size)).trans cg1)
            clear hq4 hgN hb4 hON cg1 cr0
            go_wp2_with (go_at_call 58; refine HSP.out.mono ?_; rintro e q5 ⟨rfl, LL, RR, hon, l1, l2, r1, r2⟩; have HB5 := Lib.hid (by obtain ⟨_, _, _, _, h⟩ := hon; exact h.below : Below p.heap.size p q5); have cg5 := CG1P.out q5 HB5.out; have HON5 := Lib.hid hon; have HL5 := Lib.hid (And.intro l1 (And.intro l2 (And.intro r1 r2))); clear hon l1 l2 r1 r2)
            go_ret
            obtain ⟨l1, l2, r1, r2⟩ := HL5.out
            obtain ⟨m1, m2, m3, m4⟩ := split_math rfl (HPO.out.sh : (([r] : List BT)[0]).Sh k) (by show 7 ≤ r.ps.length; have := HRN.out; omega) (by show r.ps.length ≤ 16; have := HPO.out.high; have := HB8.out; omega) l1 l2 r1 r2
            have hnd5 := HON5.out
            obtain ⟨_, _, _, _, hnd5⟩ := hnd5
            have hnd6 := hnd5.nd.dom (D' := fun _ => True) (fun _ _ => trivial)
            refine put_fin HBQ2.out HI.out HB5.out hnd6 (k := k + 1) (.inr ⟨by omega, rfl, ?_⟩) (by show 1 ≤ 8; omega) (by show 1 ≤ 1; omega) ?_ ?_ (.inr rfl) ?_
            · intro x hx
              have hx : x ∈ [LL, RR] := hx
              have hx : x = LL ∨ x = RR := by simpa using hx
              rcases hx with rfl | rfl
              · exact m1
              · exact m2
            · rw [toL_mk]
              show toLs [_] [LL, RR] = _
              rw [toLs_cons, toLs_last]
              exact m3.symm.trans HPO.out.list
            · exact HLEN.out
            · intro P
              have h1 : LL.cnt P + RR.cnt P ≤ cntL P r.ks + 2 := m4 P
              have h2 := HPO.out.cnt P
              have h3 := cnt_eq P r
              have h4 := toNat_le (P gN)
              rw [cnt_mk]
              show _ + cntL P [LL, RR] ≤ _
              rw [cntL_cons, cntL_cons, cntL_nil]
              have h6 : tcnt P (some b) = b.cnt P := rfl
              omega
          · have h8' : ¬ (8 : Int) < (rn : Int) := by omega
            clear hnd hpo hI hrp hrn
            go_wp2_with fail
            go_ret
            refine put_fin HBQ2.out HI.out (Below.refl _ _) HND.out HPO.out.sh (by have := HRN.out; omega) (by have := HPO.out.low; have := HB8.out; omega) HPO.out.list ?_ (.inl rfl) ?_
            · exact HLEN.out
            · intro P
              have h2 := HPO.out.cnt P
              have h6 : tcnt P (some b) = b.cnt P := rfl
              omega
end Go.Proofs.YtcoijmggfkjcjaaDoor
namespace Go.Proofs.YtcoijmggfkjcjaaDoor
open Go.RowKit
set_option linter.unusedSimpArgs false
set_option linter.unusedVariables false
/-- the pairs from a key on -/
def geL (from_ : ByteArray) (l : List KV) : List KV := l.filter fun p => decide (0 ≤ cmpK p.k from_)
theorem geL_app (f : ByteArray) (a b : List KV) : geL f (a ++ b) = geL f a ++ geL f b := by unfold geL; rw [List.filter_append]
theorem geL_cons (f : ByteArray) (p : KV) (b : List KV) (h : 0 ≤ cmpK p.k f) : geL f (p :: b) = p :: geL f b := by unfold geL; rw [List.filter_cons_of_pos (by simpa using h)]
theorem geL_lt (f : ByteArray) (a : List KV) (h : ∀ p ∈ a, cmpK p.k f < 0) : geL f a = [] := by
  unfold geL
  rw [List.filter_eq_nil_iff]
  intro p hp
  have := h p hp
  simp
  omega
def restT (T : BT) (j : Nat) : List KV := toLs (T.ps.drop j) (T.ks.drop j)
theorem restT_leaf (T : BT) (j : Nat) (h : T.ks = []) : restT T j = T.ps.drop j := by unfold restT; rw [h, List.drop_nil, toLs_leaf]
theorem restT_step (T : BT) (j : Nat) (hl : T.ks = [] ∨ T.ks.length = T.ps.length + 1) (hj : j < T.ps.length) : restT T j = treeL T.ks[j]? ++ T.ps[j] :: restT T (j + 1) := by
  rcases hl with h | h
  · rw [restT_leaf T j h, restT_leaf T (j + 1) h, h, List.drop_eq_getElem_cons hj]
    rfl
  · unfold restT
    rw [List.drop_eq_getElem_cons hj, List.drop_eq_getElem_cons (show j < T.ks.length by omega), toLs_cons, List.getElem?_eq_getElem (by omega)]
    rfl
theorem restT_end (T : BT) (hl : T.ks = [] ∨ T.ks.length = T.ps.length + 1) : restT T T.ps.length = treeL T.ks[T.ps.length]? := by
  rcases hl with h | h
  · rw [restT_leaf T _ h, h, List.drop_length]
    rfl
  · unfold restT
    rw [List.drop_length, List.drop_eq_getElem_cons (show T.ps.length < T.ks.length by omega), List.drop_eq_nil_of_le (by omega), toLs_last, List.getElem?_eq_getElem (by omega)]
    rfl
theorem restT_pre (T : BT) (i : Nat) (from_ : ByteArray) (hl : T.ks = [] ∨ T.ks.length = T.ps.length + 1) (hs : Sorted T.toL) (hp : Place T.ps from_ i) : geL from_ T.toL = geL from_ (restT T i) := by
  have hi := hp.1
  rcases hl with h | h
  · rw [restT_leaf T i h, toL_eq, h, toLs_leaf]
    conv => lhs; rw [← List.take_append_drop i T.ps]
    rw [geL_app, geL_lt, List.nil_append]
    intro q hq
    obtain ⟨t, ht, hti, rfl⟩ := mem_take2 hq
    exact hp.2.1 t ht hti
  · have hik : i < T.ks.length := by omega
    have e : T.toL = preL T.ps T.ks i ++ restT T i := by
      rw [toL_eq, toLs_split T.ps T.ks i hik h]
      unfold restT
      rw [List.drop_eq_getElem_cons hik, toLs_one _ _ _ (by simp only [List.length_drop]; omega)]
    rw [e] at hs
    rw [e, geL_app, geL_lt, List.nil_append]
    intro q hq
    by_cases h0 : i = 0
    · subst h0
      rw [preL_zero] at hq
      cases hq
    · obtain ⟨j, rfl⟩ : ∃ j, i = j + 1 := ⟨i - 1, by omega⟩
      obtain ⟨A, hA⟩ := preL_snoc T.ps T.ks j (by omega) hik
      rw [hA] at hq hs
      have h5 := hp.2.1 j (by omega) (by omega)
      rcases List.mem_append.1 hq with hq | hq
      · have := (sorted_app.1 (sorted_app.1 hs).1).2.2 q hq T.ps[j] (by simp)
        exact cmpK_trans this h5
      · rw [List.mem_singleton.1 hq]; exact h5
/-- what a round that goes on keeps: what lay below n₀, and the variables of the walk -/
def KP (n₀ : Nat) (W W' : World) : Prop := Below n₀ W W' ∧ ∀ (b : Nat) (cs : Array Value) (t : TypeId), (t = 9 ∨ t = 47 ∨ t = 84 ∨ t = 85) → W.heap[b]? = some (.cells cs t (0, 0)) → W'.heap[b]? = some (.cells cs t (0, 0))
theorem KP.refl (n₀ : Nat) (W : World) : KP n₀ W W := ⟨Below.refl _ _, fun _ _ _ _ h => h⟩
theorem KP.trans {n₀ : Nat} {A B C : World} (h : KP n₀ A B) (k : KP n₀ B C) : KP n₀ A C := ⟨h.1.trans k.1, fun b cs t ht hh => k.2 b cs t ht (h.2 b cs t ht hh)⟩
theorem KP.of {n₀ : Nat} {A B : World} (h : Below A.heap.size A B) (hn : n₀ ≤ A.heap.size) : KP n₀ A B := ⟨h.mono hn, fun b cs t _ hh => (h.block b (Array.getElem?_eq_some_iff.1 hh).1).trans hh⟩
end Go.Proofs.YtcoijmggfkjcjaaDoor
namespace Go.Proofs.YtcoijmggfkjcjaaDoor
open Go.RowKit Go.Shelf
set_option linter.unusedSimpArgs false
set_option linter.unusedVariables false
attribute [local go_sem] Oper.semAt_some
attribute [local go_sem ↓] exec_loadPair exec_at_zeroP exec_at_succP Go.wp_at_zero Go.wp_at_succ
theorem room_of_none' {F : Fence} (hd : F.depth = none) (k : Nat) : F.room k := fun d h => by rw [hd] at h; cases h
theorem RoundIn.anyDepth' {F : Fence} (hd : F.depth = none) {m m' : Nat} {P : Program} {l : Nat} {f : FuncId} {tmps : Array Value} {assign body : Code} {w : World} {R : Ending → World → Prop}
    (h : RoundIn F m P l f tmps assign body w R) : RoundIn F m' P l f tmps assign body w R := ⟨h.1, fun c cs _ => h.2 c cs (room_of_none' hd _)⟩
theorem YieldAt.anyDepth' {F : Fence} (hd : F.depth = none) {m : Nat} (m' : Nat) {P : Program} {l : Nat} {args : Array Value} {W : World} {R : Ending → World → Prop} (h : YieldAt F m P l args W R) : YieldAt F m' P l args W R := by
  obtain ⟨fn, tmps, assign, body, hy, hR⟩ := h
  exact ⟨fn, tmps, assign, body, hy, RoundIn.anyDepth' hd hR⟩
def pairV (p : KV) : Value := .agg #[.string p.k, .string p.v]
theorem take_at {F : Fence} {n : Nat} {P : Program} {md : Region.Mode} {ops : Array Oper} {Q : Exit → Act → World → Prop} {i d : Nat} {oi : Oper} {v : Value} {fuel : Nat} {listed : Array Bool} {l : List Value} {df : List Deferred} {w : World} (hro : F.round = none) (hi : ops[i]? = some oi) (hd : oi.dst = some d)
    (hs : Region.noSelect ops = true) (hf : Region.free md ops listed i = true) (hr : (Region.ready md ops listed).contains i = true)
    (hQ : ∀ c l l' df w, Q (.panic c) ⟨l, df⟩ w → Q (.panic c) ⟨l', df⟩ w) (hy : YieldsFenced P ops oi v ⟨l.toArray, df⟩)
    (h : wpAnyIn F n P md ops Q fuel (listed.setIfInBounds i true) ⟨(l.set d v).toArray, df⟩ w) : wpAnyIn F n P md ops Q (fuel + 1) listed ⟨l.toArray, df⟩ w := by
  refine wpAnyIn_take hro hi hs hf hr (fun c a w h => hQ c _ _ _ w (by unfold Act.put at h; rw [hd] at h; exact h)) hy ?_
  unfold Act.put
  rw [hd]
  simpa using h
/-- the variables of the walk -/
structure Vars (W : World) (bf bv bY l : Nat) (from_ : ByteArray) : Prop where
  f : W.heap[bf]? = some (.cells #[.string from_] 9 (0, 0))
  v : W.heap[bv]? = some (.cells #[.func (.func 72) #[] #[.pointer (some ⟨bf, 0, none⟩), .pointer (some ⟨bv, 0, none⟩), .pointer (some ⟨bY, 0, none⟩)]] 85 (0, 0))
  y : W.heap[bY]? = some (.cells #[.func (.yield l) #[] #[]] 84 (0, 0))
theorem Vars.kp {n₀ : Nat} {W W' : World} {bf bv bY l : Nat} {from_ : ByteArray} (h : Vars W bf bv bY l from_) (hk : KP n₀ W W') : Vars W' bf bv bY l from_ :=
  ⟨hk.2 _ _ _ (.inl rfl) h.f, hk.2 _ _ _ (.inr (.inr (.inr rfl))) h.v, hk.2 _ _ _ (.inr (.inr (.inl rfl))) h.y⟩
theorem NdD.kp {n₀ : Nat} {W W' : World} {T : BT} (h : NdD (fun b => b < n₀) W T) (hk : KP n₀ W W') : NdD (fun b => b < n₀) W' T :=
  h.kept (S := fun b => n₀ ≤ b) ⟨hk.1.os, hk.1.tape, hk.1.output, hk.1.size, fun b hb hs => hk.1.block b (by omega)⟩ (fun b _ hb e => by omega)
/-- what visit promises -/
def Vis (J Jx : List KV → World → Prop) (n₀ : Nat) (pre L : List KV) (W : World) (e : Ending) (W' : World) : Prop := (e = .returned (.bool true) ∧ J (pre ++ L) W' ∧ KP n₀ W W') ∨ (e = .returned (.bool false) ∧ ∃ q, q <+: L ∧ Jx (pre ++ q) W')
set_option maxRecDepth 100000 in
set_option maxHeartbeats 4000000 in
theorem visit_nil (F : Fence) (hF : F = Fence.wide) (l n₀ bf bv bY : Nat) (from_ : ByteArray) (J Jx : List KV → World → Prop) (n : Nat) (pre : List KV) (W : World) (hJ : J pre W) :
    CallsIn F n Tryd.prog 72 #[.pointer none, .pointer (some ⟨bf, 0, none⟩), .pointer (some ⟨bv, 0, none⟩), .pointer (some ⟨bY, 0, none⟩)] W (Vis J Jx n₀ pre [] W) := by
  have h77 : F.fn 72 := by rw [hF]; trivial
  have hro : F.round = none := by rw [hF]; rfl
  clear hF
  refine callsIn_of_wp Tryd.func72 rfl h77 ?_ hro
  simp only [Tryd.ntmps72, List.size_toArray, List.length_cons, List.length_nil, Nat.reduceAdd, Nat.reduceSub, Array.replicate_succ, Array.replicate_zero, List.push_toArray, List.append_toArray, List.nil_append, List.cons_append]
  gi_wp2
  go_ret
  exact .inl ⟨rfl, by rw [List.append_nil]; exact hJ, KP.refl _ _⟩
set_option maxRecDepth 100000 in
set_option maxHeartbeats 4000000 in
theorem visit_step (F : Fence) (hF : F = Fence.wide) (l n₀ bf bv bY N : Nat) (from_ : ByteArray) (J Jx : List KV → World → Prop) (hJb : ∀ s W W', J s W → Below W.heap.size W W' → J s W')
    (hY : ∀ m pre x W, J pre W → pre.length < N → YieldAt F m Tryd.prog l #[pairV x] W fun e W' => (e = .returned (.bool true) ∧ J (pre ++ [x]) W' ∧ KP n₀ W W') ∨ (e = .returned (.bool false) ∧ Jx (pre ++ [x]) W'))
    (T : BT) (k : Nat) (hs : T.Sh k) (h8 : T.ps.length ≤ 8) (hso : Sorted T.toL)
    (ih : ∀ (n : Nat) (C : BT) (pre : List KV) (W : World), C ∈ T.ks → Sorted C.toL → NdD (fun b => b < n₀) W C → n₀ ≤ W.heap.size → Vars W bf bv bY l from_ → J pre W → pre.length + (geL from_ C.toL).length ≤ N → CallsIn F n Tryd.prog 72 #[.pointer (some ⟨C.g, 0, none⟩), .pointer (some ⟨bf, 0, none⟩), .pointer (some ⟨bv, 0, none⟩), .pointer (some ⟨bY, 0, none⟩)] W (Vis J Jx n₀ pre (geL from_ C.toL) W))
    (n : Nat) (pre : List KV) (W : World) (hT : NdD (fun b => b < n₀) W T) (hn₀ : n₀ ≤ W.heap.size) (hV : Vars W bf bv bY l from_) (hJ : J pre W) (hN : pre.length + (geL from_ T.toL).length ≤ N) :
    CallsIn F n Tryd.prog 72 #[.pointer (some ⟨T.g, 0, none⟩), .pointer (some ⟨bf, 0, none⟩), .pointer (some ⟨bv, 0, none⟩), .pointer (some ⟨bY, 0, none⟩)] W (Vis J Jx n₀ pre (geL from_ T.toL) W) := by
  have h77 : F.fn 72 := by rw [hF]; trivial
  have h59 : F.fn 60 := by rw [hF]; trivial
  have h49 : F.fn 61 := by rw [hF]; trivial
  have hro : F.round = none := by rw [hF]; rfl
  have hdd : ∀ k : Nat, (F.depth.isSome = true → 1 ≤ k) := fun k h => by rw [hF] at h; cases h
  have HW : Hid (∀ {m : Nat} {f : FuncId} {args : Array Value} {u : World} {R : Ending → World → Prop}, Calls Tryd.prog f args u R → CallsIn F m Tryd.prog f args u R) := Lib.hid (fun h => by rw [hF]; exact callsIn_wide.2 h)
  have HF := Lib.hid hF
  clear hF
  obtain ⟨tg, htg⟩ : ∃ tg, tg = T.g := ⟨_, rfl⟩
  have HFI := Lib.hid (find_any hT.nd from_ (by exact Sorted.ps ((wf_iff _ _).2 ⟨h8, hs⟩) hso) (by omega))
  rw [← htg] at HFI ⊢
  have HTG := Lib.hid htg
  have cf := cell_of_row W bf 0 _ _ _ hV.f
  have HV := Lib.hid hV
  have HT := Lib.hid hT
  have HJ := Lib.hid hJ
  have HN := Lib.hid hN
  have HN0 := Lib.hid hn₀
  clear htg hV hT hJ hN hn₀
  refine callsIn_of_wp Tryd.func72 rfl h77 ?_ hro
  simp only [Tryd.ntmps72, List.size_toArray, List.length_cons, List.length_nil, Nat.reduceAdd, Nat.reduceSub, Array.replicate_succ, Array.replicate_zero, List.push_toArray, List.append_toArray, List.nil_append, List.cons_append]
  gi_wp2_with ((try refine ⟨hdd _, ?_⟩); gi_at_call 60; refine (HW.out HFI.out).mono ?_; rintro e W1 ⟨i, rfl, hpl, hb1⟩; have HPL := Lib.hid hpl; have HB1 := Lib.hid hb1; clear hpl hb1)
  have hE : geL from_ T.toL = geL from_ (restT T i) := restT_pre T i from_ hs.lens hso HPL.out
  have HB1K : Hid (KP n₀ W W1) := Lib.hid (KP.of HB1.out HN0.out)
  have HJ1 : Hid (J pre W1) := Lib.hid (hJb _ _ _ HJ.out HB1.out)
  have HE := Lib.hid hE
  have HIP := Lib.hid HPL.out.1
  have HS := Lib.hid hs
  have HSO := Lib.hid hso
  have HJB := Lib.hid hJb
  have HIH := Lib.hid ih
  have HYY := Lib.hid hY
  have H8 := Lib.hid h8
  clear hE hs hso hJb ih hY h8 cf
  gi_loopw [6] (fun u6 wr => ∃ (j : Nat) (done : List KV), u6 = .int .i64 (j : Int) ∧ i ≤ j ∧ j ≤ T.ps.length ∧ geL from_ T.toL = done ++ geL from_ (restT T j) ∧ J (pre ++ done) wr ∧ KP n₀ W wr) (fun u6 wr => T.ps.length - (intOf u6).toNat)
  case atStart => exact ⟨i, [], rfl, Nat.le_refl _, HIP.out, by rw [List.nil_append]; exact HE.out, by rw [List.append_nil]; exact HJ1.out, HB1K.out⟩
  case round =>
    obtain ⟨j, done, rfl, hij, hjn, hdone, hJ, hk⟩ := hrel
    have hTr := HT.out.kp hk
    have hVr := HV.out.kp hk
    obtain ⟨aT, nT, cT, bT, mT, eT, -, -, ct0, -, htp, -, -⟩ := hTr.facts
    rw [← HTG.out] at ct0
    have hnT := htp.1
    have hncT : nT ≤ cT := htp.2.2.1
    have hcT : cT ≤ 9223372036854775807 := htp.2.2.2.1
    have HDONE := Lib.hid hdone
    have HJ2 := Lib.hid hJ
    have HK2 := Lib.hid hk
    have cv : wr.cell? ⟨bv, 0, none⟩ = some (.func (.func 72) #[] #[.pointer (some ⟨bf, 0, none⟩), .pointer (some ⟨bv, 0, none⟩), .pointer (some ⟨bY, 0, none⟩)]) := cell_of_row wr bv 0 _ _ _ hVr.v
    have HVR := Lib.hid hVr
    have HTR := Lib.hid hTr
    have HNT := Lib.hid hnT
    have HKID : Hid (∃ xk : Value, (∀ u, Below wr.heap.size wr u → Calls Tryd.prog 61 #[.pointer (some ⟨tg, 0, none⟩), .int .i64 (j : Int)] u fun e w' => e = .returned xk ∧ u = w') ∧ ∀ (m : Nat) (u : World), Below wr.heap.size wr u → CallsIn F m Tryd.prog 72 #[xk, .pointer (some ⟨bf, 0, none⟩), .pointer (some ⟨bv, 0, none⟩), .pointer (some ⟨bY, 0, none⟩)] u (Vis J Jx n₀ (pre ++ done) (geL from_ (treeL T.ks[j]?)) u)) := Lib.hid (by
      have hn0r : n₀ ≤ wr.heap.size := Nat.le_trans HN0.out HK2.out.1.size
      have hlen : done.length + (geL from_ (treeL T.ks[j]?)).length ≤ (geL from_ T.toL).length := by
        rw [hdone, List.length_append]
        rcases Nat.lt_or_ge j T.ps.length with h | h
        · rw [restT_step T j HS.out.lens h, geL_app, List.length_append]; omega
        · obtain rfl : j = T.ps.length := by omega
          rw [restT_end T HS.out.lens]
          omega
      by_cases hk0 : T.ks = []
      · refine ⟨.pointer none, fun u hu => ?_, fun m u hu => ?_⟩
        · have := kid_leaf (hTr.under hu).nd (by rw [hk0]; rfl) (j : Int)
          rw [← HTG.out] at this
          exact this
        · have e : T.ks[j]? = none := by rw [hk0]; rfl
          rw [e]
          exact visit_nil F HF.out l n₀ bf bv bY from_ J Jx m (pre ++ done) u (HJB.out _ _ _ hJ hu)
      · have hkl : T.ks.length = T.ps.length + 1 := by
          rcases HS.out.lens with h | h
          · exact absurd h hk0
          · exact h
        have hjk : j < T.ks.length := by omega
        have e : T.ks[j]? = some T.ks[j] := List.getElem?_eq_getElem hjk
        refine ⟨.pointer (some ⟨T.ks[j].g, 0, none⟩), fun u hu => ?_, fun m u hu => ?_⟩
        · have := kid_any (hTr.under hu).nd j hjk
          rw [← HTG.out] at this
          refine this.mono ?_
          rintro e w' ⟨gk, rfl, hnd, rfl⟩
          exact ⟨by rw [hnd.1], rfl⟩
        · rw [e] at hlen ⊢
          have hsk : Sorted T.ks[j].toL := by
            have h := HSO.out
            rw [toL_eq, toLs_split T.ps T.ks j hjk hkl] at h
            exact (sorted_app.1 (sorted_app.1 h).2.1).1
          obtain ⟨_, _, _, _, _, _, -, -, -, -, -, -, hkd⟩ := (hTr.under hu).facts
          exact HIH.out m T.ks[j] (pre ++ done) u (List.getElem_mem hjk) hsk (hkd _ (List.getElem_mem hjk)) (Nat.le_trans hn0r hu.size) (hVr.kp (KP.of hu hn0r)) (HJB.out _ _ _ hJ hu) (by have := HN.out; rw [List.length_append]; show _ + (geL from_ (treeL (some T.ks[j]))).length ≤ _; omega))
    obtain ⟨xk, hck, hvk⟩ := HKID.out
    have HCK := Lib.hid hck
    have HVK := Lib.hid hvk
    clear hck hvk HKID
    have hbd : Below wr.heap.size wr wr.drew := (Below.refl _ wr).drew
    by_cases hlt : j < T.ps.length
    · have hlt' : (j : Int) < (nT : Int) := by omega
      obtain ⟨p, hp⟩ : ∃ p, p = T.ps[j]'hlt := ⟨_, rfl⟩
      have hst : geL from_ (restT T j) = geL from_ (treeL T.ks[j]?) ++ p :: geL from_ (restT T (j + 1)) := by
        rw [hp, restT_step T j HS.out.lens hlt, geL_app, geL_cons _ _ _ (HPL.out.2.2 j hlt hij)]
      obtain ⟨L, hL⟩ : ∃ L, L = geL from_ (treeL T.ks[j]?) := ⟨_, rfl⟩
      rw [← hL] at hst HVK
      have HST := Lib.hid hst
      have HP : Hid (T.ps[j]? = some p) := Lib.hid (by rw [hp]; exact List.getElem?_eq_getElem hlt)
      have HLT := Lib.hid hlt
      clear hVr hTr htp hnT hdone hJ hk hL hst hp hlt
      have hmix : Tryd.prog.follows .mixedOrders = true := by kernel_rfl
      gi_wp2
      have hF2 := HF.out
      subst hF2
      gi_region_with_o (first
        | ((try refine ⟨hdd _, ?_⟩); gi_at_call 61; refine (HW.out (HCK.out _ hbd)).mono ?_; rintro e W2 ⟨rfl, rfl⟩)
        | ((try refine ⟨hdd _, ?_⟩)
           gi_at_call 72
           rename_i KK hKK
           refine (HVK.out _ _ hbd).mono ?_
           rintro e W3 (⟨rfl, hJ3, hk3⟩ | ⟨rfl, q, hq, hx⟩)
           rotate_left
           · go_loud (
              refine hKK _ _ ?_
              refine take_at (i := 5) (d := 30) (v := ?_) rfl rfl rfl (by kernel_rfl) (by kernel_rfl) (by kernel_rfl) (fun _ _ _ _ _ h => h) ⟨Or.inl ⟨by kernel_rfl, ?_⟩, fun _ => by kernel_rfl⟩ ?_
              rotate_left
              · intro w; go_simp; try rfl
              simp only [List.set_cons_zero, List.set_cons_succ]
              refine take_at (i := 6) (d := 31) (v := ?_) rfl rfl rfl (by kernel_rfl) (by kernel_rfl) (by kernel_rfl) (fun _ _ _ _ _ h => h) ⟨Or.inl ⟨by kernel_rfl, ?_⟩, fun _ => by kernel_rfl⟩ ?_
              rotate_left
              · intro w; go_simp; try rfl
              simp only [List.set_cons_zero, List.set_cons_succ]
              refine take_at (i := 7) (d := 32) rfl rfl rfl (by kernel_rfl) (by kernel_rfl) (by kernel_rfl) (fun _ _ _ _ _ h => h) ⟨Or.inr ⟨by kernel_rfl, by rfl⟩, fun _ => by kernel_rfl⟩ ?_
              simp only [List.set_cons_zero, List.set_cons_succ]
              refine take_at (i := 8) (d := 33) rfl rfl rfl (by kernel_rfl) (by kernel_rfl) (by kernel_rfl) (fun _ _ _ _ _ h => h) ⟨Or.inr ⟨by kernel_rfl, by rfl⟩, fun _ => by kernel_rfl⟩ ?_
              simp only [List.set_cons_zero, List.set_cons_succ]
              refine take_at (i := 9) (d := 34) rfl rfl rfl (by kernel_rfl) (by kernel_rfl) (by kernel_rfl) (fun _ _ _ _ _ h => h) ⟨Or.inr ⟨by kernel_rfl, by rfl⟩, fun _ => by kernel_rfl⟩ ?_
              simp only [List.set_cons_zero, List.set_cons_succ]
              refine take_at (i := 10) (d := 35) rfl rfl rfl (by kernel_rfl) (by kernel_rfl) (by kernel_rfl) (fun _ _ _ _ _ h => h) ⟨Or.inr ⟨by kernel_rfl, by rfl⟩, fun _ => by kernel_rfl⟩ ?_
              simp only [List.set_cons_zero, List.set_cons_succ]
              refine take_at (i := 11) (d := 36) rfl rfl rfl (by kernel_rfl) (by kernel_rfl) (by kernel_rfl) (fun _ _ _ _ _ h => h) ⟨Or.inr ⟨by kernel_rfl, by rfl⟩, fun _ => by kernel_rfl⟩ ?_
              simp only [List.set_cons_zero, List.set_cons_succ]
              refine take_at (i := 12) (d := 37) rfl rfl rfl (by kernel_rfl) (by kernel_rfl) (by kernel_rfl) (fun _ _ _ _ _ h => h) ⟨Or.inr ⟨by kernel_rfl, by rfl⟩, fun _ => by kernel_rfl⟩ ?_
              simp only [List.set_cons_zero, List.set_cons_succ]
              refine take_at (i := 13) (d := 38) rfl rfl rfl (by kernel_rfl) (by kernel_rfl) (by kernel_rfl) (fun _ _ _ _ _ h => h) ⟨Or.inr ⟨by kernel_rfl, by rfl⟩, fun _ => by kernel_rfl⟩ ?_
              simp only [List.set_cons_zero, List.set_cons_succ]
              refine take_at (i := 14) (d := 39) rfl rfl rfl (by kernel_rfl) (by kernel_rfl) (by kernel_rfl) (fun _ _ _ _ _ h => h) ⟨Or.inr ⟨by kernel_rfl, by rfl⟩, fun _ => by kernel_rfl⟩ ?_
              simp only [List.set_cons_zero, List.set_cons_succ]
              refine take_at (i := 15) (d := 40) rfl rfl rfl (by kernel_rfl) (by kernel_rfl) (by kernel_rfl) (fun _ _ _ _ _ h => h) ⟨Or.inr ⟨by kernel_rfl, by rfl⟩, fun _ => by kernel_rfl⟩ ?_
              simp only [List.set_cons_zero, List.set_cons_succ]
              refine take_at (i := 16) (d := 41) rfl rfl rfl (by kernel_rfl) (by kernel_rfl) (by kernel_rfl) (fun _ _ _ _ _ h => h) ⟨Or.inr ⟨by kernel_rfl, by rfl⟩, fun _ => by kernel_rfl⟩ ?_
              simp only [List.set_cons_zero, List.set_cons_succ]
              refine take_at (i := 17) (d := 42) (v := ?_) rfl rfl rfl (by kernel_rfl) (by kernel_rfl) (by kernel_rfl) (fun _ _ _ _ _ h => h) ⟨Or.inl ⟨by kernel_rfl, ?_⟩, fun _ => by kernel_rfl⟩ ?_
              rotate_left
              · intro w; go_simp; try rfl
              simp only [List.set_cons_zero, List.set_cons_succ]
              refine wpAnyIn_done (by kernel_rfl) ?_ _
              gi_wp2
              go_ret
              exact .inr ⟨rfl, done ++ q, by rw [HDONE.out, HST.out]; exact (List.prefix_append_right_inj done).2 (hq.trans (List.prefix_append _ _)), by rw [← List.append_assoc]; exact hx⟩)
           have hkw : KP n₀ W W3 := HK2.out.trans ((KP.of hbd (Nat.le_trans HN0.out HK2.out.1.size)).trans hk3)
           obtain ⟨aU, nU, cU, bU, mU, eU, -, -, cu0, -, hup, -, -⟩ := (HT.out.kp hkw).facts
           rw [← HTG.out] at cu0
           have hnU : T.ps.length = nU := hup.1
           obtain ⟨bb, off, -, hbb, rfl, hcell⟩ := hup.at (by have := HLT.out; omega)
           have hr := hcell j HLT.out
           obtain ⟨kv, hkv⟩ : ∃ kv, kv = T.ps[j]'HLT.out := ⟨_, rfl⟩
           rw [← hkv] at hr
           obtain rfl : p = kv := by have := HP.out; rw [List.getElem?_eq_getElem HLT.out, ← hkv] at this; exact (Option.some.inj this).symm
           obtain ⟨ob, hob⟩ : ∃ ob, ob = off + j * 2 := ⟨_, rfl⟩
           rw [← hob] at hr
           have hob2 : off + j * 2 = ob := hob.symm
           have ld0 := run_loadPair hr
           have hjU : (j : Int) < (nU : Int) := by have := HLT.out; omega
           have hU1 : nU ≤ cU := hup.2.2.1
           have hU2 : cU ≤ 9223372036854775807 := hup.2.2.2.1
           have cy : W3.cell? ⟨bY, 0, none⟩ = some (.func (.yield l) #[] #[]) := cell_of_row W3 bY 0 _ _ _ (HV.out.kp hkw).y
           obtain ⟨fn, ytm, yas, ybo, hy, hR⟩ := HYY.out n (pre ++ done ++ L) p W3 hJ3 (by have h := HN.out; rw [HDONE.out, HST.out] at h; simp only [List.length_append, List.length_cons] at h ⊢; omega)
           unfold pairV at hy
           have HRR := Lib.hid hR
           have HJ3 := Lib.hid hJ3
           have HKW := Lib.hid hkw
           clear hcell hr hkv hob hup hnU hR hJ3 hkw hk3)
        | ((try refine ⟨hdd _, ?_⟩)
           rename_i KK hKK
           refine (RoundIn.anyDepth' rfl HRR.out).mono ?_
           rintro e W4 (⟨rfl, hJ4, hk4⟩ | ⟨rfl, hx⟩)
           rotate_left
           · go_loud (
              refine hKK _ _ ?_
              refine take_at (i := 16) (d := 41) (v := ?_) rfl rfl rfl (by kernel_rfl) (by kernel_rfl) (by kernel_rfl) (fun _ _ _ _ _ h => h) ⟨Or.inl ⟨by kernel_rfl, ?_⟩, fun _ => by kernel_rfl⟩ ?_
              rotate_left
              · intro w; go_simp; try rfl
              simp only [List.set_cons_zero, List.set_cons_succ]
              refine take_at (i := 17) (d := 42) (v := ?_) rfl rfl rfl (by kernel_rfl) (by kernel_rfl) (by kernel_rfl) (fun _ _ _ _ _ h => h) ⟨Or.inl ⟨by kernel_rfl, ?_⟩, fun _ => by kernel_rfl⟩ ?_
              rotate_left
              · intro w; go_simp; try rfl
              simp only [List.set_cons_zero, List.set_cons_succ]
              refine wpAnyIn_done (by kernel_rfl) ?_ _
              gi_wp2
              go_ret
              exact .inr ⟨rfl, done ++ (L ++ [p]), by rw [HDONE.out, HST.out]; exact (List.prefix_append_right_inj done).2 ((List.prefix_append_right_inj L).2 ⟨geL from_ (restT T (j + 1)), rfl⟩), by simpa only [List.append_assoc] using hx⟩)
           skip))
      all_goals gi_wp2
      all_goals exact ⟨⟨j + 1, done ++ (L ++ [p]), by congr 1, by omega, by have := HLT.out; omega, by rw [HDONE.out, HST.out]; simp only [List.append_assoc, List.cons_append, List.nil_append], by simpa only [List.append_assoc] using hJ4, HKW.out.trans hk4⟩, by have := HLT.out; show T.ps.length - ((j : Int) + 1).toNat < T.ps.length - ((j : Int)).toNat; omega⟩
    · have hge : ¬ ((j : Int) < (nT : Int)) := by omega
      have HST : Hid (geL from_ T.toL = done ++ geL from_ (treeL T.ks[j]?)) := Lib.hid (by have e : j = T.ps.length := (by omega); rw [HDONE.out, e, restT_end T HS.out.lens])
      have hmix : Tryd.prog.follows .mixedOrders = true := by kernel_rfl
      clear hVr hTr htp hnT hdone hJ hk hlt hij hjn
      gi_wp2
      have hF2 := HF.out
      subst hF2
      gi_region_with_o (first
        | ((try refine ⟨hdd _, ?_⟩); gi_at_call 61; refine (HW.out (HCK.out _ hbd)).mono ?_; rintro e W2 ⟨rfl, rfl⟩)
        | ((try refine ⟨hdd _, ?_⟩); gi_at_call 72; refine (HVK.out _ _ hbd).mono ?_; rintro e W3 h; obtain ⟨vb, rfl⟩ : ∃ vb, e = .returned vb := by (rcases h with ⟨rfl, _⟩ | ⟨rfl, _⟩ <;> exact ⟨_, rfl⟩)))
      all_goals gi_wp2
      all_goals go_ret
      all_goals
        rcases h with ⟨he, hJ3, hk3⟩ | ⟨he, q, hq, hx⟩
        · exact .inl ⟨he, by rw [HST.out, ← List.append_assoc]; exact hJ3, HK2.out.trans ((KP.of hbd (Nat.le_trans HN0.out HK2.out.1.size)).trans hk3)⟩
        · exact .inr ⟨he, done ++ q, by rw [HST.out]; exact (List.prefix_append_right_inj done).2 hq, by rw [← List.append_assoc]; exact hx⟩
theorem visit_any (F : Fence) (hF : F = Fence.wide) (l n₀ bf bv bY N : Nat) (from_ : ByteArray) (J Jx : List KV → World → Prop) (hJb : ∀ s W W', J s W → Below W.heap.size W W' → J s W')
    (hY : ∀ m pre x W, J pre W → pre.length < N → YieldAt F m Tryd.prog l #[pairV x] W fun e W' => (e = .returned (.bool true) ∧ J (pre ++ [x]) W' ∧ KP n₀ W W') ∨ (e = .returned (.bool false) ∧ Jx (pre ++ [x]) W')) :
    ∀ (k : Nat) (T : BT), T.Wf (k + 1) → Sorted T.toL → ∀ (n : Nat) (pre : List KV) (W : World), NdD (fun b => b < n₀) W T → n₀ ≤ W.heap.size → Vars W bf bv bY l from_ → J pre W → pre.length + (geL from_ T.toL).length ≤ N →
      CallsIn F n Tryd.prog 72 #[.pointer (some ⟨T.g, 0, none⟩), .pointer (some ⟨bf, 0, none⟩), .pointer (some ⟨bv, 0, none⟩), .pointer (some ⟨bY, 0, none⟩)] W (Vis J Jx n₀ pre (geL from_ T.toL) W) := by
  intro k
  induction k with
  | zero =>
    intro T hw hs n pre W hT hn hV hJ hN
    obtain ⟨h8, hsh⟩ := (wf_iff _ _).1 hw
    refine visit_step F hF l n₀ bf bv bY N from_ J Jx hJb hY T 0 hsh h8 hs (fun n C pre W hC => ?_) n pre W hT hn hV hJ hN
    rcases hsh with ⟨-, h⟩ | ⟨h, -⟩
    · rw [h] at hC; cases hC
    · exact absurd rfl h
  | succ k ih =>
    intro T hw hs n pre W hT hn hV hJ hN
    obtain ⟨h8, hsh⟩ := (wf_iff _ _).1 hw
    refine visit_step F hF l n₀ bf bv bY N from_ J Jx hJb hY T (k + 1) hsh h8 hs (fun n C pre W hC => ?_) n pre W hT hn hV hJ hN
    rcases hsh with ⟨h, -⟩ | ⟨-, -, h⟩
    · cases h
    · exact fun hsC hNd hn hV hJ hN => ih C (h C hC).1 hsC n pre W hNd hn hV hJ hN
end Go.Proofs.YtcoijmggfkjcjaaDoor
namespace Go.Proofs.YtcoijmggfkjcjaaDoor
open Go.RowKit Go.Shelf
set_option linter.unusedSimpArgs false
set_option linter.unusedVariables false
attribute [local go_sem] Oper.semAt_some
theorem run_storeF {P : Program} {w : World} {a : Addr} {m : Mode} (fn : Fn) (first captured : Array Value) : (Go.store a (.func fn first captured) m).run P w = stored P w a (.func fn first captured) m := run_store P w a _ m rfl
attribute [local go_sem] run_storeF
theorem abides_below {β : Type} {B : Nat} {J : β → World → Prop} (h : AbidesFrom B J) (s : β) (W W' : World) (hs : J s W) (hb : Below W.heap.size W W') : J s W' :=
  h s W W' none hs ⟨hb.os, hb.tape, hb.output, hb.size, fun i hi _ => hb.block i hi⟩ (fun r e => by cases e)
/-- what the iterator over a tree reads -/
structure Itr (n₀ : Nat) (w : World) (bf bt g : Nat) (v : Value) (t : Option BT) (from_ : ByteArray) : Prop where
  hf : w.heap[bf]? = some (.cells #[.string from_] 9 (0, 0))
  ht : w.heap[bt]? = some (.cells #[.pointer (some ⟨g, 0, none⟩)] 47 (0, 0))
  lt : g < n₀
  hr : w.heap[g]? = some (.cells #[v, .int .i64 ((treeL t).length : Int)] 66 (0, 0))
  hk : match t with | none => v = .pointer none | some T => v = .pointer (some ⟨T.g, 0, none⟩) ∧ NdD (fun b => b < n₀) w T
theorem Itr.kp {n₀ : Nat} {w w' : World} {bf bt g : Nat} {v : Value} {t : Option BT} {from_ : ByteArray} (h : Itr n₀ w bf bt g v t from_) (hk : KP n₀ w w') : Itr n₀ w' bf bt g v t from_ := by
  refine ⟨hk.2 _ _ _ (.inl rfl) h.hf, hk.2 _ _ _ (.inr (.inl rfl)) h.ht, h.lt, (hk.1.block g h.lt).trans h.hr, ?_⟩
  have := h.hk
  cases t with
  | none => exact this
  | some T => exact ⟨this.1, this.2.kp hk⟩
set_option maxRecDepth 100000 in
set_option maxHeartbeats 4000000 in
theorem pairs1_in (F : Fence) (hF : F = Fence.wide) (n l n₀ bf bt g : Nat) (v : Value) (t : Option BT) (H : Nat) (from_ : ByteArray) (ht : TOk t H) (hs : Sorted (treeL t)) (J Jx : List KV → World → Prop) (W : World) (hn₀ : n₀ ≤ W.heap.size) (hJa : AbidesFrom W.heap.size J)
    (hY : ∀ pre x W1, J pre W1 → pre.length < (geL from_ (treeL t)).length → YieldAt F (n - 1) Tryd.prog l #[pairV x] W1 fun e W' => (e = .returned (.bool true) ∧ J (pre ++ [x]) W' ∧ KP n₀ W1 W') ∨ (e = .returned (.bool false) ∧ Jx (pre ++ [x]) W'))
    (hI : Itr n₀ W bf bt g v t from_) (h0 : J [] W) :
    CallsIn F n Tryd.prog 71 #[.func (.yield l) #[] #[], .pointer (some ⟨bf, 0, none⟩), .pointer (some ⟨bt, 0, none⟩)] W fun e W' => (∃ v, e = .returned v) ∧ ((∃ xs, xs = geL from_ (treeL t) ∧ J xs W') ∨ (∃ pre, pre <+: geL from_ (treeL t) ∧ Jx pre W')) := by
  have h76 : F.fn 71 := by rw [hF]; trivial
  have h77 : F.fn 72 := by rw [hF]; trivial
  have hro : F.round = none := by rw [hF]; rfl
  have hdd : ∀ k : Nat, (F.depth.isSome = true → 1 ≤ k) := fun k h => by rw [hF] at h; cases h
  have hdn : F.depth = none := by rw [hF]; rfl
  have HF := Lib.hid hF
  have HI := Lib.hid hI
  clear hF
  have c0 : W.cell? ⟨bt, 0, none⟩ = some (.pointer (some ⟨g, 0, none⟩)) := cell_of_row W bt 0 _ _ _ hI.ht
  have c1 : W.cell? ⟨g, 0, none⟩ = some v := cell_of_row W g 0 _ _ _ hI.hr
  have HY := Lib.hid hY
  have HJA := Lib.hid hJa
  have H0 := Lib.hid h0
  have HN0 := Lib.hid hn₀
  clear hI hY hJa h0 hn₀
  refine callsIn_of_wp Tryd.func71 rfl h76 ?_ hro
  simp only [Tryd.ntmps71, List.size_toArray, List.length_cons, List.length_nil, Nat.reduceAdd, Nat.reduceSub, Array.replicate_succ, Array.replicate_zero, List.push_toArray, List.append_toArray, List.nil_append, List.cons_append]
  have bx := Boxed.new (W.alloc (.cells #[.func (.yield l) #[] #[]] 84)) 85 .nilFunc
  simp only [World.size_alloc] at bx
  have cx := bx.cell
  have fx := bx.frozen
  clear bx
  gi_wp2
  clear cx fx
  obtain ⟨W3, hW3⟩ : ∃ W3, W3 = ((W.alloc (.cells #[.func (.yield l) #[] #[]] 84)).alloc (.cells #[.func (.func 72) #[] #[.pointer (some ⟨bf, 0, none⟩), .pointer (some ⟨W.heap.size + 1, 0, none⟩), .pointer (some ⟨W.heap.size, 0, none⟩)]] 85)) := ⟨_, rfl⟩
  rw [← hW3]
  have hb3 : Below W.heap.size W W3 := by rw [hW3]; exact ((Below.refl _ W).alloc (Nat.le_refl _) _).alloc (by simp) _
  have hv3 : W3.heap[W.heap.size + 1]? = some (.cells #[.func (.func 72) #[] #[.pointer (some ⟨bf, 0, none⟩), .pointer (some ⟨W.heap.size + 1, 0, none⟩), .pointer (some ⟨W.heap.size, 0, none⟩)]] 85 (0, 0)) := by
    rw [hW3]; have := World.alloc_heap_new (W.alloc (.cells #[.func (.yield l) #[] #[]] 84)) (.cells #[.func (.func 72) #[] #[.pointer (some ⟨bf, 0, none⟩), .pointer (some ⟨W.heap.size + 1, 0, none⟩), .pointer (some ⟨W.heap.size, 0, none⟩)]] 85 (0, 0)); rwa [World.size_alloc] at this
  have hy3 : W3.heap[W.heap.size]? = some (.cells #[.func (.yield l) #[] #[]] 84 (0, 0)) := by
    rw [hW3]; exact (Below.heap_alloc _ _ _ (by simp)).trans (World.alloc_heap_new W _)
  clear hW3 c0 c1
  have hn3 : n₀ ≤ W3.heap.size := Nat.le_trans HN0.out hb3.size
  have hi3 := HI.out.kp (KP.of hb3 HN0.out)
  have HVK : Hid (∀ (m : Nat) (u : World), Below W3.heap.size W3 u → CallsIn F m Tryd.prog 72 #[v, .pointer (some ⟨bf, 0, none⟩), .pointer (some ⟨W.heap.size + 1, 0, none⟩), .pointer (some ⟨W.heap.size, 0, none⟩)] u (Vis J Jx n₀ [] (geL from_ (treeL t)) u)) := Lib.hid (by
    intro m u hu
    have hJu : J [] u := abides_below HJA.out _ _ _ (abides_below HJA.out _ _ _ H0.out hb3) hu
    have hku : KP n₀ W3 u := KP.of hu hn3
    have hiu := hi3.kp hku
    have hVu : Vars u bf (W.heap.size + 1) W.heap.size l from_ := Vars.kp ⟨hi3.hf, hv3, hy3⟩ hku
    have hk := hiu.hk
    cases t with
    | none =>
      obtain rfl : v = .pointer none := hk
      exact visit_nil F HF.out l n₀ bf _ _ from_ J Jx m [] u hJu
    | some T =>
      obtain ⟨rfl, hnd⟩ := hk
      obtain ⟨hw, h1⟩ := ht
      cases H with
      | zero => exact hw.elim
      | succ k => exact visit_any F HF.out l n₀ bf _ _ (geL from_ T.toL).length from_ J Jx (fun s A B hj hb => abides_below HJA.out s A B hj hb) (fun m' pre x W1 hj hl => YieldAt.anyDepth' hdn m' (HY.out pre x W1 hj hl)) k T hw hs m [] u hnd (Nat.le_trans hn3 hu.size) hVu hJu (by simp))
  have c0 : W3.cell? ⟨bt, 0, none⟩ = some (.pointer (some ⟨g, 0, none⟩)) := cell_of_row W3 bt 0 _ _ _ hi3.ht
  have c1 : W3.cell? ⟨g, 0, none⟩ = some v := cell_of_row W3 g 0 _ _ _ hi3.hr
  have cv : W3.cell? ⟨W.heap.size + 1, 0, none⟩ = some (.func (.func 72) #[] #[.pointer (some ⟨bf, 0, none⟩), .pointer (some ⟨W.heap.size + 1, 0, none⟩), .pointer (some ⟨W.heap.size, 0, none⟩)]) := cell_of_row W3 (W.heap.size + 1) 0 _ _ _ hv3
  have hbd : Below W3.heap.size W3 W3.drew := (Below.refl _ W3).drew
  clear hi3 hv3 hy3 hb3 hn3 ht hs
  have hmix : Tryd.prog.follows .mixedOrders = true := by kernel_rfl
  have hF2 := HF.out
  subst hF2
  gi_region_with_o ((try refine ⟨hdd _, ?_⟩); gi_at_call 72; refine (HVK.out _ _ hbd).mono ?_; rintro e W4 h; obtain ⟨vb, rfl⟩ : ∃ vb, e = .returned vb := by (rcases h with ⟨rfl, _⟩ | ⟨rfl, _⟩ <;> exact ⟨_, rfl⟩))
  all_goals gi_wp2
  all_goals go_end0
  all_goals
    refine ⟨⟨_, rfl⟩, ?_⟩
    rcases h with ⟨he, hJ3, hk3⟩ | ⟨he, q, hq, hx⟩
    · exact .inl ⟨_, rfl, hJ3⟩
    · exact .inr ⟨q, hq, hx⟩
/-- what pairs returns may be ranged over -/
theorem pairs1_stops (F : Fence) (hF : F = Fence.wide) (n n₀ bf bt g : Nat) (v : Value) (t : Option BT) (H : Nat) (from_ : ByteArray) (ht : TOk t H) (hs : Sorted (treeL t)) (w : World) (hn₀ : n₀ ≤ w.heap.size) (hI : Itr n₀ w bf bt g v t from_) :
    SeqStopsK F n Tryd.prog 71 #[.pointer (some ⟨bf, 0, none⟩), .pointer (some ⟨bt, 0, none⟩)] (fun x : KV => #[pairV x]) (KP n₀) (fun xs => xs = geL from_ (treeL t)) (fun pre => pre <+: geL from_ (treeL t)) (geL from_ (treeL t)).length w :=
  fun l J Jx W hW hJ _ hY h0 => pairs1_in F hF n l n₀ bf bt g v t H from_ ht hs J Jx W (Nat.le_trans hn₀ hW.size) hJ hY (hI.kp (KP.of hW hn₀)) h0
/-- Kp of the law of loops -/
theorem KP.putObj {n₀ : Nat} {B : Nat} (hB : n₀ ≤ B) (W : World) (l : Nat) (o o' : Obj) (hl : B ≤ l) (h : W.heap[l]? = some o) (hc : o.isCells = false) : KP n₀ W (W.putObj l o') := by
  refine ⟨(Below.refl n₀ W).grown (grownBy_putObj' W l o') (by have := (Array.getElem?_eq_some_iff.1 h).1; omega) (fun k e => by cases e; omega), fun b cs t _ hh => ?_⟩
  by_cases e : b = l
  · subst e
    rw [h] at hh
    cases hh
    cases hc
  · exact (World.putObj_heap_other e).trans hh
set_option maxRecDepth 100000 in
theorem pairs_any {w : World} {g : Nat} (from_ : ByteArray) :
    Calls Tryd.prog 59 #[.pointer (some ⟨g, 0, none⟩), .string from_] w fun e w' => e = .returned (.func (.func 71) #[] #[.pointer (some ⟨w.heap.size + 1, 0, none⟩), .pointer (some ⟨w.heap.size, 0, none⟩)]) ∧ w' = (w.alloc (.cells #[.pointer (some ⟨g, 0, none⟩)] 47)).alloc (.cells #[.string from_] 9) := by
  go_enter Tryd.func59, Tryd.ntmps59
  go_wp2
  go_ret
  exact ⟨rfl, rfl⟩
/-- what pairs leaves -/
theorem Itr.made {w : World} {g : Nat} {t : Option BT} (h : Tr w g t) (from_ : ByteArray) : ∃ v, Itr w.heap.size ((w.alloc (.cells #[.pointer (some ⟨g, 0, none⟩)] 47)).alloc (.cells #[.string from_] 9)) (w.heap.size + 1) w.heap.size g v t from_ := by
  obtain ⟨v, h1, h2⟩ := h
  have hb : Below w.heap.size w ((w.alloc (.cells #[.pointer (some ⟨g, 0, none⟩)] 47)).alloc (.cells #[.string from_] 9)) := ((Below.refl _ w).alloc (Nat.le_refl _) _).alloc (by simp) _
  have hg := (Array.getElem?_eq_some_iff.1 h1).1
  refine ⟨v, ?_, (Below.heap_alloc _ _ _ (by simp)).trans (World.alloc_heap_new w _), hg, (hb.block g hg).trans h1, ?_⟩
  · have := World.alloc_heap_new (w.alloc (.cells #[.pointer (some ⟨g, 0, none⟩)] 47)) (.cells #[.string from_] 9)
    rwa [World.size_alloc] at this
  · cases t with
    | none => exact h2
    | some T =>
      obtain ⟨g', rfl, hn⟩ := h2
      obtain ⟨rfl, hd⟩ := hn
      exact ⟨rfl, (hd.in.dom (fun b h => h.2)).under hb⟩
end Go.Proofs.YtcoijmggfkjcjaaDoor
namespace Go.Proofs.YtcoijmggfkjcjaaDoor
open Go.RowKit Go.Shelf
set_option linter.unusedSimpArgs false
set_option linter.unusedVariables false
attribute [local go_sem] Oper.semAt_some
attribute [local go_sem ↓] exec_loadPair exec_storePair exec_at_zeroP exec_at_succP Go.wp_at_zero Go.wp_at_succ
attribute [local go_sem] run_storePair
theorem less_cmp : ∀ a b : List UInt8, Op.bytesLess a b = decide (Lib.compareBytes a b < 0)
  | [], [] => by simp [Op.bytesLess, Lib.compareBytes]
  | [], _ :: _ => by simp [Op.bytesLess, Lib.compareBytes]
  | _ :: _, [] => by simp [Op.bytesLess, Lib.compareBytes]
  | x :: a, y :: b => by
    have ih := less_cmp a b
    unfold Op.bytesLess Lib.compareBytes
    by_cases h : x < y
    · simp [h]
    · by_cases h2 : y < x
      · have hne : x ≠ y := fun e => h (e ▸ h2)
        simp [h, h2, hne]
      · have hxy : x = y := UInt8.le_antisymm (UInt8.not_lt.1 h2) (UInt8.not_lt.1 h)
        subst hxy
        simp only [if_neg h]
        simpa using ih
theorem less_cmpK (a b : ByteArray) : Op.bytesLess a.toList b.toList = decide (cmpK a b < 0) := by
  rw [less_cmp, ByteArray.toList_eq, ByteArray.toList_eq]
  rfl
theorem emp_iff (u : ByteArray) : u.toList.isEmpty = decide (u = emptyS) := by
  rw [ByteArray.toList_eq]
  obtain ⟨⟨l⟩⟩ := u
  cases l with
  | nil => rfl
  | cons a l => simp [emptyS]
/-- the keys before a key, or all of them -/
def befK (u : ByteArray) (p : KV) : Bool := u = emptyS || decide (cmpK p.k u < 0)
/-- the pairs of a range -/
def rngL (f u : ByteArray) (l : List KV) : List KV := (geL f l).takeWhile (befK u)
theorem tw_all {α : Type} (P : α → Bool) : ∀ l : List α, (∀ y ∈ l, P y = true) → l.takeWhile P = l
  | [], _ => rfl
  | x :: l, h => by rw [List.takeWhile_cons_of_pos (h x (List.mem_cons_self ..)), tw_all P l (fun y hy => h y (List.mem_cons_of_mem _ hy))]
theorem tw_stop {α : Type} (P : α → Bool) (pre rest : List α) (x : α) (h : ∀ y ∈ pre, P y = true) (hx : P x = false) : (pre ++ [x] ++ rest).takeWhile P = pre := by
  rw [List.append_assoc, List.takeWhile_append_of_pos h, List.cons_append, List.takeWhile_cons_of_neg (by simp [hx]), List.append_nil]
theorem rng_info : (Tryd.prog.info? 54).map (fun i => (i.zero, i.size, i.bytes)) = some (some (.agg #[.string ⟨#[]⟩, .string ⟨#[]⟩]), 2, 32) := by kernel_rfl
theorem Itr.of {w0 w : World} {g : Nat} {t : Option BT} (h : Tr w0 g t) (hb : Below w0.heap.size w0 w) (from_ : ByteArray) : ∃ v, Itr w0.heap.size ((w.alloc (.cells #[.pointer (some ⟨g, 0, none⟩)] 47)).alloc (.cells #[.string from_] 9)) (w.heap.size + 1) w.heap.size g v t from_ := by
  obtain ⟨v, h1, h2⟩ := h
  have hb2 : Below w.heap.size w ((w.alloc (.cells #[.pointer (some ⟨g, 0, none⟩)] 47)).alloc (.cells #[.string from_] 9)) := ((Below.refl _ w).alloc (Nat.le_refl _) _).alloc (by simp) _
  have hg := (Array.getElem?_eq_some_iff.1 h1).1
  have hb3 := hb.trans (hb2.mono hb.size)
  refine ⟨v, ?_, (Below.heap_alloc _ _ _ (by simp)).trans (World.alloc_heap_new w _), hg, (hb3.block g hg).trans h1, ?_⟩
  · have := World.alloc_heap_new (w.alloc (.cells #[.pointer (some ⟨g, 0, none⟩)] 47)) (.cells #[.string from_] 9)
    rwa [World.size_alloc] at this
  · cases t with
    | none => exact h2
    | some T =>
      obtain ⟨g', rfl, hn⟩ := h2
      obtain ⟨rfl, hd⟩ := hn
      exact ⟨rfl, (hd.in.dom (fun b h => h.2)).under hb3⟩
theorem not_row {W : World} {b : Nat} {cs : Array Value} {t e : TypeId} (h : W.heap[b]? = some (.cells cs t (0, 0))) (hte : t ≠ e) {base size k : Nat} {v : Value} {xs : List Value} (hr : W.ownsRow base e size v k xs) : some b ≠ v.ownBlock := by
  rcases hr.2 with ⟨rfl, _⟩ | ⟨g, cap, cur, rfl, _, hgb, _⟩
  · simp [Value.ownBlock]
  · intro e'
    obtain rfl : b = g := by simpa [Value.ownBlock] using e'
    have := h.symm.trans hgb
    simp at this
    exact hte this.2
theorem KP.appended {W w1 : World} {n₀ B k : Nat} {te : TypeId} {size : Nat} {tb : TypeId} {v v' : Value} {xs : List Value} {tmp : Obj} (hv : Boxed W B tb v) (hrow : W.ownsRow n₀ te size v k xs) (hgrow : (W.alloc tmp).grownBy w1 v.ownBlock)
    (h1 : tb ≠ 9 ∧ tb ≠ 47 ∧ tb ≠ 84 ∧ tb ≠ 85) (h2 : te ≠ 9 ∧ te ≠ 47 ∧ te ≠ 84 ∧ te ≠ 85)
    (hb : Below n₀ W (w1.setCell ⟨B, 0, none⟩ v')) : KP n₀ W (w1.setCell ⟨B, 0, none⟩ v') := by
  refine ⟨hb, fun b cs t ht hh => ?_⟩
  have hlt := (Array.getElem?_eq_some_iff.1 hh).1
  have hte : t ≠ te := by rintro rfl; rcases ht with h | h | h | h <;> simp_all
  have htb : t ≠ tb := by rintro rfl; rcases ht with h | h | h | h <;> simp_all
  have hbB : b ≠ B := by
    rintro rfl
    have := hh.symm.trans hv
    simp at this
    exact htb this.2
  refine (Below.heap_setCell _ _ _ b hbB).trans ((hgrow.block b (by rw [World.size_alloc]; omega) (not_row hh hte hrow)).trans ((Below.heap_alloc _ _ _ hlt).trans hh))
/-- what a round of Range finds -/
def RI (w : World) (m0 : Nat) (until_ : ByteArray) (pre : List KV) (W : World) : Prop :=
  ((∃ sl, Boxed W (m0 + 1) 51 sl ∧ W.ownsRow m0 54 2 sl pre.length (pcells pre) ∧ True) ∧ Boxed W m0 9 (.string until_)) ∧ (Below m0 w W ∧ ∀ p ∈ pre, befK until_ p = true)
theorem RI.own {w : World} {m0 B : Nat} {until_ : ByteArray} (hm : m0 ≤ w.heap.size) (hB : m0 ≤ B) : OwnFrom B (RI w m0 until_) :=
  OwnFrom.and (OwnFrom.and (Own.from (holdsRow_own m0 (m0 + 1) 51 54 2 (fun pre : List KV => pre.length) (fun pre => pcells pre) (fun _ _ => True)) _) (Own.from (boxed_own _ _ (fun _ => .string until_)) _)) (OwnFrom.and (ownFrom_below hm hB) (ownFrom_pure B (fun pre => ∀ p ∈ pre, befK until_ p = true)))
theorem two_new (W : World) (a b : Value) (t : TypeId) : ∀ j u, ([a, b] : List Value)[j]? = some u → (W.alloc (.cells #[a, b] t)).cell? ((⟨W.heap.size, 0, none⟩ : Addr).add j) = some u := by
  intro j u h
  rcases j with _ | _ | j
  · obtain rfl : a = u := by simpa using h
    exact cell_of_row (W.alloc (.cells #[a, b] t)) W.heap.size 0 #[a, b] _ _ (World.alloc_heap_new W _)
  · obtain rfl : b = u := by simpa using h
    exact cell_of_row (W.alloc (.cells #[a, b] t)) W.heap.size 1 #[a, b] _ _ (World.alloc_heap_new W _)
  · simp at h
set_option maxRecDepth 100000 in
set_option maxHeartbeats 4000000 in
theorem range_any {w : World} {g : Nat} {t : Option BT} {H : Nat} (h : TT w g t H) (from_ until_ : ByteArray) (hlen : (treeL t).length ≤ 1000000000) :
    Calls Tryd.prog 41 #[.pointer (some ⟨g, 0, none⟩), .string from_, .string until_] w fun e W' => ∃ v, e = .returned v ∧ W'.ownsRow w.heap.size 54 2 v (rngL from_ until_ (treeL t)).length (pcells (rngL from_ until_ (treeL t))) ∧ Below w.heap.size w W' := by
  refine (callsIn_wide (n := 7)).1 ?_
  obtain ⟨F, hF⟩ : ∃ F, F = Fence.wide := ⟨_, rfl⟩
  rw [← hF]
  have h29 : F.fn 41 := by rw [hF]; trivial
  have h55 : F.fn 59 := by rw [hF]; trivial
  have h76 : F.fn 71 := by rw [hF]; trivial
  have hro : F.round = none := by rw [hF]; rfl
  have hdd : ∀ k : Nat, (F.depth.isSome = true → 1 ≤ k) := fun k h => by rw [hF] at h; cases h
  have HW : Hid (∀ {m : Nat} {f : FuncId} {args : Array Value} {u : World} {R : Ending → World → Prop}, Calls Tryd.prog f args u R → CallsIn F m Tryd.prog f args u R) := Lib.hid (fun h => by rw [hF]; exact callsIn_wide.2 h)
  have HF := Lib.hid hF
  have HT := Lib.hid h
  have HL := Lib.hid hlen
  clear hF h hlen
  obtain ⟨i0, hi, hz0, hz1, hz2⟩ := info_parts rng_info
  refine callsIn_of_wp_marks Tryd.func41 rfl h29 ?_ hro
  simp only [Tryd.ntmps41, List.size_toArray, List.length_cons, List.length_nil, Nat.reduceAdd, Nat.reduceSub, Array.replicate_succ, Array.replicate_zero, List.push_toArray, List.append_toArray, List.nil_append, List.cons_append]
  gi_wp2_with ((try refine ⟨hdd _, ?_⟩); gi_at_call 59; refine (HW.out (pairs_any _)).mono ?_; rintro e w' ⟨rfl, rfl⟩)
  have bU := ((Boxed.new w 9 (.string until_)).alloc (.cells #[.slice none 0 0] 51))
  have bS := Boxed.new (w.alloc (.cells #[.string until_] 9)) 51 (.slice none 0 0)
  rw [World.size_alloc] at bS
  have hB1 : Below w.heap.size w ((w.alloc (.cells #[.string until_] 9)).alloc (.cells #[.slice none 0 0] 51)) := ((Below.refl _ w).alloc (Nat.le_refl _) _).alloc (by simp) _
  have hs1 : ((w.alloc (.cells #[.string until_] 9)).alloc (.cells #[.slice none 0 0] 51)).heap.size = w.heap.size + 2 := by simp
  obtain ⟨W1, hW1⟩ : ∃ W1, W1 = ((w.alloc (.cells #[.string until_] 9)).alloc (.cells #[.slice none 0 0] 51)) := ⟨_, rfl⟩
  rw [← hW1] at bU bS hB1 hs1 ⊢
  clear hW1
  obtain ⟨v, hit⟩ := Itr.of HT.out.tr hB1 from_
  rw [hs1] at hit
  have bU := (bU.alloc (.cells #[.pointer (some ⟨g, 0, none⟩)] 47)).alloc (.cells #[.string from_] 9)
  have bS := (bS.alloc (.cells #[.pointer (some ⟨g, 0, none⟩)] 47)).alloc (.cells #[.string from_] 9)
  have hB0 := (hB1.alloc (by omega) (.cells #[.pointer (some ⟨g, 0, none⟩)] 47)).alloc (by simp; omega) (.cells #[.string from_] 9)
  have hs0 : ((W1.alloc (.cells #[.pointer (some ⟨g, 0, none⟩)] 47)).alloc (.cells #[.string from_] 9)).heap.size = w.heap.size + 4 := by simp; omega
  obtain ⟨W0, hW0⟩ : ∃ W0, W0 = ((W1.alloc (.cells #[.pointer (some ⟨g, 0, none⟩)] 47)).alloc (.cells #[.string from_] 9)) := ⟨_, rfl⟩
  rw [← hW0] at bU bS hB0 hs0 hit ⊢
  clear hW0 hB1 hs1
  refine wpIn_rangeFunc_ownH hro (by omega) (gf := 71) (lb := #[.pointer (some ⟨w.heap.size + 1 + 1 + 1, 0, none⟩), .pointer (some ⟨w.heap.size + 1 + 1, 0, none⟩)]) rfl h76 (enters_of Tryd.func71 (by kernel_rfl) rfl)
    (pairs1_stops F HF.out (7 - 1) w.heap.size (w.heap.size + 1 + 1 + 1) (w.heap.size + 1 + 1) g v t H from_ HT.out.ok HT.out.so W0 (by omega) hit) (fun h k => KP.trans h k) (fun W l o o' hl h hc _ => KP.putObj (B := W0.heap.size) (by omega) W l o o' hl h hc) (Below.refl _ _) (fun _ => rfl)
    (RI w w.heap.size until_)
    (fun c pre W => ∃ q x, (c = .exit 0 ∧ pre = q ++ [x] ∧ befK until_ x = false) ∧ RI w w.heap.size until_ q W)
    (RI.own (Nat.le_refl _) (by omega))
    (fun c s A B row hs hg hr => by obtain ⟨q, x, h1, h2⟩ := hs; exact ⟨q, x, h1, RI.own (Nat.le_refl _) (by omega) q A B row h2 hg hr⟩)
    ⟨⟨⟨_, bS, World.ownsRow_nil _ _ _ _, trivial⟩, bU⟩, hB0, fun p hp => by cases hp⟩
    (fun x a' W => ∃ Bx, w.heap.size + 1 < Bx ∧ W.heap[Bx]? = some (.cells (kcells x) 54 (0, 0)) ∧ a' = { tmps := #[.pointer (some ⟨g, 0, none⟩), .string from_, .string until_, undef, undef, .pointer (some ⟨w.heap.size, 0, none⟩), .slice none 0 0, .pointer (some ⟨w.heap.size + 1, 0, none⟩), .pointer (some ⟨Bx, 0, none⟩), .pointer (some ⟨g, 0, none⟩), .string from_, .func (.func 71) #[] #[.pointer (some ⟨w.heap.size + 1 + 1 + 1, 0, none⟩), .pointer (some ⟨w.heap.size + 1 + 1, 0, none⟩)], pairV x, undef, undef, undef, undef, undef, undef, undef, undef, undef, undef, undef, undef, undef], defers := [] })
    (fun x a' s A B row hs hg hr => by
      obtain ⟨Bx, h1, h2, h3⟩ := hs
      refine ⟨Bx, h1, (hg.block Bx (Array.getElem?_eq_some_iff.1 h2).1 (fun e => ?_)).trans h2, h3⟩
      obtain ⟨_, o, ho, hc⟩ := hr Bx e.symm
      rw [h2] at ho; cases ho; cases hc)
    ?assign ?body ?done ?stop
  case assign =>
    rintro l pre x W K hR hK
    have p6 : PB (W.alloc (.cells #[.string ⟨#[]⟩, .string ⟨#[]⟩] 54)) W.heap.size := ⟨⟨⟨#[]⟩, ⟨#[]⟩⟩, heap_new rfl⟩
    unfold pairV
    have HR := Lib.hid hR
    clear hR
    gi_wp2
    have hb : Below W.heap.size W ((W.alloc (.cells #[.string ⟨#[]⟩, .string ⟨#[]⟩] 54)).setRow W.heap.size #[.string x.k, .string x.v]) :=
      ((((Kept.of_below (fun _ => False) (Below.refl W.heap.size W)).alloc _).setRow (fun h => by omega) _).below (Nat.le_refl _) (fun _ _ h => h))
    have hw : w.heap.size ≤ W.heap.size := HR.out.2.1.size
    have hWx := HR.out.1.1
    refine hK _ _ ⟨hb.size, fun k o _ h _ => (hb.block k (Array.getElem?_eq_some_iff.1 h).1).trans h⟩ (KP.of hb hw) (RI.own (Nat.le_refl _) (Nat.le_refl _) pre W _ none HR.out ⟨hb.os, hb.tape, hb.output, hb.size, fun i hi _ => hb.block i hi⟩ (fun r e => by cases e)) ⟨W.heap.size, ?_, setRow_heap _ _ _ _ _ _ (heap_new rfl), rfl⟩
    obtain ⟨_, h1, -⟩ := hWx
    exact h1.lt
  case body =>
    rintro l pre x a' W hl ⟨r, hr⟩ ⟨⟨⟨sl, hv, hrow, -⟩, hU⟩, hB, hall⟩ ⟨Bx, hBx, hbx, rfl⟩ hlt
    have cU := hU.cell
    have cS := hv.cell
    have c0 : W.cell? ⟨Bx, 0, none⟩ = some (.string x.k) := cell_of_row W Bx 0 _ _ _ hbx
    have HALL := Lib.hid hall
    have HB := Lib.hid hB
    have HLT := Lib.hid hlt
    clear hall hB hlt
    have hdp : ∀ k : Nat, k ≤ 3 → 1 ≤ 7 - k := fun k h => by omega
    have ld0 := run_loadPair (p := x) (range_kv hbx)
    have hpl : pre.length < 1000000000 := Nat.lt_of_lt_of_le HLT.out (Nat.le_trans (List.length_filter_le _ _) HL.out)
    have hk1 : pre.length + 1 ≤ maxLen := by unfold maxLen; omega
    have hk2 : (pre.length + 1) * 32 ≤ 140737488355328 := by omega
    have HU : Hid (∀ {w1 : World} {tmp : Obj} {v' : Value}, (W.alloc tmp).grownBy w1 sl.ownBlock → Boxed (w1.setCell ⟨w.heap.size + 1, 0, none⟩ v') w.heap.size 9 (.string until_)) := Lib.hid (fun hgrow => ((hU.alloc _).kept hgrow (hU.not_row (by decide) hrow)).other (by omega) _)
    clear hpl
    by_cases hue : until_ = emptyS
    · have hem : until_.toList.isEmpty = true := by rw [emp_iff]; simpa using hue
      have HBF : Hid (befK until_ x = true) := Lib.hid (by unfold befK; rw [hue]; simp)
      clear hue
      gi_wp2_with (gi_at_builtin; refine wpListIn_append_own _ rfl _ _ 51 rfl w.heap.size 54 i0 (.agg #[.string ⟨#[]⟩, .string ⟨#[]⟩]) 2 32 Tryd.underlying51 hi hz0 hz1 hz2 rfl (by decide) _ _ _ rfl (hrow.alloc _) ⟨W.heap.size, 0, none⟩ 1 1 [.string x.k, .string x.v] rfl rfl (two_new _ _ _ _) (by simp [Value.oneCell']) hk1 hk2 (by have := HB.out.size; simp; omega) ?_; intro sl' w1 hown' hgrow _; obtain ⟨g', cap', rfl⟩ := ownsRow_succ hown'; obtain ⟨hv1, hv2, hr2, hkk, hb2⟩ := hv.appended (by decide) hrow HB.out.size (by omega) hown' hgrow; have hc1 := hv1.cell; have hf1 := hv1.frozen)
      exact ⟨hkk.from _, KP.appended hv hrow hgrow (by decide) (by decide) hb2, ⟨⟨⟨_, hv2, by rw [List.length_append, pcells_app]; simpa [pcells, KV.cells] using hr2, trivial⟩, HU.out hgrow⟩, HB.out.trans hb2, fun p hp => by
            rcases List.mem_append.1 hp with h | h
            · exact HALL.out p h
            · rw [List.mem_singleton.1 h]; exact HBF.out⟩⟩
    · have hem : until_.toList.isEmpty = false := by rw [emp_iff]; simpa using hue
      by_cases hless : cmpK x.k until_ < 0
      · have hls : Op.bytesLess x.k.toList until_.toList = true := by rw [less_cmpK]; simpa using hless
        have HBF : Hid (befK until_ x = true) := Lib.hid (by unfold befK; simp [hless])
        clear hue hless
        gi_wp2_with (gi_at_builtin; refine wpListIn_append_own _ rfl _ _ 51 rfl w.heap.size 54 i0 (.agg #[.string ⟨#[]⟩, .string ⟨#[]⟩]) 2 32 Tryd.underlying51 hi hz0 hz1 hz2 rfl (by decide) _ _ _ rfl (hrow.alloc _) ⟨W.heap.size, 0, none⟩ 1 1 [.string x.k, .string x.v] rfl rfl (two_new _ _ _ _) (by simp [Value.oneCell']) hk1 hk2 (by have := HB.out.size; simp; omega) ?_; intro sl' w1 hown' hgrow _; obtain ⟨g', cap', rfl⟩ := ownsRow_succ hown'; obtain ⟨hv1, hv2, hr2, hkk, hb2⟩ := hv.appended (by decide) hrow HB.out.size (by omega) hown' hgrow; have hc1 := hv1.cell; have hf1 := hv1.frozen)
        exact ⟨hkk.from _, KP.appended hv hrow hgrow (by decide) (by decide) hb2, ⟨⟨⟨_, hv2, by rw [List.length_append, pcells_app]; simpa [pcells, KV.cells] using hr2, trivial⟩, HU.out hgrow⟩, HB.out.trans hb2, fun p hp => by
            rcases List.mem_append.1 hp with h | h
            · exact HALL.out p h
            · rw [List.mem_singleton.1 h]; exact HBF.out⟩⟩
      · have hls : Op.bytesLess x.k.toList until_.toList = false := by rw [less_cmpK]; simpa using hless
        have HBF : Hid (befK until_ x = false) := Lib.hid (by unfold befK; simp [hless, hue])
        have HRI : Hid (RI w w.heap.size until_ pre W) := Lib.hid ⟨⟨⟨sl, hv, hrow, trivial⟩, hU⟩, HB.out, HALL.out⟩
        clear hue hless
        gi_wp2
        exact ⟨KeepsFrom.refl _ _, pre, x, ⟨rfl, rfl, HBF.out⟩, HRI.out⟩
  case done =>
    rintro D ys W hD hys hRI hK
    have hL : rngL from_ until_ (treeL t) = ys := by unfold rngL; rw [← hys]; exact tw_all _ _ hRI.2.2
    have HLL := Lib.hid hL
    clear hys hL
    obtain ⟨⟨⟨sl, hv, hrow, -⟩, hU⟩, hB, hall⟩ := hRI
    have hc := hv.cell
    have HB := Lib.hid hB
    clear hU hB hall
    gi_wp2
    refine ⟨by simp, .inl ⟨_, _, rfl, run_takeDeferred hK, ?_⟩⟩
    exact ⟨_, results_tmp rfl _ _ _, sl, rfl, by rw [HLL.out]; exact ownsRow_putObj hrow _ hK rfl, HB.out.trans (belowK_b (w := w) (Nat.le_refl _) W D _ _ (by omega) hK rfl rfl)⟩
  case stop =>
    rintro D c pre W hD hSp ⟨q, x, ⟨rfl, rfl, hbf⟩, hRI⟩ hK
    have hL : rngL from_ until_ (treeL t) = q := by
      obtain ⟨rest, hr⟩ := hSp
      unfold rngL
      rw [← hr]
      exact tw_stop _ _ _ _ hRI.2.2 hbf
    have HLL := Lib.hid hL
    clear hSp hL hbf
    obtain ⟨⟨⟨sl, hv, hrow, -⟩, hU⟩, hB, hall⟩ := hRI
    have hc := hv.cell
    have HB := Lib.hid hB
    clear hU hB hall
    gi_wp2
    refine ⟨by simp, .inl ⟨_, _, rfl, run_takeDeferred hK, ?_⟩⟩
    exact ⟨_, results_tmp rfl _ _ _, sl, rfl, by rw [HLL.out]; exact ownsRow_putObj hrow _ hK rfl, HB.out.trans (belowK_b (w := w) (Nat.le_refl _) W D _ _ (by omega) hK rfl rfl)⟩
end Go.Proofs.YtcoijmggfkjcjaaDoor

/-
  Put, with the blocks that a tree lies in (written by gen_IY.py out of layer 5's text).
-/
import Derived.Test.YtcoijmggfkjcjaaDoorZV1202
namespace Go.Proofs.YtcoijmggfkjcjaaDoor.PX
open Go.RowKit
set_option linter.unusedSimpArgs false
set_option linter.unusedVariables false
attribute [local go_sem ↓] exec_loadPair exec_storePair exec_at_zeroP exec_at_succP Go.wp_at_zero Go.wp_at_succ
attribute [local go_sem] run_storePair
def Dpt9 : List (Option Tmp) := [some 47, some 48, some 49, some 50, some 51, some 52, some 10]
def Lpt9 : List (List Nat) := [[], [0], [1], [2], [], [3, 4], [5]]
/-- a tree that keeps the rules and lies in the blocks of E -/
structure TTD (E : Nat → Prop) (w : World) (g : Nat) (t : Option BT) (H : Nat) : Prop where
  tt : TT w g t H
  eg : E g
  nd : ∀ b, t = some b → NdD E w b
theorem TTD.under {E : Nat → Prop} {w w' : World} (hb : Below w.heap.size w w') {g : Nat} {t : Option BT} {H : Nat} (h : TTD E w g t H) : TTD E w' g t H := ⟨h.tt.under hb, h.eg, fun b e => (h.nd b e).under hb⟩
/-- such a tree lives through writes in other blocks -/
theorem TTD.kept {E S : Nat → Prop} {w w' : World} (hk : Kept S w w') (hS : ∀ b, E b → ¬ S b) {g : Nat} {t : Option BT} {H : Nat} (h : TTD E w g t H) : TTD E w' g t H := by
  have hn : ∀ b, t = some b → NdD E w' b := fun b e => (h.nd b e).kept hk (fun c _ hc => hS c hc)
  obtain ⟨v, h1, h2⟩ := h.tt.tr
  refine ⟨⟨⟨v, hk.heap h1 (hS g h.eg), ?_⟩, h.tt.ok, h.tt.so⟩, h.eg, hn⟩
  cases t with
  | none => exact h2
  | some b =>
    obtain ⟨g1, e1, e2⟩ := h2
    exact ⟨g1, e1, e2.1, (hn b rfl).dom (fun _ _ => trivial)⟩
def PutT (E : Nat → Prop) (w : World) (t : Option BT) (H : Nat) (p : KV) (e : Ending) (w' : World) : Prop := ∃ g' t' H', e = .returned (.pointer (some ⟨g', 0, none⟩)) ∧ TTD E w' g' t' H' ∧ treeL t' = insL (treeL t) p ∧ (H' = H ∨ H' = H + 1) ∧ (∀ P, tcnt P t' ≤ tcnt P t + (3 * H + 2)) ∧ Below w.heap.size w w'
theorem run_bld94a (a : Option Addr) (n c : Nat) (W : World) : (Instr.build 69 #[(0, .slice a n c)]).run Tryd.prog W = .ok (.agg #[.slice a n c, .slice none 0 0]) W := by kernel_rfl
theorem run_bld94b (a : Option Addr) (n c : Nat) (W : World) : (Instr.build 69 #[(1, .slice a n c)]).run Tryd.prog W = .ok (.agg #[.slice none 0 0, .slice a n c]) W := by kernel_rfl
theorem run_bld87 (x : Option Addr) (n : Int) (W : World) : (Instr.build 66 #[(0, .pointer x), (1, .int .i64 n)]).run Tryd.prog W = .ok (.agg #[.pointer x, .int .i64 n]) W := by kernel_rfl
theorem tree_made {E : Nat → Prop} {q5 : World} {T : BT} {k : Nat} (hnd : NdD E q5 T) (hEt : E q5.heap.size) (hs : T.Sh k) (h8 : T.ps.length ≤ 8) (h1 : 1 ≤ T.ps.length) (hso : Sorted T.toL) (n : Int) (hn : n = (T.toL.length : Int)) : TTD E (q5.alloc (.cells #[.pointer (some ⟨T.g, 0, none⟩), .int .i64 n] 66)) q5.heap.size (some T) (k + 1) := by
  refine ⟨⟨⟨.pointer (some ⟨T.g, 0, none⟩), ?_, T.g, rfl, rfl, (hnd.dom (fun _ _ => trivial)).under ((Below.refl _ _).alloc (Nat.le_refl _) _)⟩, ⟨(wf_iff _ _).2 ⟨h8, hs⟩, h1⟩, hso⟩, hEt, fun b e => by cases e; exact hnd.under ((Below.refl _ _).alloc (Nat.le_refl _) _)⟩
  rw [hn]
  exact heap_new rfl
theorem put_fin {E : Nat → Prop} {w q p q5 : World} {b T : BT} {k H : Nat} {kv : KV} {n : Int} (hso : Sorted (treeL (some b)) ∧ Below w.heap.size w q) (h1 : Below q.heap.size q p) (h2 : Below p.heap.size p q5) (hnd : NdD E q5 T) (hE : ∀ b, w.heap.size ≤ b → E b) (hs : T.Sh k) (h8 : T.ps.length ≤ 8) (hl : 1 ≤ T.ps.length) (hlist : T.toL = insL b.toL kv) (hn : n = ((insL b.toL kv).length : Int)) (hH : k + 1 = H ∨ k + 1 = H + 1) (hc : ∀ P, T.cnt P ≤ tcnt P (some b) + (3 * H + 2)) : PutT E w (some b) H kv (.returned (.pointer (some ⟨q5.heap.size, 0, none⟩))) (q5.alloc (.cells #[.pointer (some ⟨T.g, 0, none⟩), .int .i64 n] 66)) := by
  have hb : Below w.heap.size w q5 := (hso.2.trans (h1.mono hso.2.size)).trans (h2.mono (Nat.le_trans hso.2.size h1.size))
  exact ⟨_, some T, k + 1, rfl, tree_made hnd (hE _ hb.size) hs h8 hl (by rw [hlist]; exact insL_sorted hso.1) n (by rw [hlist]; exact hn), hlist, hH, hc, hb.alloc hb.size _⟩
theorem put_none {E : Nat → Prop} {w q : World} {H : Nat} (hH : TOk none H) (hb : Below w.heap.size w q) (hE : ∀ b, w.heap.size ≤ b → E b) (key value : ByteArray) : PutT E w none H ⟨key, value⟩ (.returned (.pointer (some ⟨q.heap.size + 1 + 1, 0, none⟩))) (((q.alloc (.cells #[.string key, .string value] 54)).alloc (.cells #[.slice (some ⟨q.heap.size, 0, none⟩) 1 1, .slice none 0 0] 69)).alloc (.cells #[.pointer (some ⟨q.heap.size + 1, 0, none⟩), .int .i64 1] 66)) := by
  obtain ⟨q5, hq5⟩ : ∃ q5, q5 = (q.alloc (.cells #[.string key, .string value] 54)).alloc (.cells #[.slice (some ⟨q.heap.size, 0, none⟩) 1 1, .slice none 0 0] 69) := ⟨_, rfl⟩
  have hsz : q5.heap.size = q.heap.size + 1 + 1 := by rw [hq5]; simp
  have hb5 : Below w.heap.size w q5 := by rw [hq5]; exact (hb.alloc hb.size _).alloc (by have := hb.size; simp; omega) _
  have h1 : q5.heap[q.heap.size]? = some (.cells #[.string key, .string value] 54 (0, 0)) := by rw [hq5]; exact heap_old (heap_new rfl)
  have h2 : q5.heap[q.heap.size + 1]? = some (.cells #[.slice (some ⟨q.heap.size, 0, none⟩) 1 1, .slice none 0 0] 69 (0, 0)) := by rw [hq5]; exact heap_new (by simp)
  have hnd : NdD E q5 (.mk (q.heap.size + 1) [⟨key, value⟩] []) := by
    refine .mk (hE _ (by have := hb.size; omega)) h2 ⟨rfl, rfl, Nat.le_refl _, by unfold maxLen; omega, (fun e => by cases e), fun _ => ⟨q.heap.size, 0, hE _ hb.size, rfl, fun j u hj => ?_⟩⟩ ⟨rfl, rfl, Nat.le_refl _, Nat.zero_le _, (fun _ => rfl), fun h => absurd h (by omega)⟩ (fun _ h => by cases h)
    rw [Nat.zero_add, cell_of_row q5 _ j _ _ _ h1]
    simpa [pcells, KV.cells] using hj
  rw [← hq5, ← hsz]
  have e1 : (BT.mk (q.heap.size + 1) [⟨key, value⟩] []).toL = [⟨key, value⟩] := by rw [toL_mk, toLs_leaf]
  have hH0 : H = 0 := hH
  refine ⟨_, some (.mk (q.heap.size + 1) [⟨key, value⟩] []), 1, rfl, tree_made hnd (hE _ hb5.size) (.inl ⟨rfl, rfl⟩) (by show 1 ≤ 8; omega) (by show 1 ≤ 1; omega) (by rw [e1]; exact List.pairwise_singleton _ _) 1 (by rw [e1]; rfl), e1, .inr (by omega), fun P => ?_, hb5.alloc hb5.size _⟩
  show (BT.mk (q.heap.size + 1) [⟨key, value⟩] []).cnt P ≤ _
  rw [cnt_mk, cntL_nil]
  have := toNat_le (P (q.heap.size + 1))
  omega
set_option maxRecDepth 100000 in
set_option maxHeartbeats 4000000 in
theorem put_tree {E : Nat → Prop} {w : World} {g : Nat} {t : Option BT} {H : Nat} (h : TTD E w g t H) (hE : ∀ b, w.heap.size ≤ b → E b) (hlen : (treeL t).length ≤ 1000000) (key value : ByteArray) (hk : key.size ≤ 60) (hv : value.size ≤ 1000) :
    Calls Tryd.prog 39 #[.pointer (some ⟨g, 0, none⟩), .string key, .string value] w (PutT E w t H ⟨key, value⟩) := by
  have hk' : ¬ (60 : Int) < (key.size : Int) := by omega
  have hv' : ¬ (1000 : Int) < (value.size : Int) := by omega
  have hbs := run_bs1P key value
  have hb1 := run_bld94a
  have hb2 := run_bld87
  have mixed : Tryd.prog.follows .mixedOrders = true := by kernel_rfl
  obtain ⟨gb, hgb⟩ : ∃ gb, gb = w.heap.size := ⟨_, rfl⟩
  obtain ⟨q, hq⟩ : ∃ q, q = (w.alloc (.cells #[.string ⟨#[]⟩, .string ⟨#[]⟩] 54)).setRow w.heap.size #[.string key, .string value] := ⟨_, rfl⟩
  have hbq : Below w.heap.size w q := by rw [hq]; exact (((Kept.refl (fun _ => False) w).alloc _).setRow (fun h => absurd h (Nat.lt_irrefl _)) _).below (Nat.le_refl _) (fun _ _ h => h)
  have hbb : q.heap[gb]? = some (.cells (kcells ⟨key, value⟩) 54 (0, 0)) := by rw [hq, hgb]; exact setRow_heap _ _ _ _ _ _ (heap_new rfl)
  have hTq := h.under hbq
  obtain ⟨v, cv0, cv1, hroot⟩ := hTq.tt.tr.facts
  have HTQ := Lib.hid hTq
  have HBQ := Lib.hid hbq
  have HBB := Lib.hid hbb
  have HL := Lib.hid hlen
  have HSO := Lib.hid h.tt.so
  have HOK := Lib.hid h.tt.ok
  have HE := Lib.hid hE
  have p7 : PB (w.alloc (.cells #[.string ⟨#[]⟩, .string ⟨#[]⟩] 54)) w.heap.size := ⟨⟨⟨#[]⟩, ⟨#[]⟩⟩, heap_new rfl⟩
  cases t with
  | none =>
    have hv : v = .pointer none := hroot
    subst hv
    clear h hE hlen hTq hbq hbb hroot
    go_enter Tryd.func39, Tryd.ntmps39
    go_upto_region 4 with fail
    rw [← hq, ← hgb]
    have ld0 := run_loadPair (range_kv HBB.out)
    clear hq hgb p7
    go_wp2_with fail
    go_ret
    exact put_none HOK.out HBQ.out HE.out key value
  | some b =>
    obtain ⟨bg, rfl, hbn⟩ := hroot
    obtain ⟨rfl, hbd0⟩ := hbn
    have hbd := hTq.nd b rfl
    clear hbd0
    obtain ⟨k, rfl⟩ : ∃ k, H = k + 1 := by
      rcases H with _ | k
      · exact h.tt.ok.1.elim
      · exact ⟨k, rfl⟩
    have hwf := (wf_iff _ _).1 h.tt.ok.1
    have HW := Lib.hid hwf
    have HB1 : Hid (1 ≤ b.ps.length) := Lib.hid h.tt.ok.2
    have HB8 : Hid (1 ≤ b.ps.length ∧ b.ps.length ≤ 8) := Lib.hid ⟨h.tt.ok.2, hwf.1⟩
    have HTW := Lib.hid h
    have HGET := Lib.hid (get_any hTq.tt.tr hTq.tt.ok hTq.tt.so key)
    obtain ⟨G, hG⟩ : ∃ G, G = gotF (floorL (treeL (some b)) key) key := ⟨_, rfl⟩
    rw [← hG] at HGET
    have HGG := Lib.hid hG
    have HBD := Lib.hid hbd
    have HGL0 : Hid (g < q.heap.size) := Lib.hid hTq.tt.lt
    have hn1 : IntKind.i64.wrap (((treeL (some b)).length : Int) + 1) = ((treeL (some b)).length : Int) + 1 := i64_id _ (by omega) (by omega)
    obtain ⟨bg, hbg⟩ : ∃ bg, bg = b.g := ⟨_, rfl⟩
    rw [← hbg] at cv0
    have HBG := Lib.hid hbg
    clear h hE hlen hTq hbq hbb hG hbd hwf hbg
    go_enter Tryd.func39, Tryd.ntmps39
    go_upto_region 4 with fail
    rw [← hq, ← hgb]
    clear hq hgb p7
    cases G with
    | none =>
      have HGET2 : Hid (Calls Tryd.prog 56 #[.pointer (some ⟨g, 0, none⟩), .string key] q fun e w' => e = .returned (.tuple #[.string ⟨#[]⟩, .bool false]) ∧ Below q.heap.size q w') := HGET
      clear HGET
      have HLEN : Hid ((((treeL (some b)).length : Int) + 1) = ((insL b.toL ⟨key, value⟩).length : Int)) := Lib.hid (by
        rw [insL_len_new (fun x hx => got_none (l := b.toL) (key := key) HSO.out HGG.out.symm x hx)]
        rfl)
      go_upto_region 9 with (go_at_call 56; refine HGET2.out.mono ?_; rintro e q2 ⟨rfl, hb2⟩; obtain ⟨q, hqq⟩ : ∃ q', q' = q2 := ⟨_, rfl⟩; subst hqq; have HBQ2 : Hid (Sorted (treeL (some b)) ∧ Below w.heap.size w q) := Lib.hid ⟨HSO.out, HBQ.out.trans (hb2.mono HBQ.out.size)⟩; have HRB : Hid (q.rangeAt gb 0 (KV.mk key value).cells) := Lib.hid (range_kv ((hb2.block _ (heap_lt HBB.out)).trans HBB.out)); have HGL : Hid (g < q.heap.size) := Lib.hid (Nat.lt_of_lt_of_le HGL0.out hb2.size); have CG0 : Hid (q.cell? ⟨g, 0, none⟩ = some (.pointer (some ⟨bg, 0, none⟩))) := Lib.hid ((hb2.cell (p := ⟨g, 0, none⟩) HGL0.out).trans cv0); have CG1 : Hid (q.cell? ⟨g, 1, none⟩ = some (.int .i64 ((treeL (some b)).length : Int))) := Lib.hid ((hb2.cell (p := ⟨g, 1, none⟩) HGL0.out).trans cv1); have HPUT : Hid (∀ p, Below q.heap.size q p → Calls Tryd.prog 57 #[.pointer (some ⟨bg, 0, none⟩), .agg #[.string key, .string value]] p (PutRes E p k b ⟨key, value⟩)) := Lib.hid (fun p hp => by rw [HBG.out]; exact put_any key value k ((HBD.out.under hb2).under hp) HW.out.2 HW.out.1 HB1.out HSO.out); clear hb2)
      clear cv0 cv1
      refine Roll.region_f 6 81 Dpt9 Lpt9 [(0, .pointer (some ⟨g, 0, none⟩)), (7, .pointer (some ⟨gb, 0, none⟩))] (fun p => Below q.heap.size q p) (fun p p2 => Below p.heap.size p p2) [fun vv p => vv = .pointer (some ⟨g, 0, none⟩), fun vv p => vv = .pointer (some ⟨g, 0, none⟩), fun vv p => vv = .pointer (some ⟨g, 0, none⟩), fun vv p => vv = .pointer (some ⟨bg, 0, none⟩), fun vv p => vv = .agg #[.string key, .string value], fun vv p => ∃ r : BT, vv = .pointer (some ⟨r.g, 0, none⟩) ∧ NdD E p r ∧ PutOf k b r ⟨key, value⟩] (by kernel_rfl) (by kernel_rfl) rfl ⟨rfl, rfl, trivial⟩ ((Below.refl _ _).drew) ?_ ?_ ?_
      · exact ⟨fun _ _ _ _ h => h, fun _ _ _ _ h => h, fun _ _ _ _ h => h, fun _ _ _ _ h => h, fun _ _ _ _ h => h, fun _ _ _ hs h => by obtain ⟨r, e1, e2, e3⟩ := h; exact ⟨r, e1, e2.under hs, e3⟩, trivial⟩
      · intro b0 hN hlv
        refine ⟨?_, ?_, ?_, ?_, ?_, ?_, trivial⟩
        · intro vs p hI hp
          have e0 : (Roll.putD Dpt9 vs [] b0).eval (.tmp 0) = .pointer (some ⟨g, 0, none⟩) := (Roll.eval_old rfl).trans (hlv.at 0 (0, .pointer (some ⟨g, 0, none⟩)) rfl)
          clear hp hlv hN
          unfold Roll.Goes
          simp only [Lpt9, List.getD_cons_zero, List.getD_cons_succ]
          generalize Roll.putD Dpt9 vs [] b0 = a1 at *
          refine Roll.goes_val (w' := p) (.pointer (some ⟨g, 0, none⟩)) rfl ?_ ⟨hI, Below.refl _ _, rfl⟩
          (have ec : ∀ x, a1.eval (.const x) = x := fun _ => rfl); (have ef : ∀ x, a1.eval (.func x) = .func (.func x) #[] #[] := fun _ => rfl); generalize a1.eval = ρ at *
          skip
          go_simp <;> (intros; first | (exfalso; omega) | rfl)
        · intro vs p hI hp
          have h0 : (vs 0) = .pointer (some ⟨g, 0, none⟩) := hp 0 (by simp [Lpt9])
          have e47 : (Roll.putD Dpt9 vs [0] b0).eval (.tmp 47) = .pointer (some ⟨g, 0, none⟩) := (Roll.eval_new 0 rfl (by decide) (by decide) (by omega)).trans h0
          clear hp hlv hN
          unfold Roll.Goes
          simp only [Lpt9, List.getD_cons_zero, List.getD_cons_succ]
          generalize Roll.putD Dpt9 vs [0] b0 = a1 at *
          refine Roll.goes_val (w' := p) (.pointer (some ⟨g, 0, none⟩)) rfl ?_ ⟨hI, Below.refl _ _, rfl⟩
          (have ec : ∀ x, a1.eval (.const x) = x := fun _ => rfl); (have ef : ∀ x, a1.eval (.func x) = .func (.func x) #[] #[] := fun _ => rfl); generalize a1.eval = ρ at *
          clear h0
          go_simp <;> (intros; first | (exfalso; omega) | rfl)
        · intro vs p hI hp
          have h1 : (vs 1) = .pointer (some ⟨g, 0, none⟩) := hp 1 (by simp [Lpt9])
          have e48 : (Roll.putD Dpt9 vs [1] b0).eval (.tmp 48) = .pointer (some ⟨g, 0, none⟩) := (Roll.eval_new 1 rfl (by decide) (by decide) (by omega)).trans h1
          clear hp hlv hN
          unfold Roll.Goes
          simp only [Lpt9, List.getD_cons_zero, List.getD_cons_succ]
          generalize Roll.putD Dpt9 vs [1] b0 = a1 at *
          refine Roll.goes_val (w' := p) (.pointer (some ⟨g, 0, none⟩)) rfl ?_ ⟨hI, Below.refl _ _, rfl⟩
          (have ec : ∀ x, a1.eval (.const x) = x := fun _ => rfl); (have ef : ∀ x, a1.eval (.func x) = .func (.func x) #[] #[] := fun _ => rfl); generalize a1.eval = ρ at *
          clear h1
          go_simp <;> (intros; first | (exfalso; omega) | rfl)
        · intro vs p hI hp
          have h2 : (vs 2) = .pointer (some ⟨g, 0, none⟩) := hp 2 (by simp [Lpt9])
          have e49 : (Roll.putD Dpt9 vs [2] b0).eval (.tmp 49) = .pointer (some ⟨g, 0, none⟩) := (Roll.eval_new 2 rfl (by decide) (by decide) (by omega)).trans h2
          clear hp hlv hN
          unfold Roll.Goes
          simp only [Lpt9, List.getD_cons_zero, List.getD_cons_succ]
          generalize Roll.putD Dpt9 vs [2] b0 = a1 at *
          have cf : p.cell? ⟨g, 0, none⟩ = some (.pointer (some ⟨bg, 0, none⟩)) := (hI.cell (p := ⟨g, 0, none⟩) HGL.out).trans CG0.out
          refine Roll.goes_val (w' := p) (.pointer (some ⟨bg, 0, none⟩)) rfl ?_ ⟨hI, Below.refl _ _, rfl⟩
          (have ec : ∀ x, a1.eval (.const x) = x := fun _ => rfl); (have ef : ∀ x, a1.eval (.func x) = .func (.func x) #[] #[] := fun _ => rfl); generalize a1.eval = ρ at *
          clear h2
          go_simp <;> (intros; first | (exfalso; omega) | rfl)
        · intro vs p hI hp
          have e7 : (Roll.putD Dpt9 vs [] b0).eval (.tmp 7) = .pointer (some ⟨gb, 0, none⟩) := (Roll.eval_old rfl).trans (hlv.at 1 (7, .pointer (some ⟨gb, 0, none⟩)) rfl)
          clear hp hlv hN
          unfold Roll.Goes
          simp only [Lpt9, List.getD_cons_zero, List.getD_cons_succ]
          generalize Roll.putD Dpt9 vs [] b0 = a1 at *
          have ld0 := run_loadPair (range_below HRB.out (by simp [KV.cells]) hI)
          refine Roll.goes_val (w' := p) (.agg #[.string key, .string value]) rfl ?_ ⟨hI, Below.refl _ _, rfl⟩
          (have ec : ∀ x, a1.eval (.const x) = x := fun _ => rfl); (have ef : ∀ x, a1.eval (.func x) = .func (.func x) #[] #[] := fun _ => rfl); generalize a1.eval = ρ at *
          skip
          go_simp <;> (intros; first | (exfalso; omega) | rfl)
        · intro vs p hI hp
          have h3 : (vs 3) = .pointer (some ⟨bg, 0, none⟩) := hp 3 (by simp [Lpt9])
          have h4 : (vs 4) = .agg #[.string key, .string value] := hp 4 (by simp [Lpt9])
          have e50 : (Roll.putD Dpt9 vs [3, 4] b0).eval (.tmp 50) = .pointer (some ⟨bg, 0, none⟩) := (Roll.eval_new 3 rfl (by decide) (by decide) (by omega)).trans h3
          have e51 : (Roll.putD Dpt9 vs [3, 4] b0).eval (.tmp 51) = .agg #[.string key, .string value] := (Roll.eval_new 4 rfl (by decide) (by decide) (by omega)).trans h4
          clear hp hlv hN
          unfold Roll.Goes
          simp only [Lpt9, List.getD_cons_zero, List.getD_cons_succ]
          generalize Roll.putD Dpt9 vs [3, 4] b0 = a1 at *
          refine Roll.goes_call 57 #[.pointer (some ⟨bg, 0, none⟩), .agg #[.string key, .string value]] p rfl (by have ec : ∀ x, a1.eval (.const x) = x := fun _ => rfl; have ef : ∀ x, a1.eval (.func x) = .func (.func x) #[] #[] := fun _ => rfl; generalize a1.eval = ρ at *; go_simp) ?_
          refine (HPUT.out p hI).mono ?_
          rintro y p2 ⟨r, rfl, hnd, hb2, hpo⟩
          exact ⟨_, rfl, hI.trans (hb2.mono hI.size), hb2, r, rfl, hnd.dom (fun c hc => hc.elim id (fun h => HE.out c (Nat.le_trans HBQ2.out.2.size (Nat.le_trans hI.size h)))), hpo⟩
      · intro vs p hI hR
        have h0 : (vs 0) = .pointer (some ⟨g, 0, none⟩) := hR 0 (by omega)
        have h1 : (vs 1) = .pointer (some ⟨g, 0, none⟩) := hR 1 (by omega)
        have h2 : (vs 2) = .pointer (some ⟨g, 0, none⟩) := hR 2 (by omega)
        have h3 : (vs 3) = .pointer (some ⟨bg, 0, none⟩) := hR 3 (by omega)
        have h4 : (vs 4) = .agg #[.string key, .string value] := hR 4 (by omega)
        have h5 : ∃ r : BT, (vs 5) = .pointer (some ⟨r.g, 0, none⟩) ∧ NdD E p r ∧ PutOf k b r ⟨key, value⟩ := hR 5 (by omega)
        clear hR
        simp only [List.range_succ, List.range_zero, List.nil_append, List.cons_append, Roll.putD, Act.put, List.getD_cons_zero, List.getD_cons_succ, List.setIfInBounds_toArray, List.set_cons_zero, List.set_cons_succ, List.drop_succ_cons, List.drop_zero, Dpt9]
        simp only [h0, h1, h2, h3, h4]
        clear h0 h1 h2 h3 h4
        generalize vs 5 = v5 at *
        obtain ⟨r, rfl, hnd, hpo⟩ := h5
        have HND := Lib.hid hnd
        have HPO := Lib.hid hpo
        have HI := Lib.hid hI
        obtain ⟨aR, nR, cR, bR, mR, eR, -, -, cr0, -, hrp, -, -⟩ := hnd.facts
        have hnr := hrp.1
        have hncr : nR ≤ cR := hrp.2.2.1
        have hcr : cR ≤ 9223372036854775807 := hrp.2.2.2.1
        subst hnr
        obtain ⟨rn, hrn⟩ : ∃ rn, rn = r.ps.length := ⟨_, rfl⟩
        rw [← hrn] at cr0 hncr
        have HRN := Lib.hid hrn
        have cg1 := (hI.cell (p := ⟨g, 1, none⟩) HGL.out).trans CG1.out
        have HSOR : Hid (Sorted r.toL) := Lib.hid (by rw [hpo.list]; exact insL_sorted HSO.out)
        by_cases h8 : 8 < rn
        · have h8' : (8 : Int) < (rn : Int) := by omega
          have hbn := run_bs1N r.g
          have hb94 := run_bld94b
          clear hnd hpo hI hrp hrn
          go_upto_region 12 with fail
          obtain ⟨q4, hq4⟩ : ∃ q4, q4 = (p.alloc (.cells #[.pointer (some ⟨r.g, 0, none⟩)] 64)).alloc (.cells #[.slice none 0 0, .slice (some ⟨p.heap.size, 0, none⟩) 1 1] 69) := ⟨_, rfl⟩
          obtain ⟨gN, hgN⟩ : ∃ gN, gN = p.heap.size + 1 := ⟨_, rfl⟩
          have hb4 : Below p.heap.size p q4 := by rw [hq4]; exact ((Below.refl _ _).alloc (Nat.le_refl _) _).alloc (by simp) _
          have hON : ON E p q4 gN [] [r] [] := by
            have hg1 : q4.heap[p.heap.size]? = some (.cells #[.pointer (some ⟨r.g, 0, none⟩)] 64 (0, 0)) := by rw [hq4]; exact heap_old (heap_new rfl)
            have hg2 : q4.heap[gN]? = some (.cells #[.slice none 0 0, .slice (some ⟨p.heap.size, 0, none⟩) 1 1] 69 (0, 0)) := by rw [hq4, hgN]; exact heap_new (by simp)
            refine ⟨none, some p.heap.size, _, _, hg2, Own.nil _ _ _, Own.of hg1 (Nat.le_refl _) (by unfold maxLen; simp) rfl (by simp [pnts]), (by simp), (fun e => by cases e; omega), (fun _ e => by cases e), by omega, (fun _ e => by cases e), (fun j e => by cases e; exact Nat.le_refl _), fun x hx => ?_, hb4⟩
            have hx : x = r := by simpa using hx
            subst hx
            exact HND.out.off hb4 (by omega) (fun _ e => by cases e) (fun j e => by cases e; exact Nat.le_refl _)
          rw [← hq4, ← hgN]
          have HB4 := Lib.hid hb4
          have g0 : 0 < ([r] : List BT).length := by simp
          have g3 : 3 ≤ ([r] : List BT)[0].ps.length := by show 3 ≤ r.ps.length; have := HRN.out; omega
          have g9 : ([r] : List BT)[0].ps.length ≤ 900 := by show r.ps.length ≤ 900; have := HPO.out.high; have := HB8.out; omega
          have HSP := Lib.hid (split_any hON 0 g0 rfl (by simp) HPO.out.sh.lens g3 g9)
          have CG1P : Hid (∀ u, Below p.heap.size p u → u.cell? ⟨g, 1, none⟩ = some (.int .i64 ((treeL (some b)).length : Int))) := Lib.hid (fun u hu => (hu.cell (p := ⟨g, 1, none⟩) (Nat.lt_of_lt_of_le HGL.out HI.out.size)).trans cg1)
          clear hq4 hgN hb4 hON cg1 cr0
          go_wp2_with (go_at_call 58; refine HSP.out.mono ?_; rintro e q5 ⟨rfl, LL, RR, hon, l1, l2, r1, r2⟩; have HB5 := Lib.hid (by obtain ⟨_, _, _, _, h⟩ := hon; exact h.below : Below p.heap.size p q5); have cg5 := CG1P.out q5 HB5.out; have HON5 := Lib.hid hon; have HL5 := Lib.hid (And.intro l1 (And.intro l2 (And.intro r1 r2))); clear hon l1 l2 r1 r2)
          go_ret
          obtain ⟨l1, l2, r1, r2⟩ := HL5.out
          obtain ⟨m1, m2, m3, m4⟩ := split_math rfl (HPO.out.sh : (([r] : List BT)[0]).Sh k) (by show 7 ≤ r.ps.length; have := HRN.out; omega) (by show r.ps.length ≤ 16; have := HPO.out.high; have := HB8.out; omega) l1 l2 r1 r2
          have hnd5 := HON5.out
          obtain ⟨_, _, _, _, hnd5⟩ := hnd5
          have hnd6 := hnd5.nd.dom (D' := E) (fun c hc => hc.elim id (fun h => HE.out c (Nat.le_trans HBQ2.out.2.size (Nat.le_trans HI.out.size h))))
          refine put_fin HBQ2.out HI.out HB5.out hnd6 HE.out (k := k + 1) (.inr ⟨by omega, rfl, ?_⟩) (by show 1 ≤ 8; omega) (by show 1 ≤ 1; omega) ?_ ?_ (.inr rfl) ?_
          · intro x hx
            have hx : x ∈ [LL, RR] := hx
            have hx : x = LL ∨ x = RR := by simpa using hx
            rcases hx with rfl | rfl
            · exact m1
            · exact m2
          · rw [toL_mk]
            show toLs [_] [LL, RR] = _
            rw [toLs_cons, toLs_last]
            exact m3.symm.trans HPO.out.list
          · exact HLEN.out
          · intro P
            have h1 : LL.cnt P + RR.cnt P ≤ cntL P r.ks + 2 := m4 P
            have h2 := HPO.out.cnt P
            have h3 := cnt_eq P r
            have h4 := toNat_le (P gN)
            rw [cnt_mk]
            show _ + cntL P [LL, RR] ≤ _
            rw [cntL_cons, cntL_cons, cntL_nil]
            have h6 : tcnt P (some b) = b.cnt P := rfl
            omega
        · have h8' : ¬ (8 : Int) < (rn : Int) := by omega
          clear hnd hpo hI hrp hrn
          go_wp2_with fail
          go_ret
          refine put_fin HBQ2.out HI.out (Below.refl _ _) HND.out HE.out HPO.out.sh (by have := HRN.out; omega) (by have := HPO.out.low; have := HB8.out; omega) HPO.out.list ?_ (.inl rfl) ?_
          · exact HLEN.out
          · intro P
            have h2 := HPO.out.cnt P
            have h6 : tcnt P (some b) = b.cnt P := rfl
            omega
    | some v2 =>
      have HGET2 : Hid (Calls Tryd.prog 56 #[.pointer (some ⟨g, 0, none⟩), .string key] q fun e w' => e = .returned (.tuple #[.string v2, .bool true]) ∧ Below q.heap.size q w') := HGET
      clear HGET
      have HMEM : Hid (KV.mk key v2 ∈ b.toL) := Lib.hid (got_some HGG.out.symm)
      by_cases hvv : v2 = value
      · subst hvv
        have HRET : Hid (∀ u, Below q.heap.size q u → PutT E w (some b) (k + 1) ⟨key, v2⟩ (.returned (.pointer (some ⟨g, 0, none⟩))) u) := Lib.hid (fun u hu => ⟨g, some b, k + 1, rfl, HTQ.out.under hu, (insL_same HSO.out HMEM.out).symm, .inl rfl, fun P => by omega, HBQ.out.trans (hu.mono HBQ.out.size)⟩)
        have hveq : (v2.toList == v2.toList) = true := by simp
        go_wp2_with (go_at_call 56; refine HGET2.out.mono ?_; rintro e q2 ⟨rfl, hb2⟩; have HB2 := Lib.hid hb2; clear hb2)
        go_ret
        exact HRET.out _ HB2.out
      · have hveq : (v2.toList == value.toList) = false := by rw [str_beq]; exact decide_eq_false hvv
        have HLEN : Hid ((((treeL (some b)).length : Int)) = ((insL b.toL ⟨key, value⟩).length : Int)) := Lib.hid (by
          rw [insL_len_old (l := b.toL) (p := ⟨key, value⟩) HSO.out HMEM.out rfl]
          rfl)
        go_upto_region 9 with (go_at_call 56; refine HGET2.out.mono ?_; rintro e q2 ⟨rfl, hb2⟩; obtain ⟨q, hqq⟩ : ∃ q', q' = q2 := ⟨_, rfl⟩; subst hqq; have HBQ2 : Hid (Sorted (treeL (some b)) ∧ Below w.heap.size w q) := Lib.hid ⟨HSO.out, HBQ.out.trans (hb2.mono HBQ.out.size)⟩; have HRB : Hid (q.rangeAt gb 0 (KV.mk key value).cells) := Lib.hid (range_kv ((hb2.block _ (heap_lt HBB.out)).trans HBB.out)); have HGL : Hid (g < q.heap.size) := Lib.hid (Nat.lt_of_lt_of_le HGL0.out hb2.size); have CG0 : Hid (q.cell? ⟨g, 0, none⟩ = some (.pointer (some ⟨bg, 0, none⟩))) := Lib.hid ((hb2.cell (p := ⟨g, 0, none⟩) HGL0.out).trans cv0); have CG1 : Hid (q.cell? ⟨g, 1, none⟩ = some (.int .i64 ((treeL (some b)).length : Int))) := Lib.hid ((hb2.cell (p := ⟨g, 1, none⟩) HGL0.out).trans cv1); have HPUT : Hid (∀ p, Below q.heap.size q p → Calls Tryd.prog 57 #[.pointer (some ⟨bg, 0, none⟩), .agg #[.string key, .string value]] p (PutRes E p k b ⟨key, value⟩)) := Lib.hid (fun p hp => by rw [HBG.out]; exact put_any key value k ((HBD.out.under hb2).under hp) HW.out.2 HW.out.1 HB1.out HSO.out); clear hb2)
        clear cv0 cv1
        refine Roll.region_f 6 81 Dpt9 Lpt9 [(0, .pointer (some ⟨g, 0, none⟩)), (7, .pointer (some ⟨gb, 0, none⟩))] (fun p => Below q.heap.size q p) (fun p p2 => Below p.heap.size p p2) [fun vv p => vv = .pointer (some ⟨g, 0, none⟩), fun vv p => vv = .pointer (some ⟨g, 0, none⟩), fun vv p => vv = .pointer (some ⟨g, 0, none⟩), fun vv p => vv = .pointer (some ⟨bg, 0, none⟩), fun vv p => vv = .agg #[.string key, .string value], fun vv p => ∃ r : BT, vv = .pointer (some ⟨r.g, 0, none⟩) ∧ NdD E p r ∧ PutOf k b r ⟨key, value⟩] (by kernel_rfl) (by kernel_rfl) rfl ⟨rfl, rfl, trivial⟩ ((Below.refl _ _).drew) ?_ ?_ ?_
        · exact ⟨fun _ _ _ _ h => h, fun _ _ _ _ h => h, fun _ _ _ _ h => h, fun _ _ _ _ h => h, fun _ _ _ _ h => h, fun _ _ _ hs h => by obtain ⟨r, e1, e2, e3⟩ := h; exact ⟨r, e1, e2.under hs, e3⟩, trivial⟩
        · intro b0 hN hlv
          refine ⟨?_, ?_, ?_, ?_, ?_, ?_, trivial⟩
          · intro vs p hI hp
            have e0 : (Roll.putD Dpt9 vs [] b0).eval (.tmp 0) = .pointer (some ⟨g, 0, none⟩) := (Roll.eval_old rfl).trans (hlv.at 0 (0, .pointer (some ⟨g, 0, none⟩)) rfl)
            clear hp hlv hN
            unfold Roll.Goes
            simp only [Lpt9, List.getD_cons_zero, List.getD_cons_succ]
            generalize Roll.putD Dpt9 vs [] b0 = a1 at *
            refine Roll.goes_val (w' := p) (.pointer (some ⟨g, 0, none⟩)) rfl ?_ ⟨hI, Below.refl _ _, rfl⟩
            (have ec : ∀ x, a1.eval (.const x) = x := fun _ => rfl); (have ef : ∀ x, a1.eval (.func x) = .func (.func x) #[] #[] := fun _ => rfl); generalize a1.eval = ρ at *
            skip
            go_simp <;> (intros; first | (exfalso; omega) | rfl)
          · intro vs p hI hp
            have h0 : (vs 0) = .pointer (some ⟨g, 0, none⟩) := hp 0 (by simp [Lpt9])
            have e47 : (Roll.putD Dpt9 vs [0] b0).eval (.tmp 47) = .pointer (some ⟨g, 0, none⟩) := (Roll.eval_new 0 rfl (by decide) (by decide) (by omega)).trans h0
            clear hp hlv hN
            unfold Roll.Goes
            simp only [Lpt9, List.getD_cons_zero, List.getD_cons_succ]
            generalize Roll.putD Dpt9 vs [0] b0 = a1 at *
            refine Roll.goes_val (w' := p) (.pointer (some ⟨g, 0, none⟩)) rfl ?_ ⟨hI, Below.refl _ _, rfl⟩
            (have ec : ∀ x, a1.eval (.const x) = x := fun _ => rfl); (have ef : ∀ x, a1.eval (.func x) = .func (.func x) #[] #[] := fun _ => rfl); generalize a1.eval = ρ at *
            clear h0
            go_simp <;> (intros; first | (exfalso; omega) | rfl)
          · intro vs p hI hp
            have h1 : (vs 1) = .pointer (some ⟨g, 0, none⟩) := hp 1 (by simp [Lpt9])
            have e48 : (Roll.putD Dpt9 vs [1] b0).eval (.tmp 48) = .pointer (some ⟨g, 0, none⟩) := (Roll.eval_new 1 rfl (by decide) (by decide) (by omega)).trans h1
            clear hp hlv hN
            unfold Roll.Goes
            simp only [Lpt9, List.getD_cons_zero, List.getD_cons_succ]
            generalize Roll.putD Dpt9 vs [1] b0 = a1 at *
            refine Roll.goes_val (w' := p) (.pointer (some ⟨g, 0, none⟩)) rfl ?_ ⟨hI, Below.refl _ _, rfl⟩
            (have ec : ∀ x, a1.eval (.const x) = x := fun _ => rfl); (have ef : ∀ x, a1.eval (.func x) = .func (.func x) #[] #[] := fun _ => rfl); generalize a1.eval = ρ at *
            clear h1
            go_simp <;> (intros; first | (exfalso; omega) | rfl)
          · intro vs p hI hp
            have h2 : (vs 2) = .pointer (some ⟨g, 0, none⟩) := hp 2 (by simp [Lpt9])
            have e49 : (Roll.putD Dpt9 vs [2] b0).eval (.tmp 49) = .pointer (some ⟨g, 0, none⟩) := (Roll.eval_new 2 rfl (by decide) (by decide) (by omega)).trans h2
            clear hp hlv hN
            unfold Roll.Goes
            simp only [Lpt9, List.getD_cons_zero, List.getD_cons_succ]
            generalize Roll.putD Dpt9 vs [2] b0 = a1 at *
            have cf : p.cell? ⟨g, 0, none⟩ = some (.pointer (some ⟨bg, 0, none⟩)) := (hI.cell (p := ⟨g, 0, none⟩) HGL.out).trans CG0.out
            refine Roll.goes_val (w' := p) (.pointer (some ⟨bg, 0, none⟩)) rfl ?_ ⟨hI, Below.refl _ _, rfl⟩
            (have ec : ∀ x, a1.eval (.const x) = x := fun _ => rfl); (have ef : ∀ x, a1.eval (.func x) = .func (.func x) #[] #[] := fun _ => rfl); generalize a1.eval = ρ at *
            clear h2
            go_simp <;> (intros; first | (exfalso; omega) | rfl)
          · intro vs p hI hp
            have e7 : (Roll.putD Dpt9 vs [] b0).eval (.tmp 7) = .pointer (some ⟨gb, 0, none⟩) := (Roll.eval_old rfl).trans (hlv.at 1 (7, .pointer (some ⟨gb, 0, none⟩)) rfl)
            clear hp hlv hN
            unfold Roll.Goes
            simp only [Lpt9, List.getD_cons_zero, List.getD_cons_succ]
            generalize Roll.putD Dpt9 vs [] b0 = a1 at *
            have ld0 := run_loadPair (range_below HRB.out (by simp [KV.cells]) hI)
            refine Roll.goes_val (w' := p) (.agg #[.string key, .string value]) rfl ?_ ⟨hI, Below.refl _ _, rfl⟩
            (have ec : ∀ x, a1.eval (.const x) = x := fun _ => rfl); (have ef : ∀ x, a1.eval (.func x) = .func (.func x) #[] #[] := fun _ => rfl); generalize a1.eval = ρ at *
            skip
            go_simp <;> (intros; first | (exfalso; omega) | rfl)
          · intro vs p hI hp
            have h3 : (vs 3) = .pointer (some ⟨bg, 0, none⟩) := hp 3 (by simp [Lpt9])
            have h4 : (vs 4) = .agg #[.string key, .string value] := hp 4 (by simp [Lpt9])
            have e50 : (Roll.putD Dpt9 vs [3, 4] b0).eval (.tmp 50) = .pointer (some ⟨bg, 0, none⟩) := (Roll.eval_new 3 rfl (by decide) (by decide) (by omega)).trans h3
            have e51 : (Roll.putD Dpt9 vs [3, 4] b0).eval (.tmp 51) = .agg #[.string key, .string value] := (Roll.eval_new 4 rfl (by decide) (by decide) (by omega)).trans h4
            clear hp hlv hN
            unfold Roll.Goes
            simp only [Lpt9, List.getD_cons_zero, List.getD_cons_succ]
            generalize Roll.putD Dpt9 vs [3, 4] b0 = a1 at *
            refine Roll.goes_call 57 #[.pointer (some ⟨bg, 0, none⟩), .agg #[.string key, .string value]] p rfl (by have ec : ∀ x, a1.eval (.const x) = x := fun _ => rfl; have ef : ∀ x, a1.eval (.func x) = .func (.func x) #[] #[] := fun _ => rfl; generalize a1.eval = ρ at *; go_simp) ?_
            refine (HPUT.out p hI).mono ?_
            rintro y p2 ⟨r, rfl, hnd, hb2, hpo⟩
            exact ⟨_, rfl, hI.trans (hb2.mono hI.size), hb2, r, rfl, hnd.dom (fun c hc => hc.elim id (fun h => HE.out c (Nat.le_trans HBQ2.out.2.size (Nat.le_trans hI.size h)))), hpo⟩
        · intro vs p hI hR
          have h0 : (vs 0) = .pointer (some ⟨g, 0, none⟩) := hR 0 (by omega)
          have h1 : (vs 1) = .pointer (some ⟨g, 0, none⟩) := hR 1 (by omega)
          have h2 : (vs 2) = .pointer (some ⟨g, 0, none⟩) := hR 2 (by omega)
          have h3 : (vs 3) = .pointer (some ⟨bg, 0, none⟩) := hR 3 (by omega)
          have h4 : (vs 4) = .agg #[.string key, .string value] := hR 4 (by omega)
          have h5 : ∃ r : BT, (vs 5) = .pointer (some ⟨r.g, 0, none⟩) ∧ NdD E p r ∧ PutOf k b r ⟨key, value⟩ := hR 5 (by omega)
          clear hR
          simp only [List.range_succ, List.range_zero, List.nil_append, List.cons_append, Roll.putD, Act.put, List.getD_cons_zero, List.getD_cons_succ, List.setIfInBounds_toArray, List.set_cons_zero, List.set_cons_succ, List.drop_succ_cons, List.drop_zero, Dpt9]
          simp only [h0, h1, h2, h3, h4]
          clear h0 h1 h2 h3 h4
          generalize vs 5 = v5 at *
          obtain ⟨r, rfl, hnd, hpo⟩ := h5
          have HND := Lib.hid hnd
          have HPO := Lib.hid hpo
          have HI := Lib.hid hI
          obtain ⟨aR, nR, cR, bR, mR, eR, -, -, cr0, -, hrp, -, -⟩ := hnd.facts
          have hnr := hrp.1
          have hncr : nR ≤ cR := hrp.2.2.1
          have hcr : cR ≤ 9223372036854775807 := hrp.2.2.2.1
          subst hnr
          obtain ⟨rn, hrn⟩ : ∃ rn, rn = r.ps.length := ⟨_, rfl⟩
          rw [← hrn] at cr0 hncr
          have HRN := Lib.hid hrn
          have cg1 := (hI.cell (p := ⟨g, 1, none⟩) HGL.out).trans CG1.out
          have HSOR : Hid (Sorted r.toL) := Lib.hid (by rw [hpo.list]; exact insL_sorted HSO.out)
          by_cases h8 : 8 < rn
          · have h8' : (8 : Int) < (rn : Int) := by omega
            have hbn := run_bs1N r.g
            have hb94 := run_bld94b
            clear hnd hpo hI hrp hrn
            go_upto_region 12 with fail
            obtain ⟨q4, hq4⟩ : ∃ q4, q4 = (p.alloc (.cells #[.pointer (some ⟨r.g, 0, none⟩)] 64)).alloc (.cells #[.slice none 0 0, .slice (some ⟨p.heap.size, 0, none⟩) 1 1] 69) := ⟨_, rfl⟩
            obtain ⟨gN, hgN⟩ : ∃ gN, gN = p.heap.size + 1 := ⟨_, rfl⟩
            have hb4 : Below p.heap.size p q4 := by rw [hq4]; exact ((Below.refl _ _).alloc (Nat.le_refl _) _).alloc (by simp) _
            have hON : ON E p q4 gN [] [r] [] := by
              have hg1 : q4.heap[p.heap.size]? = some (.cells #[.pointer (some ⟨r.g, 0, none⟩)] 64 (0, 0)) := by rw [hq4]; exact heap_old (heap_new rfl)
              have hg2 : q4.heap[gN]? = some (.cells #[.slice none 0 0, .slice (some ⟨p.heap.size, 0, none⟩) 1 1] 69 (0, 0)) := by rw [hq4, hgN]; exact heap_new (by simp)
              refine ⟨none, some p.heap.size, _, _, hg2, Own.nil _ _ _, Own.of hg1 (Nat.le_refl _) (by unfold maxLen; simp) rfl (by simp [pnts]), (by simp), (fun e => by cases e; omega), (fun _ e => by cases e), by omega, (fun _ e => by cases e), (fun j e => by cases e; exact Nat.le_refl _), fun x hx => ?_, hb4⟩
              have hx : x = r := by simpa using hx
              subst hx
              exact HND.out.off hb4 (by omega) (fun _ e => by cases e) (fun j e => by cases e; exact Nat.le_refl _)
            rw [← hq4, ← hgN]
            have HB4 := Lib.hid hb4
            have g0 : 0 < ([r] : List BT).length := by simp
            have g3 : 3 ≤ ([r] : List BT)[0].ps.length := by show 3 ≤ r.ps.length; have := HRN.out; omega
            have g9 : ([r] : List BT)[0].ps.length ≤ 900 := by show r.ps.length ≤ 900; have := HPO.out.high; have := HB8.out; omega
            have HSP := Lib.hid (split_any hON 0 g0 rfl (by simp) HPO.out.sh.lens g3 g9)
            have CG1P : Hid (∀ u, Below p.heap.size p u → u.cell? ⟨g, 1, none⟩ = some (.int .i64 ((treeL (some b)).length : Int))) := Lib.hid (fun u hu => (hu.cell (p := ⟨g, 1, none⟩) (Nat.lt_of_lt_of_le HGL.out HI.out.size)).trans cg1)
            clear hq4 hgN hb4 hON cg1 cr0
            go_wp2_with (go_at_call 58; refine HSP.out.mono ?_; rintro e q5 ⟨rfl, LL, RR, hon, l1, l2, r1, r2⟩; have HB5 := Lib.hid (by obtain ⟨_, _, _, _, h⟩ := hon; exact h.below : Below p.heap.size p q5); have cg5 := CG1P.out q5 HB5.out; have HON5 := Lib.hid hon; have HL5 := Lib.hid (And.intro l1 (And.intro l2 (And.intro r1 r2))); clear hon l1 l2 r1 r2)
            go_ret
            obtain ⟨l1, l2, r1, r2⟩ := HL5.out
            obtain ⟨m1, m2, m3, m4⟩ := split_math rfl (HPO.out.sh : (([r] : List BT)[0]).Sh k) (by show 7 ≤ r.ps.length; have := HRN.out; omega) (by show r.ps.length ≤ 16; have := HPO.out.high; have := HB8.out; omega) l1 l2 r1 r2
            have hnd5 := HON5.out
            obtain ⟨_, _, _, _, hnd5⟩ := hnd5
            have hnd6 := hnd5.nd.dom (D' := E) (fun c hc => hc.elim id (fun h => HE.out c (Nat.le_trans HBQ2.out.2.size (Nat.le_trans HI.out.size h))))
            refine put_fin HBQ2.out HI.out HB5.out hnd6 HE.out (k := k + 1) (.inr ⟨by omega, rfl, ?_⟩) (by show 1 ≤ 8; omega) (by show 1 ≤ 1; omega) ?_ ?_ (.inr rfl) ?_
            · intro x hx
              have hx : x ∈ [LL, RR] := hx
              have hx : x = LL ∨ x = RR := by simpa using hx
              rcases hx with rfl | rfl
              · exact m1
              · exact m2
            · rw [toL_mk]
              show toLs [_] [LL, RR] = _
              rw [toLs_cons, toLs_last]
              exact m3.symm.trans HPO.out.list
            · exact HLEN.out
            · intro P
              have h1 : LL.cnt P + RR.cnt P ≤ cntL P r.ks + 2 := m4 P
              have h2 := HPO.out.cnt P
              have h3 := cnt_eq P r
              have h4 := toNat_le (P gN)
              rw [cnt_mk]
              show _ + cntL P [LL, RR] ≤ _
              rw [cntL_cons, cntL_cons, cntL_nil]
              have h6 : tcnt P (some b) = b.cnt P := rfl
              omega
          · have h8' : ¬ (8 : Int) < (rn : Int) := by omega
            clear hnd hpo hI hrp hrn
            go_wp2_with fail
            go_ret
            refine put_fin HBQ2.out HI.out (Below.refl _ _) HND.out HE.out HPO.out.sh (by have := HRN.out; omega) (by have := HPO.out.low; have := HB8.out; omega) HPO.out.list ?_ (.inl rfl) ?_
            · exact HLEN.out
            · intro P
              have h2 := HPO.out.cnt P
              have h6 : tcnt P (some b) = b.cnt P := rfl
              omega
end Go.Proofs.YtcoijmggfkjcjaaDoor.PX

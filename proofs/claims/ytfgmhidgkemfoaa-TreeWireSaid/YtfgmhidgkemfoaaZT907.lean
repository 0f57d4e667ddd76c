/-
  Texts OG, one behind the other.
-/
import Derived.WalkKit
import Derived.WalkSpells
import Derived.WalkLawsBesides
import Derived.Laws.AppendOwn
import Derived.Laws.OwnMore
import Derived.Deep.AppendSrc
import Derived.Deep.MidRow
import Derived.Lib.Hide
import GoSem.Claim
import Derived.Lib.Bytealg
import Derived.Laws.Externs
import Derived.Deep.QuietTactic
import Derived.BigQuiet
import Derived.Deep.CutBlock
import Derived.OwnWalk
import Derived.Deep.DrawnRows
import Derived.Deep.CutRange
import Derived.Deep.LoopGhost
import Derived.Laws.Tables
import Derived.Laws.ResultCell
import Derived.Deep.WholeRow
import Derived.Lib.Strings
import Derived.Shelf.Spec.SlicesInsert
import Derived.Lib.AppendZerosOnto
import Derived.Lib.Overlaps
import Derived.Laws.CopyRow
import Derived.Deep.RegionLaw
import Derived.StillTailTactics
import Derived.RangeFuncNested
import Derived.RangeFuncBound
import Derived.RangeFuncCalls
import Derived.RangeFuncLeaves
import Derived.Shelf.Abstract
import Derived.Shelf.RegionOpen
import Derived.OwnWalkIn
import Derived.TacticsInMore
import Derived.LoopNIn
import Derived.LoopIn
import Derived.RangeFuncBox
import Derived.Sort.CutIn
import Derived.Orders
import Derived.Tactics
import Derived.Test.YtfgmhidgkemfoaaRows
import Derived.Test.YtfgmhidgkemfoaaZT906
namespace Go.Proofs.Ytfgmhidgkemfoaa
open Go.RowKit Go.Shelf
set_option linter.unusedSimpArgs false
set_option linter.unusedVariables false
attribute [local go_sem] Oper.semAt_some
attribute [local go_sem ↓] exec_loadPair exec_storePair exec_at_zeroP exec_at_succP Go.wp_at_zero Go.wp_at_succ
attribute [local go_sem] run_storePair
def Ddf12 : List (Option Tmp) := [some 57, some 58, some 59, some 60, some 61, some 62, some 63, some 64, some 65, some 66, some 67, some 68]
def Ldf12 : List (List Nat) := [[], [0], [1], [2], [3], [4, 3], [5, 3], [6, 3], [3], [8, 3], [7, 9, 3], [3, 10]]
def Ddf10 : List (Option Tmp) := [some 39, some 40, some 41, some 42, some 43, some 44, some 45, some 46, some 47, some 48]
def Ldf10 : List (List Nat) := [[], [0], [1], [2], [3], [4, 3], [5, 3], [3], [6, 7, 3], [3, 8]]
def Ddf8 : List (Option Tmp) := [some 30, some 31, some 32, some 33, some 34, some 35, none]
def Ldf8 : List (List Nat) := [[], [], [], [1, 2], [3], [0, 4], [5]]
def Ddf6 : List (Option Tmp) := [some 14, some 15, some 16, some 17, some 18, some 19, some 20, some 21, some 22, some 23, some 24, some 25, some 26, some 27]
def Ldf6 : List (List Nat) := [[], [], [1], [0, 2], [3], [4], [4], [5, 6, 4], [7, 4], [8, 4], [4], [10, 4], [9, 11, 4], [4, 12]]
def Ddf14 : List (Option Tmp) := [some 71, some 72, some 73, some 74, some 4]
def Ldf14 : List (List Nat) := [[], [], [1], [0, 2], [3]]
theorem ownsRow_base {w : World} {base base' : Nat} {e : TypeId} {size : Nat} {v : Value} {n : Nat} {xs : List Value} (h : w.ownsRow base e size v n xs) (hb : base' ≤ base) : w.ownsRow base' e size v n xs := by
  refine ⟨h.1, ?_⟩
  rcases h.2 with h1 | ⟨g, cap, cur, h1, h2, h3⟩
  · exact .inl h1
  · exact .inr ⟨g, cap, cur, h1, Nat.le_trans hb h2, h3⟩
theorem ecells_cell (es : List ED) : ∀ u ∈ ecells es, u.oneCell' = true := by
  intro u hu
  unfold ecells at hu
  obtain ⟨e, -, he⟩ := List.mem_flatMap.1 hu
  unfold ED.cells at he
  simp at he
  rcases he with rfl | rfl | rfl <;> rfl
theorem plc_take (ps : List KV) (key : ByteArray) : ps.take (plc ps key) = ps.takeWhile fun p => decide (cmpK p.k key < 0) := (List.prefix_iff_eq_take.1 (List.takeWhile_prefix _)).symm
theorem plc_drop (ps : List KV) (key : ByteArray) : ps.drop (plc ps key) = ps.dropWhile fun p => decide (cmpK p.k key < 0) := by
  have h1 := List.take_append_drop (plc ps key) ps
  have h2 := List.takeWhile_append_dropWhile (p := fun p : KV => decide (cmpK p.k key < 0)) (l := ps)
  rw [plc_take] at h1
  exact List.append_cancel_left (h1.trans h2.symm)
theorem plc_lt (ps : List KV) (key : ByteArray) (j : Nat) (hj : j < ps.length) (h : j < plc ps key) : cmpK ps[j].k key < 0 := by
  have h1 : ps[j] ∈ ps.take (plc ps key) := List.mem_take_iff_getElem.2 ⟨j, by omega, rfl⟩
  rw [plc_take] at h1
  have := List.all_eq_true.1 (List.all_takeWhile (l := ps) (p := fun p : KV => decide (cmpK p.k key < 0))) _ h1
  simpa using this
theorem plc_at (ps : List KV) (key : ByteArray) (h : plc ps key < ps.length) : ¬ cmpK ps[plc ps key].k key < 0 := by
  have h1 := List.drop_eq_getElem_cons h
  rw [plc_drop] at h1
  have := List.head?_dropWhile_not (fun p : KV => decide (cmpK p.k key < 0)) ps
  rw [h1] at this
  simp only [List.head?_cons] at this
  simpa using this
theorem dr_eq (es : List ED) (rest : List KV) (x : KV) : diffRound (es, rest) x = (es ++ (rest.take (plc rest x.k)).map remE ++ (if (rest.drop (plc rest x.k)).head? = some x then [] else [setE x]), match rest.drop (plc rest x.k) with | q :: r => if q.k = x.k then r else q :: r | [] => []) := by
  unfold diffRound
  rw [plc_take, plc_drop]
  rfl
theorem fold_len : ∀ (l a : List KV) (es : List ED), (l.foldl diffRound (es, a)).1.length + (l.foldl diffRound (es, a)).2.length ≤ es.length + a.length + l.length
  | [], a, es => by simp
  | x :: l, a, es => by
    rw [List.foldl_cons]
    have h := fold_len l (diffRound (es, a) x).2 (diffRound (es, a) x).1
    have h2 : (diffRound (es, a) x).1.length + (diffRound (es, a) x).2.length ≤ es.length + a.length + 1 := by
      rw [dr_eq]
      have hp := plc_le a x.k
      have h3 : (if (a.drop (plc a x.k)).head? = some x then [] else [setE x]).length ≤ 1 := by split <;> simp
      have h4 : (match a.drop (plc a x.k) with | q :: r => if q.k = x.k then r else q :: r | [] => []).length ≤ (a.drop (plc a x.k)).length := by
        cases a.drop (plc a x.k) with
        | nil => simp
        | cons q r =>
          simp only
          split
          · simp
          · exact Nat.le_refl _
      simp only [List.length_append, List.length_map, List.length_take]
      rw [List.length_drop] at h4
      omega
    rw [List.length_cons]
    have e : ((diffRound (es, a) x).1, (diffRound (es, a) x).2) = diffRound (es, a) x := rfl
    rw [e] at h
    omega
theorem DS.head {w W0 W : World} {be bo : Nat} {es : List ED} {r : List KV} {y : KV} {sl : Value} {b ob n c : Nat} (h : DS w W0 be bo es (y :: r) W sl (some ⟨b, ob, none⟩) n c) : W.rangeAt b ob y.cells ∧ b < W.heap.size := by
  have hl := h.ps.1
  obtain ⟨b', off, -, hbs, e, hc⟩ := (h.ps.keepP h.kp).at (by simp at hl; omega)
  cases e
  have h0 := hc 0 (by simp)
  rw [Nat.zero_mul, Nat.add_zero] at h0
  exact ⟨h0, hbs⟩
set_option maxRecDepth 100000 in
set_option maxHeartbeats 8000000 in
theorem diff_any {w : World} {ga gb : Nat} {ta tb : Option BT} {H K : Nat} (ha : TT w ga ta H) (hb : TT w gb tb K) (hla : (treeL ta).length ≤ 1000000) (hlb : (treeL tb).length ≤ 1000000) :
    Calls Try.prog 32 #[.pointer (some ⟨ga, 0, none⟩), .pointer (some ⟨gb, 0, none⟩)] w fun e W' => ∃ v, e = .returned v ∧ W'.ownsRow w.heap.size 61 3 v (diffR (treeL ta) (treeL tb)).length (ecells (diffR (treeL ta) (treeL tb))) ∧ Below w.heap.size w W' := by
  refine (callsIn_wide (n := 7)).1 ?_
  obtain ⟨F, hF⟩ : ∃ F, F = Fence.wide := ⟨_, rfl⟩
  rw [← hF]
  have h32 : F.fn 32 := by rw [hF]; trivial
  have h29 : F.fn 29 := by rw [hF]; trivial
  have h55 : F.fn 55 := by rw [hF]; trivial
  have h58 : F.fn 58 := by rw [hF]; trivial
  have h76 : F.fn 76 := by rw [hF]; trivial
  have hro : F.round = none := by rw [hF]; rfl
  have hdd : ∀ k : Nat, (F.depth.isSome = true → 1 ≤ k) := fun k h => by rw [hF] at h; cases h
  have HW : Hid (∀ {m : Nat} {f : FuncId} {args : Array Value} {u : World} {R : Ending → World → Prop}, Calls Try.prog f args u R → CallsIn F m Try.prog f args u R) := Lib.hid (fun h => by rw [hF]; exact callsIn_wide.2 h)
  have HF := Lib.hid hF
  have HTA := Lib.hid ha
  have HTB := Lib.hid hb
  have HLA := Lib.hid hla
  have HLB := Lib.hid hlb
  clear hF ha hb hla hlb
  obtain ⟨i0, hi, hz0, hz1, hz2⟩ := info_parts edit_info
  refine callsIn_of_wp_marks Try.func32 rfl h32 ?_ hro
  simp only [Try.ntmps32, List.size_toArray, List.length_cons, List.length_nil, Nat.reduceAdd, Nat.reduceSub, Array.replicate_succ, Array.replicate_zero, List.push_toArray, List.append_toArray, List.nil_append, List.cons_append]
  have HB1 : Hid (Below w.heap.size w (w.alloc (.cells #[.slice none 0 0] 56))) := Lib.hid ((Below.refl _ w).alloc (Nat.le_refl _) _)
  have HRG := Lib.hid (range_any (HTA.out.under ((Below.refl _ w).alloc (Nat.le_refl _) (.cells #[.slice none 0 0] 56))) ⟨#[]⟩ ⟨#[]⟩ (Nat.le_trans HLA.out (by decide)))
  gi_wp2_with (first
    | ((try refine ⟨hdd _, ?_⟩); gi_at_call 29; refine (HW.out HRG.out).mono ?_; rintro e q ⟨v, rfl, hrow, hbq⟩; obtain ⟨a0, n0, c0, rfl, hps0⟩ := Ps.rowP hrow; have HPS0 := Lib.hid hps0; have HBQ := Lib.hid hbq; clear hrow hbq hps0)
    | ((try refine ⟨hdd _, ?_⟩); gi_at_call 55; refine (HW.out (pairs_any _)).mono ?_; rintro e w' ⟨rfl, rfl⟩))
  have bE0 := Boxed.new w 56 (.slice none 0 0)
  have bE : Boxed q w.heap.size 56 (.slice none 0 0) := (HBQ.out.block _ bE0.lt).trans bE0
  have hBq : Below w.heap.size w q := HB1.out.trans (HBQ.out.mono (by simp))
  obtain ⟨bo, hbo⟩ : ∃ bo, bo = q.heap.size := ⟨_, rfl⟩
  have bO := Boxed.new q 26 (.slice a0 n0 c0)
  rw [← hbo] at bO ⊢
  have bE := bE.alloc (.cells #[.slice a0 n0 c0] 26)
  have hw1 : w.heap.size + 1 ≤ q.heap.size := by have := HBQ.out.size; rw [World.size_alloc] at this; exact this
  have hBo : w.heap.size < bo := by omega
  have hB1 : Below w.heap.size w (q.alloc (.cells #[.slice a0 n0 c0] 26)) := hBq.alloc (by omega) _
  have hkp1 : KeepP q (q.alloc (.cells #[.slice a0 n0 c0] 26)) := KeepP.of_below ((Below.refl _ q).alloc (Nat.le_refl _) _)
  have hs1 : (q.alloc (.cells #[.slice a0 n0 c0] 26)).heap.size = bo + 1 := by rw [World.size_alloc, hbo]
  obtain ⟨W1, hW1⟩ : ∃ W1, W1 = q.alloc (.cells #[.slice a0 n0 c0] 26) := ⟨_, rfl⟩
  rw [← hW1] at bO bE hB1 hkp1 hs1 ⊢
  obtain ⟨v, hit⟩ := Itr.of HTB.out.tr hB1 emptyS
  rw [hs1] at hit
  have bO := (bO.alloc (.cells #[.pointer (some ⟨gb, 0, none⟩)] 24)).alloc (.cells #[.string emptyS] 9)
  have bE := (bE.alloc (.cells #[.pointer (some ⟨gb, 0, none⟩)] 24)).alloc (.cells #[.string emptyS] 9)
  have hB0 := (hB1.alloc (by omega) (.cells #[.pointer (some ⟨gb, 0, none⟩)] 24)).alloc (by simp; omega) (.cells #[.string emptyS] 9)
  have hkp0 := hkp1.trans (KeepP.of_below (((Below.refl _ W1).alloc (Nat.le_refl _) (.cells #[.pointer (some ⟨gb, 0, none⟩)] 24)).alloc (by simp) (.cells #[.string emptyS] 9)))
  have hs0 : ((W1.alloc (.cells #[.pointer (some ⟨gb, 0, none⟩)] 24)).alloc (.cells #[.string emptyS] 9)).heap.size = bo + 3 := by simp; omega
  have hem : (⟨#[]⟩ : ByteArray) = emptyS := rfl
  simp only [hem] at *
  obtain ⟨W0, hW0⟩ : ∃ W0, W0 = ((W1.alloc (.cells #[.pointer (some ⟨gb, 0, none⟩)] 24)).alloc (.cells #[.string emptyS] 9)) := ⟨_, rfl⟩
  rw [← hW0] at bO bE hB0 hkp0 hs0 hit ⊢
  have hps0 : Ps (DP W0) W0 a0 n0 c0 (treeL ta) := by
    have h := HPS0.out.1.toP hkp0
    rw [rngL_emp] at h
    exact h
  have hds0 : DS w W0 w.heap.size bo [] (treeL ta) W0 (.slice none 0 0) a0 n0 c0 := ⟨bE, World.ownsRow_nil _ _ _ _, bO, hps0, HPS0.out.2, KeepP.refl _, hB0⟩
  have HDS0 := Lib.hid hds0
  clear hbo hW0 hB1 hs1 hW1 hkp1 hkp0 bE bO hps0 hds0 bE0 hBq HRG
  refine wpIn_rangeFunc_ownH hro (by omega) (gf := 76) (lb := #[.pointer (some ⟨bo + 1 + 1, 0, none⟩), .pointer (some ⟨bo + 1, 0, none⟩)]) rfl h76 (enters_of Try.func76 (by kernel_rfl) rfl)
    (pairs1_stops F HF.out (7 - 1) w.heap.size (bo + 1 + 1) (bo + 1) gb v tb K emptyS HTB.out.ok HTB.out.so W0 (by omega) hit) (fun h k => KP.trans h k) (fun W l o o' hl h hc _ => KP.putObj (B := W0.heap.size) (by omega) W l o o' hl h hc) (Below.refl _ _) (fun _ => rfl)
    (DI w W0 w.heap.size bo (treeL ta))
    (fun c pre W => False)
    (DI.own (by omega))
    (fun c s A B row hs hg hr => hs)
    ⟨_, _, _, _, HDS0.out⟩
    (fun x a' W => ∃ Bx, bo < Bx ∧ W.heap[Bx]? = some (.cells (kcells x) 65 (0, 0)) ∧ a' = { tmps := #[.pointer (some ⟨ga, 0, none⟩), .pointer (some ⟨gb, 0, none⟩), undef, undef, .slice none 0 0, .pointer (some ⟨w.heap.size, 0, none⟩), .pointer (some ⟨bo, 0, none⟩), .pointer (some ⟨Bx, 0, none⟩), undef, .pointer (some ⟨ga, 0, none⟩), .slice a0 n0 c0, .pointer (some ⟨gb, 0, none⟩), .func (.func 76) #[] #[.pointer (some ⟨bo + 1 + 1, 0, none⟩), .pointer (some ⟨bo + 1, 0, none⟩)], pairV x, undef, undef, undef, undef, undef, undef, undef, undef, undef, undef, undef, undef, undef, undef, undef, undef, undef, undef, undef, undef, undef, undef, undef, undef, undef, undef, undef, undef, undef, undef, undef, undef, undef, undef, undef, undef, undef, undef, undef, undef, undef, undef, undef, undef, undef, undef, undef, undef, undef, undef, undef, undef, undef, undef, undef, undef, undef, undef, undef, undef, undef], defers := [] })
    (fun x a' s A B row hs hg hr => by
      obtain ⟨Bx, h1, h2, h3⟩ := hs
      refine ⟨Bx, h1, (hg.block Bx (Array.getElem?_eq_some_iff.1 h2).1 (fun e => ?_)).trans h2, h3⟩
      obtain ⟨_, o, ho, hc⟩ := hr Bx e.symm
      rw [h2] at ho; cases ho; cases hc)
    ?assign ?body ?done ?stop
  case assign =>
    rintro l pre x W K hR hK
    have p6 : PB (W.alloc (.cells #[.string ⟨#[]⟩, .string ⟨#[]⟩] 65)) W.heap.size := ⟨⟨⟨#[]⟩, ⟨#[]⟩⟩, heap_new rfl⟩
    unfold pairV
    have HR := Lib.hid hR
    clear hR
    gi_wp2
    have hb : Below W.heap.size W ((W.alloc (.cells #[.string ⟨#[]⟩, .string ⟨#[]⟩] 65)).setRow W.heap.size #[.string x.k, .string x.v]) :=
      ((((Kept.of_below (fun _ => False) (Below.refl W.heap.size W)).alloc _).setRow (fun h => by omega) _).below (Nat.le_refl _) (fun _ _ h => h))
    obtain ⟨sl, a, n, c, hds⟩ := HR.out
    have hw : w.heap.size ≤ W.heap.size := hds.b.size
    refine hK _ _ ⟨hb.size, fun k o _ h _ => (hb.block k (Array.getElem?_eq_some_iff.1 h).1).trans h⟩ (KP.of hb hw) ⟨sl, a, n, c, hds.below hb⟩ ⟨W.heap.size, hds.o.lt, setRow_heap _ _ _ _ _ _ (heap_new rfl), rfl⟩
  case body =>
    rintro l pre x a' W hl ⟨r, hr⟩ ⟨sl, a, n, c, hds⟩ ⟨Bx, hBx, hbx, rfl⟩ hlt
    obtain ⟨es, hes⟩ : ∃ es, es = (pre.foldl diffRound ([], treeL ta)).1 := ⟨_, rfl⟩
    obtain ⟨rest, hrest⟩ : ∃ rest, rest = (pre.foldl diffRound ([], treeL ta)).2 := ⟨_, rfl⟩
    have hlen : es.length + rest.length ≤ (treeL ta).length + pre.length := by have := fold_len pre (treeL ta) []; rw [← hes, ← hrest] at this; simpa using this
    have hplen : pre.length < (treeL tb).length := Nat.lt_of_lt_of_le hlt (by rw [geL_emp]; exact Nat.le_refl _)
    have HLEN : Hid (es.length + rest.length + 1 ≤ 2000000) := Lib.hid (by have := HLA.out; have := HLB.out; omega)
    have HRES : Hid (∀ W3 es3 rest3 sl3 a3 n3 c3, diffRound (es, rest) x = (es3, rest3) → DS w W0 w.heap.size bo es3 rest3 W3 sl3 a3 n3 c3 → KD w.heap.size W W3 → KeepsFrom W0.heap.size W W3 ∧ KP w.heap.size W W3 ∧ DI w W0 w.heap.size bo (treeL ta) (pre ++ [x]) W3) := Lib.hid (by
      intro W3 es3 rest3 sl3 a3 n3 c3 h1 h2 h3
      refine ⟨h3.o.from _, h3.kp, sl3, a3, n3, c3, ?_⟩
      have e : (pre ++ [x]).foldl diffRound ([], treeL ta) = (es3, rest3) := by
        rw [List.foldl_append, List.foldl_cons, List.foldl_nil, ← h1, hes, hrest]
      rw [e]
      exact h2)
    rw [← hes, ← hrest] at hds
    obtain ⟨k, hk⟩ : ∃ k, k = plc rest x.k := ⟨_, rfl⟩
    have HN : Hid (rest.length = n) := Lib.hid hds.ps.1
    have hkn : k ≤ n := by rw [hk, ← hds.ps.1]; exact plc_le _ _
    have HLT : Hid (∀ (j : Nat) (h : j < rest.length), j < k → cmpK rest[j].k x.k < 0) := Lib.hid (fun j h hj => plc_lt rest x.k j h (by rw [← hk]; exact hj))
    have HNL : Hid (∀ h : k < rest.length, ¬ cmpK rest[k].k x.k < 0) := Lib.hid (fun h => by subst hk; exact plc_at rest x.k h)
    have HDR : Hid (diffRound (es, rest) x = (es ++ (rest.take k).map remE ++ (if (rest.drop k).head? = some x then [] else [setE x]), match rest.drop k with | q :: r => if q.k = x.k then r else q :: r | [] => [])) := Lib.hid (by rw [hk]; exact dr_eq es rest x)
    have hnc : n ≤ c := hds.ps.2.2.1
    have hcm : c ≤ 9223372036854775807 := hds.ps.2.2.2.1
    have HXB : Hid (W.heap[Bx]? = some (.cells (kcells x) 65 (0, 0))) := Lib.hid hbx
    have HDS := Lib.hid hds
    have HBO := Lib.hid hBo
    clear hes hrest hlen hplen hlt hds hk hbx hr
    have hF2 := HF.out
    subst hF2
    gi_wp2
    gi_loopw [8] (fun u wr => ∃ j : Nat, u = .int .i64 (j : Int) ∧ j ≤ k ∧ Below W.heap.size W wr) (fun u _ => k + 1 - (intOf u).toNat)
    case atStart => exact ⟨0, rfl, Nat.zero_le _, Below.refl _ _⟩
    case round =>
      obtain ⟨j, rfl, hjk, hbw⟩ := hrel
      have HDW := Lib.hid (HDS.out.below hbw)
      have HXW : Hid (wr.heap[Bx]? = some (.cells (kcells x) 65 (0, 0))) := Lib.hid ((hbw.block _ (Array.getElem?_eq_some_iff.1 HXB.out).1).trans HXB.out)
      have HBW := Lib.hid hbw
      have HWW : Hid (w.heap.size ≤ wr.heap.size) := Lib.hid HDW.out.b.size
      clear hbw
      have HCO : Hid (wr.cell? ⟨bo, 0, none⟩ = some (.slice a n c)) := Lib.hid HDW.out.o.cell
      have HLO : Hid (bo < wr.heap.size) := Lib.hid HDW.out.o.lt
      have HCE : Hid (wr.cell? ⟨w.heap.size, 0, none⟩ = some sl) := Lib.hid HDW.out.e.cell
      have HLE : Hid (w.heap.size < wr.heap.size) := Lib.hid HDW.out.e.lt
      have HCX : Hid (wr.cell? ⟨Bx, 0, none⟩ = some (.string x.k)) := Lib.hid (cell_of_row wr Bx 0 _ _ _ HXW.out)
      have HLX : Hid (Bx < wr.heap.size) := Lib.hid (Array.getElem?_eq_some_iff.1 HXW.out).1
      have hne0 : w.heap.size ≠ bo := by have := HBO.out; omega
      by_cases hjlt : j < k
      · have hjn2 : (j : Int) < (n : Int) := by omega
        have hjl : j < rest.length := by rw [HN.out]; omega
        obtain ⟨b, off, -, hbs, rfl, hcell⟩ := (HDW.out.ps.keepP HDW.out.kp).at (by omega)
        have hr := hcell j hjl
        have HLS : Hid (cmpK (rest[j]'hjl).k x.k < 0) := Lib.hid (HLT.out j hjl hjlt)
        obtain ⟨y, hy⟩ : ∃ y, y = rest[j]'hjl := ⟨_, rfl⟩
        rw [← hy] at hr HLS
        obtain ⟨ob, hob⟩ : ∃ ob, ob = off + j * 2 := ⟨_, rfl⟩
        rw [← hob] at hr
        have hob2 : off + j * 2 = ob := hob.symm
        have HCB : Hid (wr.cell? ⟨b, ob, none⟩ = some (.string y.k)) := Lib.hid (hr 0 _ rfl)
        have HLB : Hid (b < wr.heap.size) := Lib.hid hbs
        have hls : Op.bytesLess y.k.toList x.k.toList = true := by rw [less_cmpK]; simpa using HLS.out
        have hwj : IntKind.i64.wrap ((j : Int) + 1) = (j : Int) + 1 := i64_id _ (by omega) (by omega)
        clear hcell hr hy hob hbs
        gi_wp2
        refine Roll.region_f_r 14 75 Ddf6 Ldf6 [(5, .pointer (some ⟨w.heap.size, 0, none⟩)), (6, .pointer (some ⟨bo, 0, none⟩)), (7, .pointer (some ⟨Bx, 0, none⟩)), (8, .int .i64 (j : Int))] (fun p => Below wr.heap.size wr p) (fun p p2 => Below p.heap.size p p2) [fun vv p => vv = .int .i64 (j : Int), fun vv p => vv = .slice (some ⟨b, off, none⟩) n c, fun vv p => vv = .int .i64 (n : Int), fun vv p => vv = .bool true, fun vv p => vv = .bool true, fun vv p => vv = .slice (some ⟨b, off, none⟩) n c, fun vv p => vv = .int .i64 (j : Int), fun vv p => vv = .pointer (some ⟨b, ob, none⟩), fun vv p => vv = .pointer (some ⟨b, ob, none⟩), fun vv p => vv = .string y.k, fun vv p => vv = .pointer (some ⟨Bx, 0, none⟩), fun vv p => vv = .string x.k, fun vv p => vv = .bool true, fun vv p => vv = .bool true] (by kernel_rfl) (by kernel_rfl) (by rintro ⟨_, _, h⟩; exact h) (by kernel_rfl) rfl ⟨rfl, rfl, rfl, rfl, trivial⟩ ((Below.refl _ _).drew) ?_ ?_ ?_
        · exact ⟨fun _ _ _ _ h => h, fun _ _ _ _ h => h, fun _ _ _ _ h => h, fun _ _ _ _ h => h, fun _ _ _ _ h => h, fun _ _ _ _ h => h, fun _ _ _ _ h => h, fun _ _ _ _ h => h, fun _ _ _ _ h => h, fun _ _ _ _ h => h, fun _ _ _ _ h => h, fun _ _ _ _ h => h, fun _ _ _ _ h => h, fun _ _ _ _ h => h, trivial⟩
        · intro b0 hN hlv
          refine ⟨?_, ?_, ?_, ?_, ?_, ?_, ?_, ?_, ?_, ?_, ?_, ?_, ?_, ?_, trivial⟩
          · intro vs p hI hp
            have e8 : (Roll.putD Ddf6 vs [] b0).eval (.tmp 8) = .int .i64 (j : Int) := (Roll.eval_old rfl).trans (hlv.at 3 (8, .int .i64 (j : Int)) rfl)
            clear hp hlv hN
            unfold Roll.Goes
            simp only [Ldf6, List.getD_cons_zero, List.getD_cons_succ]
            generalize Roll.putD Ddf6 vs [] b0 = a1 at *
            refine Roll.goes_val (w' := p) (.int .i64 (j : Int)) rfl ?_ ⟨hI, Below.refl _ _, rfl⟩
            (have ec : ∀ x, a1.eval (.const x) = x := fun _ => rfl); (have ef : ∀ x, a1.eval (.func x) = .func (.func x) #[] #[] := fun _ => rfl); generalize a1.eval = ρ at *
            skip
            go_simp <;> (intros; first | (exfalso; omega) | rfl | omega)
          · intro vs p hI hp
            have e6 : (Roll.putD Ddf6 vs [] b0).eval (.tmp 6) = .pointer (some ⟨bo, 0, none⟩) := (Roll.eval_old rfl).trans (hlv.at 1 (6, .pointer (some ⟨bo, 0, none⟩)) rfl)
            clear hp hlv hN
            unfold Roll.Goes
            simp only [Ldf6, List.getD_cons_zero, List.getD_cons_succ]
            generalize Roll.putD Ddf6 vs [] b0 = a1 at *
            have cf : p.cell? ⟨bo, 0, none⟩ = some (.slice (some ⟨b, off, none⟩) n c) := (hI.cell (p := ⟨bo, 0, none⟩) HLO.out).trans HCO.out
            refine Roll.goes_val (w' := p) (.slice (some ⟨b, off, none⟩) n c) rfl ?_ ⟨hI, Below.refl _ _, rfl⟩
            (have ec : ∀ x, a1.eval (.const x) = x := fun _ => rfl); (have ef : ∀ x, a1.eval (.func x) = .func (.func x) #[] #[] := fun _ => rfl); generalize a1.eval = ρ at *
            skip
            go_simp <;> (intros; first | (exfalso; omega) | rfl | omega)
          · intro vs p hI hp
            have h1 : (vs 1) = .slice (some ⟨b, off, none⟩) n c := hp 1 (by simp [Ldf6])
            have e15 : (Roll.putD Ddf6 vs [1] b0).eval (.tmp 15) = .slice (some ⟨b, off, none⟩) n c := (Roll.eval_new 1 rfl (by decide) (by decide) (by omega)).trans h1
            clear hp hlv hN
            unfold Roll.Goes
            simp only [Ldf6, List.getD_cons_zero, List.getD_cons_succ]
            generalize Roll.putD Ddf6 vs [1] b0 = a1 at *
            refine Roll.goes_val (w' := p) (.int .i64 (n : Int)) rfl ?_ ⟨hI, Below.refl _ _, rfl⟩
            (have ec : ∀ x, a1.eval (.const x) = x := fun _ => rfl); (have ef : ∀ x, a1.eval (.func x) = .func (.func x) #[] #[] := fun _ => rfl); generalize a1.eval = ρ at *
            clear h1
            go_simp <;> (intros; first | (exfalso; omega) | rfl | omega)
          · intro vs p hI hp
            have h0 : (vs 0) = .int .i64 (j : Int) := hp 0 (by simp [Ldf6])
            have h2 : (vs 2) = .int .i64 (n : Int) := hp 2 (by simp [Ldf6])
            have e14 : (Roll.putD Ddf6 vs [0, 2] b0).eval (.tmp 14) = .int .i64 (j : Int) := (Roll.eval_new 0 rfl (by decide) (by decide) (by omega)).trans h0
            have e16 : (Roll.putD Ddf6 vs [0, 2] b0).eval (.tmp 16) = .int .i64 (n : Int) := (Roll.eval_new 2 rfl (by decide) (by decide) (by omega)).trans h2
            clear hp hlv hN
            unfold Roll.Goes
            simp only [Ldf6, List.getD_cons_zero, List.getD_cons_succ]
            generalize Roll.putD Ddf6 vs [0, 2] b0 = a1 at *
            refine Roll.goes_val (w' := p) (.bool true) rfl ?_ ⟨hI, Below.refl _ _, rfl⟩
            (have ec : ∀ x, a1.eval (.const x) = x := fun _ => rfl); (have ef : ∀ x, a1.eval (.func x) = .func (.func x) #[] #[] := fun _ => rfl); generalize a1.eval = ρ at *
            clear h0 h2
            go_simp <;> (intros; first | (exfalso; omega) | rfl | omega)
          · intro vs p hI hp
            have h3 : (vs 3) = .bool true := hp 3 (by simp [Ldf6])
            have e17 : (Roll.putD Ddf6 vs [3] b0).eval (.tmp 17) = .bool true := (Roll.eval_new 3 rfl (by decide) (by decide) (by omega)).trans h3
            clear hp hlv hN
            unfold Roll.Goes
            simp only [Ldf6, List.getD_cons_zero, List.getD_cons_succ]
            generalize Roll.putD Ddf6 vs [3] b0 = a1 at *
            refine Roll.goes_val (w' := p) (.bool true) rfl ?_ ⟨hI, Below.refl _ _, rfl⟩
            (have ec : ∀ x, a1.eval (.const x) = x := fun _ => rfl); (have ef : ∀ x, a1.eval (.func x) = .func (.func x) #[] #[] := fun _ => rfl); generalize a1.eval = ρ at *
            clear h3
            go_simp <;> (intros; first | (exfalso; omega) | rfl | omega)
          · intro vs p hI hp
            have h4 : (vs 4) = .bool true := hp 4 (by simp [Ldf6])
            have e6 : (Roll.putD Ddf6 vs [4] b0).eval (.tmp 6) = .pointer (some ⟨bo, 0, none⟩) := (Roll.eval_old rfl).trans (hlv.at 1 (6, .pointer (some ⟨bo, 0, none⟩)) rfl)
            clear hp hlv hN
            refine ⟨fun hg => ?_, fun hg => absurd h4 hg⟩
            clear hg
            unfold Roll.Goes
            simp only [Ldf6, List.getD_cons_zero, List.getD_cons_succ]
            generalize Roll.putD Ddf6 vs [4] b0 = a1 at *
            have cf : p.cell? ⟨bo, 0, none⟩ = some (.slice (some ⟨b, off, none⟩) n c) := (hI.cell (p := ⟨bo, 0, none⟩) HLO.out).trans HCO.out
            refine Roll.goes_val (w' := p) (.slice (some ⟨b, off, none⟩) n c) rfl ?_ ⟨hI, Below.refl _ _, rfl⟩
            (have ec : ∀ x, a1.eval (.const x) = x := fun _ => rfl); (have ef : ∀ x, a1.eval (.func x) = .func (.func x) #[] #[] := fun _ => rfl); generalize a1.eval = ρ at *
            clear h4
            go_simp <;> (intros; first | (exfalso; omega) | rfl | omega)
          · intro vs p hI hp
            have h4 : (vs 4) = .bool true := hp 4 (by simp [Ldf6])
            have e8 : (Roll.putD Ddf6 vs [4] b0).eval (.tmp 8) = .int .i64 (j : Int) := (Roll.eval_old rfl).trans (hlv.at 3 (8, .int .i64 (j : Int)) rfl)
            clear hp hlv hN
            refine ⟨fun hg => ?_, fun hg => absurd h4 hg⟩
            clear hg
            unfold Roll.Goes
            simp only [Ldf6, List.getD_cons_zero, List.getD_cons_succ]
            generalize Roll.putD Ddf6 vs [4] b0 = a1 at *
            refine Roll.goes_val (w' := p) (.int .i64 (j : Int)) rfl ?_ ⟨hI, Below.refl _ _, rfl⟩
            (have ec : ∀ x, a1.eval (.const x) = x := fun _ => rfl); (have ef : ∀ x, a1.eval (.func x) = .func (.func x) #[] #[] := fun _ => rfl); generalize a1.eval = ρ at *
            clear h4
            go_simp <;> (intros; first | (exfalso; omega) | rfl | omega)
          · intro vs p hI hp
            have h5 : (vs 5) = .slice (some ⟨b, off, none⟩) n c := hp 5 (by simp [Ldf6])
            have h6 : (vs 6) = .int .i64 (j : Int) := hp 6 (by simp [Ldf6])
            have h4 : (vs 4) = .bool true := hp 4 (by simp [Ldf6])
            have e19 : (Roll.putD Ddf6 vs [5, 6, 4] b0).eval (.tmp 19) = .slice (some ⟨b, off, none⟩) n c := (Roll.eval_new 5 rfl (by decide) (by decide) (by omega)).trans h5
            have e20 : (Roll.putD Ddf6 vs [5, 6, 4] b0).eval (.tmp 20) = .int .i64 (j : Int) := (Roll.eval_new 6 rfl (by decide) (by decide) (by omega)).trans h6
            clear hp hlv hN
            refine ⟨fun hg => ?_, fun hg => absurd h4 hg⟩
            clear hg
            unfold Roll.Goes
            simp only [Ldf6, List.getD_cons_zero, List.getD_cons_succ]
            generalize Roll.putD Ddf6 vs [5, 6, 4] b0 = a1 at *
            refine Roll.goes_val (w' := p) (.pointer (some ⟨b, ob, none⟩)) rfl ?_ ⟨hI, Below.refl _ _, rfl⟩
            (have ec : ∀ x, a1.eval (.const x) = x := fun _ => rfl); (have ef : ∀ x, a1.eval (.func x) = .func (.func x) #[] #[] := fun _ => rfl); generalize a1.eval = ρ at *
            clear h5 h6 h4
            go_simp <;> (intros; first | (exfalso; omega) | rfl | omega)
          · intro vs p hI hp
            have h7 : (vs 7) = .pointer (some ⟨b, ob, none⟩) := hp 7 (by simp [Ldf6])
            have h4 : (vs 4) = .bool true := hp 4 (by simp [Ldf6])
            have e21 : (Roll.putD Ddf6 vs [7, 4] b0).eval (.tmp 21) = .pointer (some ⟨b, ob, none⟩) := (Roll.eval_new 7 rfl (by decide) (by decide) (by omega)).trans h7
            clear hp hlv hN
            refine ⟨fun hg => ?_, fun hg => absurd h4 hg⟩
            clear hg
            unfold Roll.Goes
            simp only [Ldf6, List.getD_cons_zero, List.getD_cons_succ]
            generalize Roll.putD Ddf6 vs [7, 4] b0 = a1 at *
            refine Roll.goes_val (w' := p) (.pointer (some ⟨b, ob, none⟩)) rfl ?_ ⟨hI, Below.refl _ _, rfl⟩
            (have ec : ∀ x, a1.eval (.const x) = x := fun _ => rfl); (have ef : ∀ x, a1.eval (.func x) = .func (.func x) #[] #[] := fun _ => rfl); generalize a1.eval = ρ at *
            clear h7 h4
            go_simp <;> (intros; first | (exfalso; omega) | rfl | omega)
          · intro vs p hI hp
            have h8 : (vs 8) = .pointer (some ⟨b, ob, none⟩) := hp 8 (by simp [Ldf6])
            have h4 : (vs 4) = .bool true := hp 4 (by simp [Ldf6])
            have e22 : (Roll.putD Ddf6 vs [8, 4] b0).eval (.tmp 22) = .pointer (some ⟨b, ob, none⟩) := (Roll.eval_new 8 rfl (by decide) (by decide) (by omega)).trans h8
            clear hp hlv hN
            refine ⟨fun hg => ?_, fun hg => absurd h4 hg⟩
            clear hg
            unfold Roll.Goes
            simp only [Ldf6, List.getD_cons_zero, List.getD_cons_succ]
            generalize Roll.putD Ddf6 vs [8, 4] b0 = a1 at *
            have cf : p.cell? ⟨b, ob, none⟩ = some (.string y.k) := (hI.cell (p := ⟨b, ob, none⟩) HLB.out).trans HCB.out
            refine Roll.goes_val (w' := p) (.string y.k) rfl ?_ ⟨hI, Below.refl _ _, rfl⟩
            (have ec : ∀ x, a1.eval (.const x) = x := fun _ => rfl); (have ef : ∀ x, a1.eval (.func x) = .func (.func x) #[] #[] := fun _ => rfl); generalize a1.eval = ρ at *
            clear h8 h4
            go_simp <;> (intros; first | (exfalso; omega) | rfl | omega)
          · intro vs p hI hp
            have h4 : (vs 4) = .bool true := hp 4 (by simp [Ldf6])
            have e7 : (Roll.putD Ddf6 vs [4] b0).eval (.tmp 7) = .pointer (some ⟨Bx, 0, none⟩) := (Roll.eval_old rfl).trans (hlv.at 2 (7, .pointer (some ⟨Bx, 0, none⟩)) rfl)
            clear hp hlv hN
            refine ⟨fun hg => ?_, fun hg => absurd h4 hg⟩
            clear hg
            unfold Roll.Goes
            simp only [Ldf6, List.getD_cons_zero, List.getD_cons_succ]
            generalize Roll.putD Ddf6 vs [4] b0 = a1 at *
            refine Roll.goes_val (w' := p) (.pointer (some ⟨Bx, 0, none⟩)) rfl ?_ ⟨hI, Below.refl _ _, rfl⟩
            (have ec : ∀ x, a1.eval (.const x) = x := fun _ => rfl); (have ef : ∀ x, a1.eval (.func x) = .func (.func x) #[] #[] := fun _ => rfl); generalize a1.eval = ρ at *
            clear h4
            go_simp <;> (intros; first | (exfalso; omega) | rfl | omega)
          · intro vs p hI hp
            have h10 : (vs 10) = .pointer (some ⟨Bx, 0, none⟩) := hp 10 (by simp [Ldf6])
            have h4 : (vs 4) = .bool true := hp 4 (by simp [Ldf6])
            have e24 : (Roll.putD Ddf6 vs [10, 4] b0).eval (.tmp 24) = .pointer (some ⟨Bx, 0, none⟩) := (Roll.eval_new 10 rfl (by decide) (by decide) (by omega)).trans h10
            clear hp hlv hN
            refine ⟨fun hg => ?_, fun hg => absurd h4 hg⟩
            clear hg
            unfold Roll.Goes
            simp only [Ldf6, List.getD_cons_zero, List.getD_cons_succ]
            generalize Roll.putD Ddf6 vs [10, 4] b0 = a1 at *
            have cf : p.cell? ⟨Bx, 0, none⟩ = some (.string x.k) := (hI.cell (p := ⟨Bx, 0, none⟩) HLX.out).trans HCX.out
            refine Roll.goes_val (w' := p) (.string x.k) rfl ?_ ⟨hI, Below.refl _ _, rfl⟩
            (have ec : ∀ x, a1.eval (.const x) = x := fun _ => rfl); (have ef : ∀ x, a1.eval (.func x) = .func (.func x) #[] #[] := fun _ => rfl); generalize a1.eval = ρ at *
            clear h10 h4
            go_simp <;> (intros; first | (exfalso; omega) | rfl | omega)
          · intro vs p hI hp
            have h9 : (vs 9) = .string y.k := hp 9 (by simp [Ldf6])
            have h11 : (vs 11) = .string x.k := hp 11 (by simp [Ldf6])
            have h4 : (vs 4) = .bool true := hp 4 (by simp [Ldf6])
            have e23 : (Roll.putD Ddf6 vs [9, 11, 4] b0).eval (.tmp 23) = .string y.k := (Roll.eval_new 9 rfl (by decide) (by decide) (by omega)).trans h9
            have e25 : (Roll.putD Ddf6 vs [9, 11, 4] b0).eval (.tmp 25) = .string x.k := (Roll.eval_new 11 rfl (by decide) (by decide) (by omega)).trans h11
            clear hp hlv hN
            refine ⟨fun hg => ?_, fun hg => absurd h4 hg⟩
            clear hg
            unfold Roll.Goes
            simp only [Ldf6, List.getD_cons_zero, List.getD_cons_succ]
            generalize Roll.putD Ddf6 vs [9, 11, 4] b0 = a1 at *
            refine Roll.goes_val (w' := p) (.bool true) rfl ?_ ⟨hI, Below.refl _ _, rfl⟩
            (have ec : ∀ x, a1.eval (.const x) = x := fun _ => rfl); (have ef : ∀ x, a1.eval (.func x) = .func (.func x) #[] #[] := fun _ => rfl); generalize a1.eval = ρ at *
            clear h9 h11 h4
            go_simp <;> (intros; first | (exfalso; omega) | rfl | omega)
          · intro vs p hI hp
            have h4 : (vs 4) = .bool true := hp 4 (by simp [Ldf6])
            have h12 : (vs 12) = .bool true := hp 12 (by simp [Ldf6])
            have e18 : (Roll.putD Ddf6 vs [4, 12] b0).eval (.tmp 18) = .bool true := (Roll.eval_new 4 rfl (by decide) (by decide) (by omega)).trans h4
            have e26 : (Roll.putD Ddf6 vs [4, 12] b0).eval (.tmp 26) = .bool true := (Roll.eval_new 12 rfl (by decide) (by decide) (by omega)).trans h12
            clear hp hlv hN
            unfold Roll.Goes
            simp only [Ldf6, List.getD_cons_zero, List.getD_cons_succ]
            generalize Roll.putD Ddf6 vs [4, 12] b0 = a1 at *
            refine Roll.goes_val (w' := p) (.bool true) rfl ?_ ⟨hI, Below.refl _ _, rfl⟩
            (have ec : ∀ x, a1.eval (.const x) = x := fun _ => rfl); (have ef : ∀ x, a1.eval (.func x) = .func (.func x) #[] #[] := fun _ => rfl); generalize a1.eval = ρ at *
            clear h4 h12
            go_simp <;> (intros; first | (exfalso; omega) | rfl | omega)
        · intro vs p hI hR
          have h0 : (vs 0) = .int .i64 (j : Int) := hR 0 (by omega)
          have h1 : (vs 1) = .slice (some ⟨b, off, none⟩) n c := hR 1 (by omega)
          have h2 : (vs 2) = .int .i64 (n : Int) := hR 2 (by omega)
          have h3 : (vs 3) = .bool true := hR 3 (by omega)
          have h4 : (vs 4) = .bool true := hR 4 (by omega)
          have h5 : (vs 5) = .slice (some ⟨b, off, none⟩) n c := hR 5 (by omega)
          have h6 : (vs 6) = .int .i64 (j : Int) := hR 6 (by omega)
          have h7 : (vs 7) = .pointer (some ⟨b, ob, none⟩) := hR 7 (by omega)
          have h8 : (vs 8) = .pointer (some ⟨b, ob, none⟩) := hR 8 (by omega)
          have h9 : (vs 9) = .string y.k := hR 9 (by omega)
          have h10 : (vs 10) = .pointer (some ⟨Bx, 0, none⟩) := hR 10 (by omega)
          have h11 : (vs 11) = .string x.k := hR 11 (by omega)
          have h12 : (vs 12) = .bool true := hR 12 (by omega)
          have h13 : (vs 13) = .bool true := hR 13 (by omega)
          clear hR
          simp only [List.range_succ, List.range_zero, List.nil_append, List.cons_append, Roll.putD, Act.put, List.getD_cons_zero, List.getD_cons_succ, List.setIfInBounds_toArray, List.set_cons_zero, List.set_cons_succ, List.drop_succ_cons, List.drop_zero, Ddf6]
          simp only [h0, h1, h2, h3, h4, h5, h6, h7, h8, h9, h10, h11, h12, h13]
          clear h0 h1 h2 h3 h4 h5 h6 h7 h8 h9 h10 h11 h12 h13
          have HI := Lib.hid hI
          clear hI
          apply wpList_nil
          gi_step
          gi_step
          gi_wp2
          go_roundw
          case rel => exact ⟨j + 1, by go_num, by omega, HBW.out.trans (HI.out.mono HBW.out.size)⟩
          case measure => (try go_num); (try (simp only [intOf])); omega
      · have ejk : k = j := by omega
        subst ejk
        clear hjk hjlt
        by_cases hkl : k < n
        · have hkn2 : (k : Int) < (n : Int) := by omega
          have hkr : k < rest.length := by rw [HN.out]; omega
          have HDROP0 : Hid (rest.drop k = rest[k] :: rest.drop (k + 1)) := Lib.hid (List.drop_eq_getElem_cons hkr)
          obtain ⟨b, off, -, hbs, rfl, hcell⟩ := (HDW.out.ps.keepP HDW.out.kp).at (by omega)
          have hr := hcell k hkr
          have HLS : Hid (¬ cmpK (rest[k]'hkr).k x.k < 0) := Lib.hid (by have := HNL.out hkr; omega)
          obtain ⟨y, hy⟩ : ∃ y, y = rest[k]'hkr := ⟨_, rfl⟩
          rw [← hy] at hr HLS HDROP0
          obtain ⟨ob, hob⟩ : ∃ ob, ob = off + k * 2 := ⟨_, rfl⟩
          rw [← hob] at hr
          have hob2 : off + k * 2 = ob := hob.symm
          have HRW : Hid (wr.rangeAt b ob y.cells) := Lib.hid hr
          have HCB : Hid (wr.cell? ⟨b, ob, none⟩ = some (.string y.k)) := Lib.hid (hr 0 _ rfl)
          have HLB : Hid (b < wr.heap.size) := Lib.hid hbs
          have hls : Op.bytesLess y.k.toList x.k.toList = false := by rw [less_cmpK]; simpa using HLS.out
          have hkc : (k : Int) ≤ (c : Int) := by omega
          have hkn1 : (k : Int) ≤ (n : Int) := by omega
          have hck : ¬ c = k := by omega
          clear hcell hr hy hob hbs
          gi_wp2
          refine Roll.region_f_r 14 75 Ddf6 Ldf6 [(5, .pointer (some ⟨w.heap.size, 0, none⟩)), (6, .pointer (some ⟨bo, 0, none⟩)), (7, .pointer (some ⟨Bx, 0, none⟩)), (8, .int .i64 (k : Int))] (fun p => Below wr.heap.size wr p) (fun p p2 => Below p.heap.size p p2) [fun vv p => vv = .int .i64 (k : Int), fun vv p => vv = .slice (some ⟨b, off, none⟩) n c, fun vv p => vv = .int .i64 (n : Int), fun vv p => vv = .bool true, fun vv p => vv = .bool true, fun vv p => vv = .slice (some ⟨b, off, none⟩) n c, fun vv p => vv = .int .i64 (k : Int), fun vv p => vv = .pointer (some ⟨b, ob, none⟩), fun vv p => vv = .pointer (some ⟨b, ob, none⟩), fun vv p => vv = .string y.k, fun vv p => vv = .pointer (some ⟨Bx, 0, none⟩), fun vv p => vv = .string x.k, fun vv p => vv = .bool false, fun vv p => vv = .bool false] (by kernel_rfl) (by kernel_rfl) (by rintro ⟨_, _, h⟩; exact h) (by kernel_rfl) rfl ⟨rfl, rfl, rfl, rfl, trivial⟩ ((Below.refl _ _).drew) ?_ ?_ ?_
          · exact ⟨fun _ _ _ _ h => h, fun _ _ _ _ h => h, fun _ _ _ _ h => h, fun _ _ _ _ h => h, fun _ _ _ _ h => h, fun _ _ _ _ h => h, fun _ _ _ _ h => h, fun _ _ _ _ h => h, fun _ _ _ _ h => h, fun _ _ _ _ h => h, fun _ _ _ _ h => h, fun _ _ _ _ h => h, fun _ _ _ _ h => h, fun _ _ _ _ h => h, trivial⟩
          · intro b0 hN hlv
            refine ⟨?_, ?_, ?_, ?_, ?_, ?_, ?_, ?_, ?_, ?_, ?_, ?_, ?_, ?_, trivial⟩
            · intro vs p hI hp
              have e8 : (Roll.putD Ddf6 vs [] b0).eval (.tmp 8) = .int .i64 (k : Int) := (Roll.eval_old rfl).trans (hlv.at 3 (8, .int .i64 (k : Int)) rfl)
              clear hp hlv hN
              unfold Roll.Goes
              simp only [Ldf6, List.getD_cons_zero, List.getD_cons_succ]
              generalize Roll.putD Ddf6 vs [] b0 = a1 at *
              refine Roll.goes_val (w' := p) (.int .i64 (k : Int)) rfl ?_ ⟨hI, Below.refl _ _, rfl⟩
              (have ec : ∀ x, a1.eval (.const x) = x := fun _ => rfl); (have ef : ∀ x, a1.eval (.func x) = .func (.func x) #[] #[] := fun _ => rfl); generalize a1.eval = ρ at *
              skip
              go_simp <;> (intros; first | (exfalso; omega) | rfl | omega)
            · intro vs p hI hp
              have e6 : (Roll.putD Ddf6 vs [] b0).eval (.tmp 6) = .pointer (some ⟨bo, 0, none⟩) := (Roll.eval_old rfl).trans (hlv.at 1 (6, .pointer (some ⟨bo, 0, none⟩)) rfl)
              clear hp hlv hN
              unfold Roll.Goes
              simp only [Ldf6, List.getD_cons_zero, List.getD_cons_succ]
              generalize Roll.putD Ddf6 vs [] b0 = a1 at *
              have cf : p.cell? ⟨bo, 0, none⟩ = some (.slice (some ⟨b, off, none⟩) n c) := (hI.cell (p := ⟨bo, 0, none⟩) HLO.out).trans HCO.out
              refine Roll.goes_val (w' := p) (.slice (some ⟨b, off, none⟩) n c) rfl ?_ ⟨hI, Below.refl _ _, rfl⟩
              (have ec : ∀ x, a1.eval (.const x) = x := fun _ => rfl); (have ef : ∀ x, a1.eval (.func x) = .func (.func x) #[] #[] := fun _ => rfl); generalize a1.eval = ρ at *
              skip
              go_simp <;> (intros; first | (exfalso; omega) | rfl | omega)
            · intro vs p hI hp
              have h1 : (vs 1) = .slice (some ⟨b, off, none⟩) n c := hp 1 (by simp [Ldf6])
              have e15 : (Roll.putD Ddf6 vs [1] b0).eval (.tmp 15) = .slice (some ⟨b, off, none⟩) n c := (Roll.eval_new 1 rfl (by decide) (by decide) (by omega)).trans h1
              clear hp hlv hN
              unfold Roll.Goes
              simp only [Ldf6, List.getD_cons_zero, List.getD_cons_succ]
              generalize Roll.putD Ddf6 vs [1] b0 = a1 at *
              refine Roll.goes_val (w' := p) (.int .i64 (n : Int)) rfl ?_ ⟨hI, Below.refl _ _, rfl⟩
              (have ec : ∀ x, a1.eval (.const x) = x := fun _ => rfl); (have ef : ∀ x, a1.eval (.func x) = .func (.func x) #[] #[] := fun _ => rfl); generalize a1.eval = ρ at *
              clear h1
              go_simp <;> (intros; first | (exfalso; omega) | rfl | omega)
            · intro vs p hI hp
              have h0 : (vs 0) = .int .i64 (k : Int) := hp 0 (by simp [Ldf6])
              have h2 : (vs 2) = .int .i64 (n : Int) := hp 2 (by simp [Ldf6])
              have e14 : (Roll.putD Ddf6 vs [0, 2] b0).eval (.tmp 14) = .int .i64 (k : Int) := (Roll.eval_new 0 rfl (by decide) (by decide) (by omega)).trans h0
              have e16 : (Roll.putD Ddf6 vs [0, 2] b0).eval (.tmp 16) = .int .i64 (n : Int) := (Roll.eval_new 2 rfl (by decide) (by decide) (by omega)).trans h2
              clear hp hlv hN
              unfold Roll.Goes
              simp only [Ldf6, List.getD_cons_zero, List.getD_cons_succ]
              generalize Roll.putD Ddf6 vs [0, 2] b0 = a1 at *
              refine Roll.goes_val (w' := p) (.bool true) rfl ?_ ⟨hI, Below.refl _ _, rfl⟩
              (have ec : ∀ x, a1.eval (.const x) = x := fun _ => rfl); (have ef : ∀ x, a1.eval (.func x) = .func (.func x) #[] #[] := fun _ => rfl); generalize a1.eval = ρ at *
              clear h0 h2
              go_simp <;> (intros; first | (exfalso; omega) | rfl | omega)
            · intro vs p hI hp
              have h3 : (vs 3) = .bool true := hp 3 (by simp [Ldf6])
              have e17 : (Roll.putD Ddf6 vs [3] b0).eval (.tmp 17) = .bool true := (Roll.eval_new 3 rfl (by decide) (by decide) (by omega)).trans h3
              clear hp hlv hN
              unfold Roll.Goes
              simp only [Ldf6, List.getD_cons_zero, List.getD_cons_succ]
              generalize Roll.putD Ddf6 vs [3] b0 = a1 at *
              refine Roll.goes_val (w' := p) (.bool true) rfl ?_ ⟨hI, Below.refl _ _, rfl⟩
              (have ec : ∀ x, a1.eval (.const x) = x := fun _ => rfl); (have ef : ∀ x, a1.eval (.func x) = .func (.func x) #[] #[] := fun _ => rfl); generalize a1.eval = ρ at *
              clear h3
              go_simp <;> (intros; first | (exfalso; omega) | rfl | omega)
            · intro vs p hI hp
              have h4 : (vs 4) = .bool true := hp 4 (by simp [Ldf6])
              have e6 : (Roll.putD Ddf6 vs [4] b0).eval (.tmp 6) = .pointer (some ⟨bo, 0, none⟩) := (Roll.eval_old rfl).trans (hlv.at 1 (6, .pointer (some ⟨bo, 0, none⟩)) rfl)
              clear hp hlv hN
              refine ⟨fun hg => ?_, fun hg => absurd h4 hg⟩
              clear hg
              unfold Roll.Goes
              simp only [Ldf6, List.getD_cons_zero, List.getD_cons_succ]
              generalize Roll.putD Ddf6 vs [4] b0 = a1 at *
              have cf : p.cell? ⟨bo, 0, none⟩ = some (.slice (some ⟨b, off, none⟩) n c) := (hI.cell (p := ⟨bo, 0, none⟩) HLO.out).trans HCO.out
              refine Roll.goes_val (w' := p) (.slice (some ⟨b, off, none⟩) n c) rfl ?_ ⟨hI, Below.refl _ _, rfl⟩
              (have ec : ∀ x, a1.eval (.const x) = x := fun _ => rfl); (have ef : ∀ x, a1.eval (.func x) = .func (.func x) #[] #[] := fun _ => rfl); generalize a1.eval = ρ at *
              clear h4
              go_simp <;> (intros; first | (exfalso; omega) | rfl | omega)
            · intro vs p hI hp
              have h4 : (vs 4) = .bool true := hp 4 (by simp [Ldf6])
              have e8 : (Roll.putD Ddf6 vs [4] b0).eval (.tmp 8) = .int .i64 (k : Int) := (Roll.eval_old rfl).trans (hlv.at 3 (8, .int .i64 (k : Int)) rfl)
              clear hp hlv hN
              refine ⟨fun hg => ?_, fun hg => absurd h4 hg⟩
              clear hg
              unfold Roll.Goes
              simp only [Ldf6, List.getD_cons_zero, List.getD_cons_succ]
              generalize Roll.putD Ddf6 vs [4] b0 = a1 at *
              refine Roll.goes_val (w' := p) (.int .i64 (k : Int)) rfl ?_ ⟨hI, Below.refl _ _, rfl⟩
              (have ec : ∀ x, a1.eval (.const x) = x := fun _ => rfl); (have ef : ∀ x, a1.eval (.func x) = .func (.func x) #[] #[] := fun _ => rfl); generalize a1.eval = ρ at *
              clear h4
              go_simp <;> (intros; first | (exfalso; omega) | rfl | omega)
            · intro vs p hI hp
              have h5 : (vs 5) = .slice (some ⟨b, off, none⟩) n c := hp 5 (by simp [Ldf6])
              have h6 : (vs 6) = .int .i64 (k : Int) := hp 6 (by simp [Ldf6])
              have h4 : (vs 4) = .bool true := hp 4 (by simp [Ldf6])
              have e19 : (Roll.putD Ddf6 vs [5, 6, 4] b0).eval (.tmp 19) = .slice (some ⟨b, off, none⟩) n c := (Roll.eval_new 5 rfl (by decide) (by decide) (by omega)).trans h5
              have e20 : (Roll.putD Ddf6 vs [5, 6, 4] b0).eval (.tmp 20) = .int .i64 (k : Int) := (Roll.eval_new 6 rfl (by decide) (by decide) (by omega)).trans h6
              clear hp hlv hN
              refine ⟨fun hg => ?_, fun hg => absurd h4 hg⟩
              clear hg
              unfold Roll.Goes
              simp only [Ldf6, List.getD_cons_zero, List.getD_cons_succ]
              generalize Roll.putD Ddf6 vs [5, 6, 4] b0 = a1 at *
              refine Roll.goes_val (w' := p) (.pointer (some ⟨b, ob, none⟩)) rfl ?_ ⟨hI, Below.refl _ _, rfl⟩
              (have ec : ∀ x, a1.eval (.const x) = x := fun _ => rfl); (have ef : ∀ x, a1.eval (.func x) = .func (.func x) #[] #[] := fun _ => rfl); generalize a1.eval = ρ at *
              clear h5 h6 h4
              go_simp <;> (intros; first | (exfalso; omega) | rfl | omega)
            · intro vs p hI hp
              have h7 : (vs 7) = .pointer (some ⟨b, ob, none⟩) := hp 7 (by simp [Ldf6])
              have h4 : (vs 4) = .bool true := hp 4 (by simp [Ldf6])
              have e21 : (Roll.putD Ddf6 vs [7, 4] b0).eval (.tmp 21) = .pointer (some ⟨b, ob, none⟩) := (Roll.eval_new 7 rfl (by decide) (by decide) (by omega)).trans h7
              clear hp hlv hN
              refine ⟨fun hg => ?_, fun hg => absurd h4 hg⟩
              clear hg
              unfold Roll.Goes
              simp only [Ldf6, List.getD_cons_zero, List.getD_cons_succ]
              generalize Roll.putD Ddf6 vs [7, 4] b0 = a1 at *
              refine Roll.goes_val (w' := p) (.pointer (some ⟨b, ob, none⟩)) rfl ?_ ⟨hI, Below.refl _ _, rfl⟩
              (have ec : ∀ x, a1.eval (.const x) = x := fun _ => rfl); (have ef : ∀ x, a1.eval (.func x) = .func (.func x) #[] #[] := fun _ => rfl); generalize a1.eval = ρ at *
              clear h7 h4
              go_simp <;> (intros; first | (exfalso; omega) | rfl | omega)
            · intro vs p hI hp
              have h8 : (vs 8) = .pointer (some ⟨b, ob, none⟩) := hp 8 (by simp [Ldf6])
              have h4 : (vs 4) = .bool true := hp 4 (by simp [Ldf6])
              have e22 : (Roll.putD Ddf6 vs [8, 4] b0).eval (.tmp 22) = .pointer (some ⟨b, ob, none⟩) := (Roll.eval_new 8 rfl (by decide) (by decide) (by omega)).trans h8
              clear hp hlv hN
              refine ⟨fun hg => ?_, fun hg => absurd h4 hg⟩
              clear hg
              unfold Roll.Goes
              simp only [Ldf6, List.getD_cons_zero, List.getD_cons_succ]
              generalize Roll.putD Ddf6 vs [8, 4] b0 = a1 at *
              have cf : p.cell? ⟨b, ob, none⟩ = some (.string y.k) := (hI.cell (p := ⟨b, ob, none⟩) HLB.out).trans HCB.out
              refine Roll.goes_val (w' := p) (.string y.k) rfl ?_ ⟨hI, Below.refl _ _, rfl⟩
              (have ec : ∀ x, a1.eval (.const x) = x := fun _ => rfl); (have ef : ∀ x, a1.eval (.func x) = .func (.func x) #[] #[] := fun _ => rfl); generalize a1.eval = ρ at *
              clear h8 h4
              go_simp <;> (intros; first | (exfalso; omega) | rfl | omega)
            · intro vs p hI hp
              have h4 : (vs 4) = .bool true := hp 4 (by simp [Ldf6])
              have e7 : (Roll.putD Ddf6 vs [4] b0).eval (.tmp 7) = .pointer (some ⟨Bx, 0, none⟩) := (Roll.eval_old rfl).trans (hlv.at 2 (7, .pointer (some ⟨Bx, 0, none⟩)) rfl)
              clear hp hlv hN
              refine ⟨fun hg => ?_, fun hg => absurd h4 hg⟩
              clear hg
              unfold Roll.Goes
              simp only [Ldf6, List.getD_cons_zero, List.getD_cons_succ]
              generalize Roll.putD Ddf6 vs [4] b0 = a1 at *
              refine Roll.goes_val (w' := p) (.pointer (some ⟨Bx, 0, none⟩)) rfl ?_ ⟨hI, Below.refl _ _, rfl⟩
              (have ec : ∀ x, a1.eval (.const x) = x := fun _ => rfl); (have ef : ∀ x, a1.eval (.func x) = .func (.func x) #[] #[] := fun _ => rfl); generalize a1.eval = ρ at *
              clear h4
              go_simp <;> (intros; first | (exfalso; omega) | rfl | omega)
            · intro vs p hI hp
              have h10 : (vs 10) = .pointer (some ⟨Bx, 0, none⟩) := hp 10 (by simp [Ldf6])
              have h4 : (vs 4) = .bool true := hp 4 (by simp [Ldf6])
              have e24 : (Roll.putD Ddf6 vs [10, 4] b0).eval (.tmp 24) = .pointer (some ⟨Bx, 0, none⟩) := (Roll.eval_new 10 rfl (by decide) (by decide) (by omega)).trans h10
              clear hp hlv hN
              refine ⟨fun hg => ?_, fun hg => absurd h4 hg⟩
              clear hg
              unfold Roll.Goes
              simp only [Ldf6, List.getD_cons_zero, List.getD_cons_succ]
              generalize Roll.putD Ddf6 vs [10, 4] b0 = a1 at *
              have cf : p.cell? ⟨Bx, 0, none⟩ = some (.string x.k) := (hI.cell (p := ⟨Bx, 0, none⟩) HLX.out).trans HCX.out
              refine Roll.goes_val (w' := p) (.string x.k) rfl ?_ ⟨hI, Below.refl _ _, rfl⟩
              (have ec : ∀ x, a1.eval (.const x) = x := fun _ => rfl); (have ef : ∀ x, a1.eval (.func x) = .func (.func x) #[] #[] := fun _ => rfl); generalize a1.eval = ρ at *
              clear h10 h4
              go_simp <;> (intros; first | (exfalso; omega) | rfl | omega)
            · intro vs p hI hp
              have h9 : (vs 9) = .string y.k := hp 9 (by simp [Ldf6])
              have h11 : (vs 11) = .string x.k := hp 11 (by simp [Ldf6])
              have h4 : (vs 4) = .bool true := hp 4 (by simp [Ldf6])
              have e23 : (Roll.putD Ddf6 vs [9, 11, 4] b0).eval (.tmp 23) = .string y.k := (Roll.eval_new 9 rfl (by decide) (by decide) (by omega)).trans h9
              have e25 : (Roll.putD Ddf6 vs [9, 11, 4] b0).eval (.tmp 25) = .string x.k := (Roll.eval_new 11 rfl (by decide) (by decide) (by omega)).trans h11
              clear hp hlv hN
              refine ⟨fun hg => ?_, fun hg => absurd h4 hg⟩
              clear hg
              unfold Roll.Goes
              simp only [Ldf6, List.getD_cons_zero, List.getD_cons_succ]
              generalize Roll.putD Ddf6 vs [9, 11, 4] b0 = a1 at *
              refine Roll.goes_val (w' := p) (.bool false) rfl ?_ ⟨hI, Below.refl _ _, rfl⟩
              (have ec : ∀ x, a1.eval (.const x) = x := fun _ => rfl); (have ef : ∀ x, a1.eval (.func x) = .func (.func x) #[] #[] := fun _ => rfl); generalize a1.eval = ρ at *
              clear h9 h11 h4
              go_simp <;> (intros; first | (exfalso; omega) | rfl | omega)
            · intro vs p hI hp
              have h4 : (vs 4) = .bool true := hp 4 (by simp [Ldf6])
              have h12 : (vs 12) = .bool false := hp 12 (by simp [Ldf6])
              have e18 : (Roll.putD Ddf6 vs [4, 12] b0).eval (.tmp 18) = .bool true := (Roll.eval_new 4 rfl (by decide) (by decide) (by omega)).trans h4
              have e26 : (Roll.putD Ddf6 vs [4, 12] b0).eval (.tmp 26) = .bool false := (Roll.eval_new 12 rfl (by decide) (by decide) (by omega)).trans h12
              clear hp hlv hN
              unfold Roll.Goes
              simp only [Ldf6, List.getD_cons_zero, List.getD_cons_succ]
              generalize Roll.putD Ddf6 vs [4, 12] b0 = a1 at *
              refine Roll.goes_val (w' := p) (.bool false) rfl ?_ ⟨hI, Below.refl _ _, rfl⟩
              (have ec : ∀ x, a1.eval (.const x) = x := fun _ => rfl); (have ef : ∀ x, a1.eval (.func x) = .func (.func x) #[] #[] := fun _ => rfl); generalize a1.eval = ρ at *
              clear h4 h12
              go_simp <;> (intros; first | (exfalso; omega) | rfl | omega)
          · intro vs p hI hR
            have h0 : (vs 0) = .int .i64 (k : Int) := hR 0 (by omega)
            have h1 : (vs 1) = .slice (some ⟨b, off, none⟩) n c := hR 1 (by omega)
            have h2 : (vs 2) = .int .i64 (n : Int) := hR 2 (by omega)
            have h3 : (vs 3) = .bool true := hR 3 (by omega)
            have h4 : (vs 4) = .bool true := hR 4 (by omega)
            have h5 : (vs 5) = .slice (some ⟨b, off, none⟩) n c := hR 5 (by omega)
            have h6 : (vs 6) = .int .i64 (k : Int) := hR 6 (by omega)
            have h7 : (vs 7) = .pointer (some ⟨b, ob, none⟩) := hR 7 (by omega)
            have h8 : (vs 8) = .pointer (some ⟨b, ob, none⟩) := hR 8 (by omega)
            have h9 : (vs 9) = .string y.k := hR 9 (by omega)
            have h10 : (vs 10) = .pointer (some ⟨Bx, 0, none⟩) := hR 10 (by omega)
            have h11 : (vs 11) = .string x.k := hR 11 (by omega)
            have h12 : (vs 12) = .bool false := hR 12 (by omega)
            have h13 : (vs 13) = .bool false := hR 13 (by omega)
            clear hR
            simp only [List.range_succ, List.range_zero, List.nil_append, List.cons_append, Roll.putD, Act.put, List.getD_cons_zero, List.getD_cons_succ, List.setIfInBounds_toArray, List.set_cons_zero, List.set_cons_succ, List.drop_succ_cons, List.drop_zero, Ddf6]
            simp only [h0, h1, h2, h3, h4, h5, h6, h7, h8, h9, h10, h11, h12, h13]
            clear h0 h1 h2 h3 h4 h5 h6 h7 h8 h9 h10 h11 h12 h13
            obtain ⟨p6, hp6⟩ : ∃ z, z = p := ⟨_, rfl⟩
            subst hp6
            have HD6 := Lib.hid (HDW.out.below hI)
            have HX6 : Hid (p6.heap[Bx]? = some (.cells (kcells x) 65 (0, 0))) := Lib.hid ((hI.block _ HLX.out).trans HXW.out)
            have HB6 : Hid (Below W.heap.size W p6) := Lib.hid (HBW.out.trans (hI.mono HBW.out.size))
            have HR6 : Hid (p6.rangeAt b ob y.cells) := Lib.hid (range_below HRW.out (by simp [KV.cells]) hI)
            clear hI HCO HLO HCX HLX HCB HLB HRW HXW HDW HCE HLE HBW HWW
            apply wpList_nil
            gi_step
            gi_step
            gi_wp2
            have HCO : Hid (p6.cell? ⟨bo, 0, none⟩ = some (.slice (some ⟨b, off, none⟩) n c)) := Lib.hid HD6.out.o.cell
            have HLO : Hid (bo < p6.heap.size) := Lib.hid HD6.out.o.lt
            have HCE : Hid (p6.cell? ⟨w.heap.size, 0, none⟩ = some sl) := Lib.hid HD6.out.e.cell
            have HLE : Hid (w.heap.size < p6.heap.size) := Lib.hid HD6.out.e.lt
            have HCX : Hid (p6.cell? ⟨Bx, 0, none⟩ = some (.string x.k)) := Lib.hid (cell_of_row p6 Bx 0 _ _ _ HX6.out)
            have HLX : Hid (Bx < p6.heap.size) := Lib.hid (Array.getElem?_eq_some_iff.1 HX6.out).1
            have HPU : Hid (Ps (DP W0) p6 (some ⟨b, off, none⟩) k c (rest.take k)) := Lib.hid ((HD6.out.ps.keepP HD6.out.kp).upto k hkn)
            have HKB : Hid (k ≤ 1000000000) := Lib.hid (by have := HLEN.out; have := HN.out; omega)
            have HNE : Hid (¬ sl.ownBlock = some w.heap.size) := Lib.hid (fun e => HD6.out.e.not_row (by decide) HD6.out.row e.symm)
            have HNO : Hid (¬ sl.ownBlock = some bo) := Lib.hid (fun e => HD6.out.o.not_row (by decide) HD6.out.row e.symm)
            have HOW := Lib.hid (Own.ofRow HD6.out.row)
            have HB8 : Hid (es.length + k ≤ maxLen ∧ (es.length + k) * 40 ≤ 140737488355328) := Lib.hid (by have := HLEN.out; have := HN.out; unfold maxLen; exact ⟨by omega, by omega⟩)
            refine Roll.region_v_r 6 75 Ddf8 Ldf8 [(5, .pointer (some ⟨w.heap.size, 0, none⟩)), (6, .pointer (some ⟨bo, 0, none⟩)), (7, .pointer (some ⟨Bx, 0, none⟩)), (8, .int .i64 (k : Int))] 5 [true, true, true, true, false, false] (fun p => Below p6.heap.size p6 p) (fun vv p => ∃ p8 k', Below p6.heap.size p6 p8 ∧ Own p 61 3 k' vv (es.length + k) (ecells es ++ (ecells ((rest.take k).map remE))) ∧ (∀ j, k' = some j → sl.ownBlock = some j ∨ p6.heap.size ≤ j) ∧ Kept (fun j => sl.ownBlock = some j) p8 p) (fun p => Kept (fun j => sl.ownBlock = some j) p6 p) (fun p p2 => Kept (fun j => sl.ownBlock = some j) p p2) [fun vv p => (vv 0) = sl, fun vv p => (vv 1) = .slice (some ⟨b, off, none⟩) n c, fun vv p => (vv 2) = .int .i64 (k : Int), fun vv p => (vv 3) = .slice (some ⟨b, off, none⟩) k c, fun vv p => ∃ k4, Own p 61 3 k4 (vv 4) k (ecells ((rest.take k).map remE)) ∧ ∀ j, k4 = some j → p6.heap.size ≤ j, fun vv p => True] (by kernel_rfl) (by kernel_rfl) (by rintro ⟨_, _, h⟩; exact h) (by kernel_rfl) rfl ⟨rfl, rfl, rfl, rfl, trivial⟩ ((Below.refl _ _).drew) (by decide) (by kernel_rfl) (fun _ h => Kept.of_below _ h) (fun _ _ h => by obtain ⟨_, _, h1, _, _, h4⟩ := h; exact (Kept.of_below _ h1).trans h4 (fun _ _ h => h)) (fun _ => Kept.refl _ _) ?_ ?_ ?_
            · exact ⟨fun _ _ _ _ h => h, fun _ _ _ _ h => h, fun _ _ _ _ h => h, fun _ _ _ _ h => h, fun _ _ _ hs h => by obtain ⟨k4, e1, e2⟩ := h; exact ⟨k4, e1.kept hs (fun j hj e => by have := HOW.out.1.lt j e; have := e2 j hj; omega), e2⟩, fun _ _ _ _ h => h, trivial⟩
            · intro b0 hN hlv
              refine ⟨?_, ?_, ?_, ?_, ?_, ?_, trivial⟩
              · intro vs p hI0 hp
                have hI := Roll.inw_pure (by decide) rfl hI0
                clear hI0
                have e5 : (Roll.putD Ddf8 vs [] b0).eval (.tmp 5) = .pointer (some ⟨w.heap.size, 0, none⟩) := (Roll.eval_old rfl).trans (hlv.at 0 (5, .pointer (some ⟨w.heap.size, 0, none⟩)) rfl)
                clear hp hlv hN
                unfold Roll.Goes
                simp only [Ldf8, List.getD_cons_zero, List.getD_cons_succ]
                generalize Roll.putD Ddf8 vs [] b0 = a1 at *
                have cf : p.cell? ⟨w.heap.size, 0, none⟩ = some (sl) := (hI.cell (p := ⟨w.heap.size, 0, none⟩) HLE.out HNE.out).trans HCE.out
                refine Roll.goes_val (w' := p) (sl) rfl ?_ ⟨(Roll.outw_pure (by decide) rfl), rfl⟩
                (have ec : ∀ x, a1.eval (.const x) = x := fun _ => rfl); (have ef : ∀ x, a1.eval (.func x) = .func (.func x) #[] #[] := fun _ => rfl); generalize a1.eval = ρ at *
                skip
                go_simp <;> (intros; first | (exfalso; omega) | rfl)
              · intro vs p hI0 hp
                have hI := Roll.inw_pure (by decide) rfl hI0
                clear hI0
                have e6 : (Roll.putD Ddf8 vs [] b0).eval (.tmp 6) = .pointer (some ⟨bo, 0, none⟩) := (Roll.eval_old rfl).trans (hlv.at 1 (6, .pointer (some ⟨bo, 0, none⟩)) rfl)
                clear hp hlv hN
                unfold Roll.Goes
                simp only [Ldf8, List.getD_cons_zero, List.getD_cons_succ]
                generalize Roll.putD Ddf8 vs [] b0 = a1 at *
                have cf : p.cell? ⟨bo, 0, none⟩ = some (.slice (some ⟨b, off, none⟩) n c) := (hI.cell (p := ⟨bo, 0, none⟩) HLO.out HNO.out).trans HCO.out
                refine Roll.goes_val (w' := p) (.slice (some ⟨b, off, none⟩) n c) rfl ?_ ⟨(Roll.outw_pure (by decide) rfl), rfl⟩
                (have ec : ∀ x, a1.eval (.const x) = x := fun _ => rfl); (have ef : ∀ x, a1.eval (.func x) = .func (.func x) #[] #[] := fun _ => rfl); generalize a1.eval = ρ at *
                skip
                go_simp <;> (intros; first | (exfalso; omega) | rfl)
              · intro vs p hI0 hp
                have hI := Roll.inw_pure (by decide) rfl hI0
                clear hI0
                have e8 : (Roll.putD Ddf8 vs [] b0).eval (.tmp 8) = .int .i64 (k : Int) := (Roll.eval_old rfl).trans (hlv.at 3 (8, .int .i64 (k : Int)) rfl)
                clear hp hlv hN
                unfold Roll.Goes
                simp only [Ldf8, List.getD_cons_zero, List.getD_cons_succ]
                generalize Roll.putD Ddf8 vs [] b0 = a1 at *
                refine Roll.goes_val (w' := p) (.int .i64 (k : Int)) rfl ?_ ⟨(Roll.outw_pure (by decide) rfl), rfl⟩
                (have ec : ∀ x, a1.eval (.const x) = x := fun _ => rfl); (have ef : ∀ x, a1.eval (.func x) = .func (.func x) #[] #[] := fun _ => rfl); generalize a1.eval = ρ at *
                skip
                go_simp <;> (intros; first | (exfalso; omega) | rfl)
              · intro vs p hI0 hp
                have hI := Roll.inw_pure (by decide) rfl hI0
                clear hI0
                have h1 : (vs 1) = .slice (some ⟨b, off, none⟩) n c := hp 1 (by simp [Ldf8])
                have h2 : (vs 2) = .int .i64 (k : Int) := hp 2 (by simp [Ldf8])
                have e31 : (Roll.putD Ddf8 vs [1, 2] b0).eval (.tmp 31) = .slice (some ⟨b, off, none⟩) n c := (Roll.eval_new 1 rfl (by decide) (by decide) (by omega)).trans h1
                have e32 : (Roll.putD Ddf8 vs [1, 2] b0).eval (.tmp 32) = .int .i64 (k : Int) := (Roll.eval_new 2 rfl (by decide) (by decide) (by omega)).trans h2
                clear hp hlv hN
                unfold Roll.Goes
                simp only [Ldf8, List.getD_cons_zero, List.getD_cons_succ]
                generalize Roll.putD Ddf8 vs [1, 2] b0 = a1 at *
                refine Roll.goes_val (w' := p) (.slice (some ⟨b, off, none⟩) k c) rfl ?_ ⟨(Roll.outw_pure (by decide) rfl), rfl⟩
                (have ec : ∀ x, a1.eval (.const x) = x := fun _ => rfl); (have ef : ∀ x, a1.eval (.func x) = .func (.func x) #[] #[] := fun _ => rfl); generalize a1.eval = ρ at *
                clear h1 h2
                go_simp <;> (intros; first | (exfalso; omega) | rfl)
              · intro vs p hI0 hp
                have hI := Roll.inw_pre (by decide) rfl hI0
                clear hI0
                have h3 : (vs 3) = .slice (some ⟨b, off, none⟩) k c := hp 3 (by simp [Ldf8])
                have e33 : (Roll.putD Ddf8 vs [3] b0).eval (.tmp 33) = .slice (some ⟨b, off, none⟩) k c := (Roll.eval_new 3 rfl (by decide) (by decide) (by omega)).trans h3
                clear hp hlv hN
                unfold Roll.Goes
                simp only [Ldf8, List.getD_cons_zero, List.getD_cons_succ]
                generalize Roll.putD Ddf8 vs [3] b0 = a1 at *
                refine Roll.goes_call 58 #[.slice (some ⟨b, off, none⟩) k c] p rfl (by have ec : ∀ x, a1.eval (.const x) = x := fun _ => rfl; have ef : ∀ x, a1.eval (.func x) = .func (.func x) #[] #[] := fun _ => rfl; generalize a1.eval = ρ at *; go_simp) ?_
                refine (removals_any ((HPU.out).below hI) HKB.out).mono ?_
                rintro z p2 ⟨v, rfl, hrow, hb2⟩
                obtain ⟨ho, hbj⟩ := Own.ofRow hrow
                exact ⟨_, rfl, Roll.outw_pre (by decide) rfl (hI.trans (hb2.mono hI.size)) (Kept.of_below _ hb2), _, ho, fun j hj => Nat.le_trans hI.size (hbj j hj)⟩
              · intro vs p hI0 hp
                have hI := Roll.inw_k0 rfl hI0
                clear hI0
                have h0 : (vs 0) = sl := hp 0 (by simp [Ldf8])
                have h4 : ∃ k4, Own p 61 3 k4 (vs 4) k (ecells ((rest.take k).map remE)) ∧ ∀ j, k4 = some j → p6.heap.size ≤ j := hp 4 (by simp [Ldf8])
                have e30 : (Roll.putD Ddf8 vs [0, 4] b0).eval (.tmp 30) = sl := (Roll.eval_new 0 rfl (by decide) (by decide) (by omega)).trans h0
                have e34 : (Roll.putD Ddf8 vs [0, 4] b0).eval (.tmp 34) = vs 4 := (Roll.eval_new 4 rfl (by decide) (by decide) (by omega))
                clear hp hlv hN
                unfold Roll.Goes
                simp only [Ldf8, List.getD_cons_zero, List.getD_cons_succ]
                generalize Roll.putD Ddf8 vs [0, 4] b0 = a1 at *
                obtain ⟨k4, ho4, hb4⟩ := h4
                obtain ⟨a4, c4, hv4, hsl4⟩ := ho4.sl
                refine wpList_append_any _ rfl (.tmp 30) (.tmp 34) _ _ rfl 61 i0 _ 3 40 Try.underlying56 hi hz0 hz1 hz2 rfl sl.ownBlock sl es.length (ecells es) e30 (HOW.out.1.kept (Kept.of_below (fun _ => False) hI) (fun _ _ h => h)) k (ecells ((rest.take k).map remE)) (by rw [e34, hv4]; exact hsl4.src Try.underlying56 (ecells_cell _)) HB8.out.1 HB8.out.2 ?_
                intro k' v' w' ho' hf' hK' _
                exact ⟨v', rfl, Roll.outw_k0 rfl ⟨_, k', hI, ho', fun j hj => (hf' j hj).imp id (fun e => Nat.le_trans hI.size e), hK'⟩ hK', trivial⟩
            · intro vs p hI hR
              have h0 : (vs 0) = sl := hR 0 (by omega)
              have h1 : (vs 1) = .slice (some ⟨b, off, none⟩) n c := hR 1 (by omega)
              have h2 : (vs 2) = .int .i64 (k : Int) := hR 2 (by omega)
              have h3 : (vs 3) = .slice (some ⟨b, off, none⟩) k c := hR 3 (by omega)
              have h4 : ∃ k4, Own p 61 3 k4 (vs 4) k (ecells ((rest.take k).map remE)) ∧ ∀ j, k4 = some j → p6.heap.size ≤ j := hR 4 (by omega)
              have h5 : True := hR 5 (by omega)
              clear hR
              simp only [List.range_succ, List.range_zero, List.nil_append, List.cons_append, Roll.putD, Act.put, List.getD_cons_zero, List.getD_cons_succ, List.setIfInBounds_toArray, List.set_cons_zero, List.set_cons_succ, List.drop_succ_cons, List.drop_zero, Ddf8]
              simp only [h0, h1, h2, h3]
              clear h0 h1 h2 h3
              clear h4 h5 HPU HKB HB8 HCO HLO HCE HLE HCX HNE HNO
              generalize vs 4 = v4 at *
              generalize vs 5 = v5 at *
              obtain ⟨p8, k', hb8, ho', hf', hK'⟩ := hI
              obtain ⟨a3, c3, rfl, -⟩ := id ho'.sl
              obtain ⟨es1, hes1⟩ : ∃ es1, es1 = es ++ (rest.take k).map remE := ⟨_, rfl⟩
              have hl1 : es1.length = es.length + k := by rw [hes1, List.length_append, List.length_map, List.length_take]; have := HN.out; omega
              have hown : p.ownsRow w.heap.size 61 3 (.slice a3 (es.length + k) c3) es1.length (ecells es1) := by
                have h := Own.owns (base := w.heap.size) ho' (fun j hj => by
                  rcases hf' j hj with h | h
                  · exact HOW.out.2 j h
                  · have := HD6.out.b.size; omega)
                rw [hl1, hes1, ecells_app]
                exact h
              obtain ⟨ee, hda, hka⟩ := DS.app HD6.out hne0 (Nat.le_refl _) hb8 hK' hown
              have ce := ee.cell
              have fe := ee.frozen
              have HDA := Lib.hid hda
              have HKA := Lib.hid ((KD.of_below HB6.out HDS.out.b.size).trans hka)
              have HES1 := Lib.hid hes1
              have HL1 : Hid (es1.length + rest.length + 1 ≤ 4000000) := Lib.hid (by have := HLEN.out; have := HN.out; omega)
              clear ee hda hka hown hes1 hl1 ho' hf' hK' hb8 HOW
              go_wp2_with fail
              clear ce fe
              obtain ⟨Wb, hWb⟩ : ∃ Wb, Wb = p.setCell ⟨w.heap.size, 0, none⟩ (.slice a3 (es.length + k) c3) := ⟨_, rfl⟩
              rw [← hWb] at HDA HKA ⊢
              clear hWb
              have hcc := HDA.out.o.cell
              have hff := HDA.out.o.frozen
              gi_wp2
              clear hcc hff
              have hp9 := HDA.out.ps.fromK k hkn
              rw [if_neg hck] at hp9
              have HP9 : Hid (Ps (DP W0) W0 (some ⟨b, ob, none⟩) (n - k) (c - k) (rest.drop k)) := Lib.hid (by rw [← hob2]; exact hp9)
              clear hp9
              obtain ⟨r1, hr1⟩ : ∃ r1, r1 = rest.drop (k + 1) := ⟨_, rfl⟩
              have HDR1 : Hid (diffRound (es, rest) x = (es1 ++ (if y = x then [] else [setE x]), if y.k = x.k then r1 else y :: r1)) := Lib.hid (by
                rw [HDR.out, HDROP0.out, HES1.out, hr1]
                simp only [List.head?_cons, Option.some.injEq])
              rw [HDROP0.out, ← hr1] at HP9
              obtain ⟨hd9, hk9⟩ := HDA.out.setO hne0 (Nat.le_of_lt HBO.out) HP9.out (fun ad h => by cases h; rfl)
              obtain ⟨n2, hn2⟩ : ∃ n2, n2 = n - k := ⟨_, rfl⟩
              obtain ⟨c2, hc2⟩ : ∃ c2, c2 = c - k := ⟨_, rfl⟩
              have hn2p : 0 < n2 := by omega
              have hn2c : n2 ≤ c2 := by omega
              have hc2m : c2 ≤ 9223372036854775807 := by omega
              rw [← hn2, ← hc2] at hd9 hk9 ⊢
              clear hn2 hc2 hcm hnc hkc hkn1 hck hkn2 hkl hkr hob2 hkn hr1 hls
              obtain ⟨W9, hW9⟩ : ∃ W9, W9 = Wb.setCell ⟨bo, 0, none⟩ (.slice (some ⟨b, ob, none⟩) n2 c2) := ⟨_, rfl⟩
              rw [← hW9] at hd9 hk9 ⊢
              clear hW9
              have HD9 := Lib.hid hd9
              have HK9 := Lib.hid (HKA.out.trans hk9)
              have HX9 : Hid (W9.heap[Bx]? = some (.cells (kcells x) 65 (0, 0))) := Lib.hid (HK9.out.p _ _ HXB.out)
              have hn2a : ¬ (n2 : Int) = 0 := by omega
              have hn2b : (0 : Int) < (n2 : Int) := by omega
              clear hd9 hk9 HP9 HDA HKA
              by_cases hyk : y.k = x.k
              · by_cases hyv : y.v = x.v
                · have HDR2 : Hid (diffRound (es, rest) x = (es1, r1)) := Lib.hid (by rw [HDR1.out, if_pos (KV.ext' hyk hyv), if_pos hyk, List.append_nil])
                  have hyk1 : y.k.toList = x.k.toList := by rw [hyk]
                  have hyk2 : (y.k.toList == x.k.toList) = true := by rw [str_beq]; simpa using hyk
                  clear hyk
                  have hyv1 : y.v.toList = x.v.toList := by rw [hyv]
                  have hyv2 : (y.v.toList == x.v.toList) = true := by rw [str_beq]; simpa using hyv
                  clear hyv
                  have HCO : Hid (W9.cell? ⟨bo, 0, none⟩ = some (.slice (some ⟨b, ob, none⟩) n2 c2)) := Lib.hid HD9.out.o.cell
                  have HLO : Hid (bo < W9.heap.size) := Lib.hid HD9.out.o.lt
                  have HCX : Hid (W9.cell? ⟨Bx, 0, none⟩ = some (.string x.k)) := Lib.hid (cell_of_row W9 Bx 0 _ _ _ HX9.out)
                  have HLX : Hid (Bx < W9.heap.size) := Lib.hid (Array.getElem?_eq_some_iff.1 HX9.out).1
                  have HRX : Hid (W9.rangeAt Bx 0 x.cells) := Lib.hid (range_kv HX9.out)
                  have HRB : Hid (W9.rangeAt b ob y.cells) := Lib.hid HD9.out.head.1
                  have HLB : Hid (b < W9.heap.size) := Lib.hid HD9.out.head.2
                  have HCB : Hid (W9.cell? ⟨b, ob, none⟩ = some (.string y.k)) := Lib.hid (HRB.out 0 _ rfl)
                  refine Roll.region_f_r 10 75 Ddf10 Ldf10 [(5, .pointer (some ⟨w.heap.size, 0, none⟩)), (6, .pointer (some ⟨bo, 0, none⟩)), (7, .pointer (some ⟨Bx, 0, none⟩))] (fun p => Below W9.heap.size W9 p) (fun p p2 => Below p.heap.size p p2) [fun vv p => vv = .slice (some ⟨b, ob, none⟩) n2 c2, fun vv p => vv = .int .i64 (n2 : Int), fun vv p => vv = .bool false, fun vv p => vv = .bool false, fun vv p => vv = .slice (some ⟨b, ob, none⟩) n2 c2, fun vv p => vv = .pointer (some ⟨b, ob, none⟩), fun vv p => vv = .agg #[.string y.k, .string y.v], fun vv p => vv = .agg #[.string x.k, .string x.v], fun vv p => vv = .bool false, fun vv p => vv = .bool false] (by kernel_rfl) (by kernel_rfl) (by rintro ⟨_, _, h⟩; exact h) (by kernel_rfl) rfl ⟨rfl, rfl, rfl, trivial⟩ ((Below.refl _ _).drew) ?_ ?_ ?_
                  · exact ⟨fun _ _ _ _ h => h, fun _ _ _ _ h => h, fun _ _ _ _ h => h, fun _ _ _ _ h => h, fun _ _ _ _ h => h, fun _ _ _ _ h => h, fun _ _ _ _ h => h, fun _ _ _ _ h => h, fun _ _ _ _ h => h, fun _ _ _ _ h => h, trivial⟩
                  · intro b0 hN hlv
                    refine ⟨?_, ?_, ?_, ?_, ?_, ?_, ?_, ?_, ?_, ?_, trivial⟩
                    · intro vs p hI hp
                      have e6 : (Roll.putD Ddf10 vs [] b0).eval (.tmp 6) = .pointer (some ⟨bo, 0, none⟩) := (Roll.eval_old rfl).trans (hlv.at 1 (6, .pointer (some ⟨bo, 0, none⟩)) rfl)
                      clear hp hlv hN
                      unfold Roll.Goes
                      simp only [Ldf10, List.getD_cons_zero, List.getD_cons_succ]
                      generalize Roll.putD Ddf10 vs [] b0 = a1 at *
                      have cf : p.cell? ⟨bo, 0, none⟩ = some (.slice (some ⟨b, ob, none⟩) n2 c2) := (hI.cell (p := ⟨bo, 0, none⟩) HLO.out).trans HCO.out
                      refine Roll.goes_val (w' := p) (.slice (some ⟨b, ob, none⟩) n2 c2) rfl ?_ ⟨hI, Below.refl _ _, rfl⟩
                      (have ec : ∀ x, a1.eval (.const x) = x := fun _ => rfl); (have ef : ∀ x, a1.eval (.func x) = .func (.func x) #[] #[] := fun _ => rfl); generalize a1.eval = ρ at *
                      skip
                      go_simp <;> (intros; first | (exfalso; omega) | rfl | omega)
                    · intro vs p hI hp
                      have h0 : (vs 0) = .slice (some ⟨b, ob, none⟩) n2 c2 := hp 0 (by simp [Ldf10])
                      have e39 : (Roll.putD Ddf10 vs [0] b0).eval (.tmp 39) = .slice (some ⟨b, ob, none⟩) n2 c2 := (Roll.eval_new 0 rfl (by decide) (by decide) (by omega)).trans h0
                      clear hp hlv hN
                      unfold Roll.Goes
                      simp only [Ldf10, List.getD_cons_zero, List.getD_cons_succ]
                      generalize Roll.putD Ddf10 vs [0] b0 = a1 at *
                      refine Roll.goes_val (w' := p) (.int .i64 (n2 : Int)) rfl ?_ ⟨hI, Below.refl _ _, rfl⟩
                      (have ec : ∀ x, a1.eval (.const x) = x := fun _ => rfl); (have ef : ∀ x, a1.eval (.func x) = .func (.func x) #[] #[] := fun _ => rfl); generalize a1.eval = ρ at *
                      clear h0
                      go_simp <;> (intros; first | (exfalso; omega) | rfl | omega)
                    · intro vs p hI hp
                      have h1 : (vs 1) = .int .i64 (n2 : Int) := hp 1 (by simp [Ldf10])
                      have e40 : (Roll.putD Ddf10 vs [1] b0).eval (.tmp 40) = .int .i64 (n2 : Int) := (Roll.eval_new 1 rfl (by decide) (by decide) (by omega)).trans h1
                      clear hp hlv hN
                      unfold Roll.Goes
                      simp only [Ldf10, List.getD_cons_zero, List.getD_cons_succ]
                      generalize Roll.putD Ddf10 vs [1] b0 = a1 at *
                      refine Roll.goes_val (w' := p) (.bool false) rfl ?_ ⟨hI, Below.refl _ _, rfl⟩
                      (have ec : ∀ x, a1.eval (.const x) = x := fun _ => rfl); (have ef : ∀ x, a1.eval (.func x) = .func (.func x) #[] #[] := fun _ => rfl); generalize a1.eval = ρ at *
                      clear h1
                      go_simp <;> (intros; first | (exfalso; omega) | rfl | omega)
                    · intro vs p hI hp
                      have h2 : (vs 2) = .bool false := hp 2 (by simp [Ldf10])
                      have e41 : (Roll.putD Ddf10 vs [2] b0).eval (.tmp 41) = .bool false := (Roll.eval_new 2 rfl (by decide) (by decide) (by omega)).trans h2
                      clear hp hlv hN
                      unfold Roll.Goes
                      simp only [Ldf10, List.getD_cons_zero, List.getD_cons_succ]
                      generalize Roll.putD Ddf10 vs [2] b0 = a1 at *
                      refine Roll.goes_val (w' := p) (.bool false) rfl ?_ ⟨hI, Below.refl _ _, rfl⟩
                      (have ec : ∀ x, a1.eval (.const x) = x := fun _ => rfl); (have ef : ∀ x, a1.eval (.func x) = .func (.func x) #[] #[] := fun _ => rfl); generalize a1.eval = ρ at *
                      clear h2
                      go_simp <;> (intros; first | (exfalso; omega) | rfl | omega)
                    · intro vs p hI hp
                      have h3 : (vs 3) = .bool false := hp 3 (by simp [Ldf10])
                      have e6 : (Roll.putD Ddf10 vs [3] b0).eval (.tmp 6) = .pointer (some ⟨bo, 0, none⟩) := (Roll.eval_old rfl).trans (hlv.at 1 (6, .pointer (some ⟨bo, 0, none⟩)) rfl)
                      clear hp hlv hN
                      refine ⟨fun hg => ?_, fun hg => absurd h3 hg⟩
                      clear hg
                      unfold Roll.Goes
                      simp only [Ldf10, List.getD_cons_zero, List.getD_cons_succ]
                      generalize Roll.putD Ddf10 vs [3] b0 = a1 at *
                      have cf : p.cell? ⟨bo, 0, none⟩ = some (.slice (some ⟨b, ob, none⟩) n2 c2) := (hI.cell (p := ⟨bo, 0, none⟩) HLO.out).trans HCO.out
                      refine Roll.goes_val (w' := p) (.slice (some ⟨b, ob, none⟩) n2 c2) rfl ?_ ⟨hI, Below.refl _ _, rfl⟩
                      (have ec : ∀ x, a1.eval (.const x) = x := fun _ => rfl); (have ef : ∀ x, a1.eval (.func x) = .func (.func x) #[] #[] := fun _ => rfl); generalize a1.eval = ρ at *
                      clear h3
                      go_simp <;> (intros; first | (exfalso; omega) | rfl | omega)
                    · intro vs p hI hp
                      have h4 : (vs 4) = .slice (some ⟨b, ob, none⟩) n2 c2 := hp 4 (by simp [Ldf10])
                      have h3 : (vs 3) = .bool false := hp 3 (by simp [Ldf10])
                      have e43 : (Roll.putD Ddf10 vs [4, 3] b0).eval (.tmp 43) = .slice (some ⟨b, ob, none⟩) n2 c2 := (Roll.eval_new 4 rfl (by decide) (by decide) (by omega)).trans h4
                      clear hp hlv hN
                      refine ⟨fun hg => ?_, fun hg => absurd h3 hg⟩
                      clear hg
                      unfold Roll.Goes
                      simp only [Ldf10, List.getD_cons_zero, List.getD_cons_succ]
                      generalize Roll.putD Ddf10 vs [4, 3] b0 = a1 at *
                      refine Roll.goes_val (w' := p) (.pointer (some ⟨b, ob, none⟩)) rfl ?_ ⟨hI, Below.refl _ _, rfl⟩
                      (have ec : ∀ x, a1.eval (.const x) = x := fun _ => rfl); (have ef : ∀ x, a1.eval (.func x) = .func (.func x) #[] #[] := fun _ => rfl); generalize a1.eval = ρ at *
                      clear h4 h3
                      go_simp <;> (intros; first | (exfalso; omega) | rfl | omega)
                    · intro vs p hI hp
                      have h5 : (vs 5) = .pointer (some ⟨b, ob, none⟩) := hp 5 (by simp [Ldf10])
                      have h3 : (vs 3) = .bool false := hp 3 (by simp [Ldf10])
                      have e44 : (Roll.putD Ddf10 vs [5, 3] b0).eval (.tmp 44) = .pointer (some ⟨b, ob, none⟩) := (Roll.eval_new 5 rfl (by decide) (by decide) (by omega)).trans h5
                      clear hp hlv hN
                      refine ⟨fun hg => ?_, fun hg => absurd h3 hg⟩
                      clear hg
                      unfold Roll.Goes
                      simp only [Ldf10, List.getD_cons_zero, List.getD_cons_succ]
                      generalize Roll.putD Ddf10 vs [5, 3] b0 = a1 at *
                      have ld0 := run_loadPair (range_below HRB.out (by simp [KV.cells]) hI)
                      refine Roll.goes_val (w' := p) (.agg #[.string y.k, .string y.v]) rfl ?_ ⟨hI, Below.refl _ _, rfl⟩
                      (have ec : ∀ x, a1.eval (.const x) = x := fun _ => rfl); (have ef : ∀ x, a1.eval (.func x) = .func (.func x) #[] #[] := fun _ => rfl); generalize a1.eval = ρ at *
                      clear h5 h3
                      go_simp <;> (intros; first | (exfalso; omega) | rfl | omega)
                    · intro vs p hI hp
                      have h3 : (vs 3) = .bool false := hp 3 (by simp [Ldf10])
                      have e7 : (Roll.putD Ddf10 vs [3] b0).eval (.tmp 7) = .pointer (some ⟨Bx, 0, none⟩) := (Roll.eval_old rfl).trans (hlv.at 2 (7, .pointer (some ⟨Bx, 0, none⟩)) rfl)
                      clear hp hlv hN
                      refine ⟨fun hg => ?_, fun hg => absurd h3 hg⟩
                      clear hg
                      unfold Roll.Goes
                      simp only [Ldf10, List.getD_cons_zero, List.getD_cons_succ]
                      generalize Roll.putD Ddf10 vs [3] b0 = a1 at *
                      have ld0 := run_loadPair (range_below HRX.out (by simp [KV.cells]) hI)
                      refine Roll.goes_val (w' := p) (.agg #[.string x.k, .string x.v]) rfl ?_ ⟨hI, Below.refl _ _, rfl⟩
                      (have ec : ∀ x, a1.eval (.const x) = x := fun _ => rfl); (have ef : ∀ x, a1.eval (.func x) = .func (.func x) #[] #[] := fun _ => rfl); generalize a1.eval = ρ at *
                      clear h3
                      go_simp <;> (intros; first | (exfalso; omega) | rfl | omega)
                    · intro vs p hI hp
                      have h6 : (vs 6) = .agg #[.string y.k, .string y.v] := hp 6 (by simp [Ldf10])
                      have h7 : (vs 7) = .agg #[.string x.k, .string x.v] := hp 7 (by simp [Ldf10])
                      have h3 : (vs 3) = .bool false := hp 3 (by simp [Ldf10])
                      have e45 : (Roll.putD Ddf10 vs [6, 7, 3] b0).eval (.tmp 45) = .agg #[.string y.k, .string y.v] := (Roll.eval_new 6 rfl (by decide) (by decide) (by omega)).trans h6
                      have e46 : (Roll.putD Ddf10 vs [6, 7, 3] b0).eval (.tmp 46) = .agg #[.string x.k, .string x.v] := (Roll.eval_new 7 rfl (by decide) (by decide) (by omega)).trans h7
                      clear hp hlv hN
                      refine ⟨fun hg => ?_, fun hg => absurd h3 hg⟩
                      clear hg
                      unfold Roll.Goes
                      simp only [Ldf10, List.getD_cons_zero, List.getD_cons_succ]
                      generalize Roll.putD Ddf10 vs [6, 7, 3] b0 = a1 at *
                      refine Roll.goes_val (w' := p) (.bool false) rfl ?_ ⟨hI, Below.refl _ _, rfl⟩
                      (have ec : ∀ x, a1.eval (.const x) = x := fun _ => rfl); (have ef : ∀ x, a1.eval (.func x) = .func (.func x) #[] #[] := fun _ => rfl); generalize a1.eval = ρ at *
                      clear h6 h7 h3
                      go_simp <;> (intros; first | (exfalso; omega) | rfl | omega)
                    · intro vs p hI hp
                      have h3 : (vs 3) = .bool false := hp 3 (by simp [Ldf10])
                      have h8 : (vs 8) = .bool false := hp 8 (by simp [Ldf10])
                      have e42 : (Roll.putD Ddf10 vs [3, 8] b0).eval (.tmp 42) = .bool false := (Roll.eval_new 3 rfl (by decide) (by decide) (by omega)).trans h3
                      have e47 : (Roll.putD Ddf10 vs [3, 8] b0).eval (.tmp 47) = .bool false := (Roll.eval_new 8 rfl (by decide) (by decide) (by omega)).trans h8
                      clear hp hlv hN
                      unfold Roll.Goes
                      simp only [Ldf10, List.getD_cons_zero, List.getD_cons_succ]
                      generalize Roll.putD Ddf10 vs [3, 8] b0 = a1 at *
                      refine Roll.goes_val (w' := p) (.bool false) rfl ?_ ⟨hI, Below.refl _ _, rfl⟩
                      (have ec : ∀ x, a1.eval (.const x) = x := fun _ => rfl); (have ef : ∀ x, a1.eval (.func x) = .func (.func x) #[] #[] := fun _ => rfl); generalize a1.eval = ρ at *
                      clear h3 h8
                      go_simp <;> (intros; first | (exfalso; omega) | rfl | omega)
                  · intro vs p hI hR
                    have h0 : (vs 0) = .slice (some ⟨b, ob, none⟩) n2 c2 := hR 0 (by omega)
                    have h1 : (vs 1) = .int .i64 (n2 : Int) := hR 1 (by omega)
                    have h2 : (vs 2) = .bool false := hR 2 (by omega)
                    have h3 : (vs 3) = .bool false := hR 3 (by omega)
                    have h4 : (vs 4) = .slice (some ⟨b, ob, none⟩) n2 c2 := hR 4 (by omega)
                    have h5 : (vs 5) = .pointer (some ⟨b, ob, none⟩) := hR 5 (by omega)
                    have h6 : (vs 6) = .agg #[.string y.k, .string y.v] := hR 6 (by omega)
                    have h7 : (vs 7) = .agg #[.string x.k, .string x.v] := hR 7 (by omega)
                    have h8 : (vs 8) = .bool false := hR 8 (by omega)
                    have h9 : (vs 9) = .bool false := hR 9 (by omega)
                    clear hR
                    simp only [List.range_succ, List.range_zero, List.nil_append, List.cons_append, Roll.putD, Act.put, List.getD_cons_zero, List.getD_cons_succ, List.setIfInBounds_toArray, List.set_cons_zero, List.set_cons_succ, List.drop_succ_cons, List.drop_zero, Ddf10]
                    simp only [h0, h1, h2, h3, h4, h5, h6, h7, h8, h9]
                    clear h0 h1 h2 h3 h4 h5 h6 h7 h8 h9
                    obtain ⟨p10, hp10⟩ : ∃ z, z = p := ⟨_, rfl⟩
                    subst hp10
                    have HD10 := Lib.hid (HD9.out.below hI)
                    have HK10 := Lib.hid (HK9.out.trans (KD.of_below hI HD9.out.b.size))
                    have HX10 : Hid (p10.heap[Bx]? = some (.cells (kcells x) 65 (0, 0))) := Lib.hid (HK10.out.p _ _ HXB.out)
                    clear hI HCO HLO HCX HLX
                    apply wpList_nil
                    gi_step
                    gi_step
                    gi_wp2
                    have HD11 := HD10
                    have HK11 := HK10
                    have HCO : Hid (p10.cell? ⟨bo, 0, none⟩ = some (.slice (some ⟨b, ob, none⟩) n2 c2)) := Lib.hid HD11.out.o.cell
                    have HLO : Hid (bo < p10.heap.size) := Lib.hid HD11.out.o.lt
                    have HCX : Hid (p10.cell? ⟨Bx, 0, none⟩ = some (.string x.k)) := Lib.hid (cell_of_row p10 Bx 0 _ _ _ HX10.out)
                    have HLX : Hid (Bx < p10.heap.size) := Lib.hid (Array.getElem?_eq_some_iff.1 HX10.out).1
                    have HRB : Hid (p10.rangeAt b ob y.cells) := Lib.hid HD11.out.head.1
                    have HLB : Hid (b < p10.heap.size) := Lib.hid HD11.out.head.2
                    have HCB : Hid (p10.cell? ⟨b, ob, none⟩ = some (.string y.k)) := Lib.hid (HRB.out 0 _ rfl)
                    refine Roll.region_f_r 12 75 Ddf12 Ldf12 [(5, .pointer (some ⟨w.heap.size, 0, none⟩)), (6, .pointer (some ⟨bo, 0, none⟩)), (7, .pointer (some ⟨Bx, 0, none⟩))] (fun p => Below p10.heap.size p10 p) (fun p p2 => Below p.heap.size p p2) [fun vv p => vv = .slice (some ⟨b, ob, none⟩) n2 c2, fun vv p => vv = .int .i64 (n2 : Int), fun vv p => vv = .bool true, fun vv p => vv = .bool true, fun vv p => vv = .slice (some ⟨b, ob, none⟩) n2 c2, fun vv p => vv = .pointer (some ⟨b, ob, none⟩), fun vv p => vv = .pointer (some ⟨b, ob, none⟩), fun vv p => vv = .string y.k, fun vv p => vv = .pointer (some ⟨Bx, 0, none⟩), fun vv p => vv = .string x.k, fun vv p => vv = .bool true, fun vv p => vv = .bool true] (by kernel_rfl) (by kernel_rfl) (by rintro ⟨_, _, h⟩; exact h) (by kernel_rfl) rfl ⟨rfl, rfl, rfl, trivial⟩ ((Below.refl _ _).drew) ?_ ?_ ?_
                    · exact ⟨fun _ _ _ _ h => h, fun _ _ _ _ h => h, fun _ _ _ _ h => h, fun _ _ _ _ h => h, fun _ _ _ _ h => h, fun _ _ _ _ h => h, fun _ _ _ _ h => h, fun _ _ _ _ h => h, fun _ _ _ _ h => h, fun _ _ _ _ h => h, fun _ _ _ _ h => h, fun _ _ _ _ h => h, trivial⟩
                    · intro b0 hN hlv
                      refine ⟨?_, ?_, ?_, ?_, ?_, ?_, ?_, ?_, ?_, ?_, ?_, ?_, trivial⟩
                      · intro vs p hI hp
                        have e6 : (Roll.putD Ddf12 vs [] b0).eval (.tmp 6) = .pointer (some ⟨bo, 0, none⟩) := (Roll.eval_old rfl).trans (hlv.at 1 (6, .pointer (some ⟨bo, 0, none⟩)) rfl)
                        clear hp hlv hN
                        unfold Roll.Goes
                        simp only [Ldf12, List.getD_cons_zero, List.getD_cons_succ]
                        generalize Roll.putD Ddf12 vs [] b0 = a1 at *
                        have cf : p.cell? ⟨bo, 0, none⟩ = some (.slice (some ⟨b, ob, none⟩) n2 c2) := (hI.cell (p := ⟨bo, 0, none⟩) HLO.out).trans HCO.out
                        refine Roll.goes_val (w' := p) (.slice (some ⟨b, ob, none⟩) n2 c2) rfl ?_ ⟨hI, Below.refl _ _, rfl⟩
                        (have ec : ∀ x, a1.eval (.const x) = x := fun _ => rfl); (have ef : ∀ x, a1.eval (.func x) = .func (.func x) #[] #[] := fun _ => rfl); generalize a1.eval = ρ at *
                        skip
                        go_simp <;> (intros; first | (exfalso; omega) | rfl | omega)
                      · intro vs p hI hp
                        have h0 : (vs 0) = .slice (some ⟨b, ob, none⟩) n2 c2 := hp 0 (by simp [Ldf12])
                        have e57 : (Roll.putD Ddf12 vs [0] b0).eval (.tmp 57) = .slice (some ⟨b, ob, none⟩) n2 c2 := (Roll.eval_new 0 rfl (by decide) (by decide) (by omega)).trans h0
                        clear hp hlv hN
                        unfold Roll.Goes
                        simp only [Ldf12, List.getD_cons_zero, List.getD_cons_succ]
                        generalize Roll.putD Ddf12 vs [0] b0 = a1 at *
                        refine Roll.goes_val (w' := p) (.int .i64 (n2 : Int)) rfl ?_ ⟨hI, Below.refl _ _, rfl⟩
                        (have ec : ∀ x, a1.eval (.const x) = x := fun _ => rfl); (have ef : ∀ x, a1.eval (.func x) = .func (.func x) #[] #[] := fun _ => rfl); generalize a1.eval = ρ at *
                        clear h0
                        go_simp <;> (intros; first | (exfalso; omega) | rfl | omega)
                      · intro vs p hI hp
                        have h1 : (vs 1) = .int .i64 (n2 : Int) := hp 1 (by simp [Ldf12])
                        have e58 : (Roll.putD Ddf12 vs [1] b0).eval (.tmp 58) = .int .i64 (n2 : Int) := (Roll.eval_new 1 rfl (by decide) (by decide) (by omega)).trans h1
                        clear hp hlv hN
                        unfold Roll.Goes
                        simp only [Ldf12, List.getD_cons_zero, List.getD_cons_succ]
                        generalize Roll.putD Ddf12 vs [1] b0 = a1 at *
                        refine Roll.goes_val (w' := p) (.bool true) rfl ?_ ⟨hI, Below.refl _ _, rfl⟩
                        (have ec : ∀ x, a1.eval (.const x) = x := fun _ => rfl); (have ef : ∀ x, a1.eval (.func x) = .func (.func x) #[] #[] := fun _ => rfl); generalize a1.eval = ρ at *
                        clear h1
                        go_simp <;> (intros; first | (exfalso; omega) | rfl | omega)
                      · intro vs p hI hp
                        have h2 : (vs 2) = .bool true := hp 2 (by simp [Ldf12])
                        have e59 : (Roll.putD Ddf12 vs [2] b0).eval (.tmp 59) = .bool true := (Roll.eval_new 2 rfl (by decide) (by decide) (by omega)).trans h2
                        clear hp hlv hN
                        unfold Roll.Goes
                        simp only [Ldf12, List.getD_cons_zero, List.getD_cons_succ]
                        generalize Roll.putD Ddf12 vs [2] b0 = a1 at *
                        refine Roll.goes_val (w' := p) (.bool true) rfl ?_ ⟨hI, Below.refl _ _, rfl⟩
                        (have ec : ∀ x, a1.eval (.const x) = x := fun _ => rfl); (have ef : ∀ x, a1.eval (.func x) = .func (.func x) #[] #[] := fun _ => rfl); generalize a1.eval = ρ at *
                        clear h2
                        go_simp <;> (intros; first | (exfalso; omega) | rfl | omega)
                      · intro vs p hI hp
                        have h3 : (vs 3) = .bool true := hp 3 (by simp [Ldf12])
                        have e6 : (Roll.putD Ddf12 vs [3] b0).eval (.tmp 6) = .pointer (some ⟨bo, 0, none⟩) := (Roll.eval_old rfl).trans (hlv.at 1 (6, .pointer (some ⟨bo, 0, none⟩)) rfl)
                        clear hp hlv hN
                        refine ⟨fun hg => ?_, fun hg => absurd h3 hg⟩
                        clear hg
                        unfold Roll.Goes
                        simp only [Ldf12, List.getD_cons_zero, List.getD_cons_succ]
                        generalize Roll.putD Ddf12 vs [3] b0 = a1 at *
                        have cf : p.cell? ⟨bo, 0, none⟩ = some (.slice (some ⟨b, ob, none⟩) n2 c2) := (hI.cell (p := ⟨bo, 0, none⟩) HLO.out).trans HCO.out
                        refine Roll.goes_val (w' := p) (.slice (some ⟨b, ob, none⟩) n2 c2) rfl ?_ ⟨hI, Below.refl _ _, rfl⟩
                        (have ec : ∀ x, a1.eval (.const x) = x := fun _ => rfl); (have ef : ∀ x, a1.eval (.func x) = .func (.func x) #[] #[] := fun _ => rfl); generalize a1.eval = ρ at *
                        clear h3
                        go_simp <;> (intros; first | (exfalso; omega) | rfl | omega)
                      · intro vs p hI hp
                        have h4 : (vs 4) = .slice (some ⟨b, ob, none⟩) n2 c2 := hp 4 (by simp [Ldf12])
                        have h3 : (vs 3) = .bool true := hp 3 (by simp [Ldf12])
                        have e61 : (Roll.putD Ddf12 vs [4, 3] b0).eval (.tmp 61) = .slice (some ⟨b, ob, none⟩) n2 c2 := (Roll.eval_new 4 rfl (by decide) (by decide) (by omega)).trans h4
                        clear hp hlv hN
                        refine ⟨fun hg => ?_, fun hg => absurd h3 hg⟩
                        clear hg
                        unfold Roll.Goes
                        simp only [Ldf12, List.getD_cons_zero, List.getD_cons_succ]
                        generalize Roll.putD Ddf12 vs [4, 3] b0 = a1 at *
                        refine Roll.goes_val (w' := p) (.pointer (some ⟨b, ob, none⟩)) rfl ?_ ⟨hI, Below.refl _ _, rfl⟩
                        (have ec : ∀ x, a1.eval (.const x) = x := fun _ => rfl); (have ef : ∀ x, a1.eval (.func x) = .func (.func x) #[] #[] := fun _ => rfl); generalize a1.eval = ρ at *
                        clear h4 h3
                        go_simp <;> (intros; first | (exfalso; omega) | rfl | omega)
                      · intro vs p hI hp
                        have h5 : (vs 5) = .pointer (some ⟨b, ob, none⟩) := hp 5 (by simp [Ldf12])
                        have h3 : (vs 3) = .bool true := hp 3 (by simp [Ldf12])
                        have e62 : (Roll.putD Ddf12 vs [5, 3] b0).eval (.tmp 62) = .pointer (some ⟨b, ob, none⟩) := (Roll.eval_new 5 rfl (by decide) (by decide) (by omega)).trans h5
                        clear hp hlv hN
                        refine ⟨fun hg => ?_, fun hg => absurd h3 hg⟩
                        clear hg
                        unfold Roll.Goes
                        simp only [Ldf12, List.getD_cons_zero, List.getD_cons_succ]
                        generalize Roll.putD Ddf12 vs [5, 3] b0 = a1 at *
                        refine Roll.goes_val (w' := p) (.pointer (some ⟨b, ob, none⟩)) rfl ?_ ⟨hI, Below.refl _ _, rfl⟩
                        (have ec : ∀ x, a1.eval (.const x) = x := fun _ => rfl); (have ef : ∀ x, a1.eval (.func x) = .func (.func x) #[] #[] := fun _ => rfl); generalize a1.eval = ρ at *
                        clear h5 h3
                        go_simp <;> (intros; first | (exfalso; omega) | rfl | omega)
                      · intro vs p hI hp
                        have h6 : (vs 6) = .pointer (some ⟨b, ob, none⟩) := hp 6 (by simp [Ldf12])
                        have h3 : (vs 3) = .bool true := hp 3 (by simp [Ldf12])
                        have e63 : (Roll.putD Ddf12 vs [6, 3] b0).eval (.tmp 63) = .pointer (some ⟨b, ob, none⟩) := (Roll.eval_new 6 rfl (by decide) (by decide) (by omega)).trans h6
                        clear hp hlv hN
                        refine ⟨fun hg => ?_, fun hg => absurd h3 hg⟩
                        clear hg
                        unfold Roll.Goes
                        simp only [Ldf12, List.getD_cons_zero, List.getD_cons_succ]
                        generalize Roll.putD Ddf12 vs [6, 3] b0 = a1 at *
                        have cf : p.cell? ⟨b, ob, none⟩ = some (.string y.k) := (hI.cell (p := ⟨b, ob, none⟩) HLB.out).trans HCB.out
                        refine Roll.goes_val (w' := p) (.string y.k) rfl ?_ ⟨hI, Below.refl _ _, rfl⟩
                        (have ec : ∀ x, a1.eval (.const x) = x := fun _ => rfl); (have ef : ∀ x, a1.eval (.func x) = .func (.func x) #[] #[] := fun _ => rfl); generalize a1.eval = ρ at *
                        clear h6 h3
                        go_simp <;> (intros; first | (exfalso; omega) | rfl | omega)
                      · intro vs p hI hp
                        have h3 : (vs 3) = .bool true := hp 3 (by simp [Ldf12])
                        have e7 : (Roll.putD Ddf12 vs [3] b0).eval (.tmp 7) = .pointer (some ⟨Bx, 0, none⟩) := (Roll.eval_old rfl).trans (hlv.at 2 (7, .pointer (some ⟨Bx, 0, none⟩)) rfl)
                        clear hp hlv hN
                        refine ⟨fun hg => ?_, fun hg => absurd h3 hg⟩
                        clear hg
                        unfold Roll.Goes
                        simp only [Ldf12, List.getD_cons_zero, List.getD_cons_succ]
                        generalize Roll.putD Ddf12 vs [3] b0 = a1 at *
                        refine Roll.goes_val (w' := p) (.pointer (some ⟨Bx, 0, none⟩)) rfl ?_ ⟨hI, Below.refl _ _, rfl⟩
                        (have ec : ∀ x, a1.eval (.const x) = x := fun _ => rfl); (have ef : ∀ x, a1.eval (.func x) = .func (.func x) #[] #[] := fun _ => rfl); generalize a1.eval = ρ at *
                        clear h3
                        go_simp <;> (intros; first | (exfalso; omega) | rfl | omega)
                      · intro vs p hI hp
                        have h8 : (vs 8) = .pointer (some ⟨Bx, 0, none⟩) := hp 8 (by simp [Ldf12])
                        have h3 : (vs 3) = .bool true := hp 3 (by simp [Ldf12])
                        have e65 : (Roll.putD Ddf12 vs [8, 3] b0).eval (.tmp 65) = .pointer (some ⟨Bx, 0, none⟩) := (Roll.eval_new 8 rfl (by decide) (by decide) (by omega)).trans h8
                        clear hp hlv hN
                        refine ⟨fun hg => ?_, fun hg => absurd h3 hg⟩
                        clear hg
                        unfold Roll.Goes
                        simp only [Ldf12, List.getD_cons_zero, List.getD_cons_succ]
                        generalize Roll.putD Ddf12 vs [8, 3] b0 = a1 at *
                        have cf : p.cell? ⟨Bx, 0, none⟩ = some (.string x.k) := (hI.cell (p := ⟨Bx, 0, none⟩) HLX.out).trans HCX.out
                        refine Roll.goes_val (w' := p) (.string x.k) rfl ?_ ⟨hI, Below.refl _ _, rfl⟩
                        (have ec : ∀ x, a1.eval (.const x) = x := fun _ => rfl); (have ef : ∀ x, a1.eval (.func x) = .func (.func x) #[] #[] := fun _ => rfl); generalize a1.eval = ρ at *
                        clear h8 h3
                        go_simp <;> (intros; first | (exfalso; omega) | rfl | omega)
                      · intro vs p hI hp
                        have h7 : (vs 7) = .string y.k := hp 7 (by simp [Ldf12])
                        have h9 : (vs 9) = .string x.k := hp 9 (by simp [Ldf12])
                        have h3 : (vs 3) = .bool true := hp 3 (by simp [Ldf12])
                        have e64 : (Roll.putD Ddf12 vs [7, 9, 3] b0).eval (.tmp 64) = .string y.k := (Roll.eval_new 7 rfl (by decide) (by decide) (by omega)).trans h7
                        have e66 : (Roll.putD Ddf12 vs [7, 9, 3] b0).eval (.tmp 66) = .string x.k := (Roll.eval_new 9 rfl (by decide) (by decide) (by omega)).trans h9
                        clear hp hlv hN
                        refine ⟨fun hg => ?_, fun hg => absurd h3 hg⟩
                        clear hg
                        unfold Roll.Goes
                        simp only [Ldf12, List.getD_cons_zero, List.getD_cons_succ]
                        generalize Roll.putD Ddf12 vs [7, 9, 3] b0 = a1 at *
                        refine Roll.goes_val (w' := p) (.bool true) rfl ?_ ⟨hI, Below.refl _ _, rfl⟩
                        (have ec : ∀ x, a1.eval (.const x) = x := fun _ => rfl); (have ef : ∀ x, a1.eval (.func x) = .func (.func x) #[] #[] := fun _ => rfl); generalize a1.eval = ρ at *
                        clear h7 h9 h3
                        go_simp <;> (intros; first | (exfalso; omega) | rfl | omega)
                      · intro vs p hI hp
                        have h3 : (vs 3) = .bool true := hp 3 (by simp [Ldf12])
                        have h10 : (vs 10) = .bool true := hp 10 (by simp [Ldf12])
                        have e60 : (Roll.putD Ddf12 vs [3, 10] b0).eval (.tmp 60) = .bool true := (Roll.eval_new 3 rfl (by decide) (by decide) (by omega)).trans h3
                        have e67 : (Roll.putD Ddf12 vs [3, 10] b0).eval (.tmp 67) = .bool true := (Roll.eval_new 10 rfl (by decide) (by decide) (by omega)).trans h10
                        clear hp hlv hN
                        unfold Roll.Goes
                        simp only [Ldf12, List.getD_cons_zero, List.getD_cons_succ]
                        generalize Roll.putD Ddf12 vs [3, 10] b0 = a1 at *
                        refine Roll.goes_val (w' := p) (.bool true) rfl ?_ ⟨hI, Below.refl _ _, rfl⟩
                        (have ec : ∀ x, a1.eval (.const x) = x := fun _ => rfl); (have ef : ∀ x, a1.eval (.func x) = .func (.func x) #[] #[] := fun _ => rfl); generalize a1.eval = ρ at *
                        clear h3 h10
                        go_simp <;> (intros; first | (exfalso; omega) | rfl | omega)
                    · intro vs p hI hR
                      have h0 : (vs 0) = .slice (some ⟨b, ob, none⟩) n2 c2 := hR 0 (by omega)
                      have h1 : (vs 1) = .int .i64 (n2 : Int) := hR 1 (by omega)
                      have h2 : (vs 2) = .bool true := hR 2 (by omega)
                      have h3 : (vs 3) = .bool true := hR 3 (by omega)
                      have h4 : (vs 4) = .slice (some ⟨b, ob, none⟩) n2 c2 := hR 4 (by omega)
                      have h5 : (vs 5) = .pointer (some ⟨b, ob, none⟩) := hR 5 (by omega)
                      have h6 : (vs 6) = .pointer (some ⟨b, ob, none⟩) := hR 6 (by omega)
                      have h7 : (vs 7) = .string y.k := hR 7 (by omega)
                      have h8 : (vs 8) = .pointer (some ⟨Bx, 0, none⟩) := hR 8 (by omega)
                      have h9 : (vs 9) = .string x.k := hR 9 (by omega)
                      have h10 : (vs 10) = .bool true := hR 10 (by omega)
                      have h11 : (vs 11) = .bool true := hR 11 (by omega)
                      clear hR
                      simp only [List.range_succ, List.range_zero, List.nil_append, List.cons_append, Roll.putD, Act.put, List.getD_cons_zero, List.getD_cons_succ, List.setIfInBounds_toArray, List.set_cons_zero, List.set_cons_succ, List.drop_succ_cons, List.drop_zero, Ddf12]
                      simp only [h0, h1, h2, h3, h4, h5, h6, h7, h8, h9, h10, h11]
                      clear h0 h1 h2 h3 h4 h5 h6 h7 h8 h9 h10 h11
                      obtain ⟨p12, hp12⟩ : ∃ z, z = p := ⟨_, rfl⟩
                      subst hp12
                      have HD12 := Lib.hid (HD11.out.below hI)
                      have HK12 := Lib.hid (HK11.out.trans (KD.of_below hI HD11.out.b.size))
                      clear hI HCO HLO HCX HLX
                      apply wpList_nil
                      gi_step
                      gi_step
                      have hn21 : (1 : Int) ≤ (n2 : Int) := by omega
                      have hn22 : (n2 : Int) ≤ (c2 : Int) := by omega
                      have hcc := HD12.out.o.cell
                      have hff := HD12.out.o.frozen
                      by_cases hc21 : c2 = 1
                      · have hp13 := HD12.out.ps.fromK 1 (by omega)
                        rw [if_pos hc21, show c2 - 1 = 0 by omega] at hp13
                        have HP13 := Lib.hid hp13
                        clear hp13
                        gi_wp2
                        clear hcc hff
                        obtain ⟨hd13, hk13⟩ := HD12.out.setO hne0 (Nat.le_of_lt HBO.out) (HP13.out) (fun ad h => by cases h; rfl)
                        have HD13 := Lib.hid hd13
                        have HK13 := Lib.hid (HK12.out.trans hk13)
                        exact HRES.out _ _ _ _ _ _ _ HDR2.out HD13.out HK13.out
                      · have hp13 := HD12.out.ps.fromK 1 (by omega)
                        rw [if_neg hc21] at hp13
                        have HP13 := Lib.hid hp13
                        clear hp13
                        gi_wp2
                        clear hcc hff
                        obtain ⟨hd13, hk13⟩ := HD12.out.setO hne0 (Nat.le_of_lt HBO.out) (HP13.out) (fun ad h => by cases h; rfl)
                        have HD13 := Lib.hid hd13
                        have HK13 := Lib.hid (HK12.out.trans hk13)
                        exact HRES.out _ _ _ _ _ _ _ HDR2.out HD13.out HK13.out
                · have HDR2 : Hid (diffRound (es, rest) x = (es1 ++ [setE x], r1)) := Lib.hid (by rw [HDR1.out, if_neg (fun e => hyv (by rw [e])), if_pos hyk])
                  have hyk1 : y.k.toList = x.k.toList := by rw [hyk]
                  have hyk2 : (y.k.toList == x.k.toList) = true := by rw [str_beq]; simpa using hyk
                  clear hyk
                  have hyv1 : ¬ y.v.toList = x.v.toList := fun h => hyv ((str_eqq _ _).1 h)
                  have hyv2 : (y.v.toList == x.v.toList) = false := by rw [str_beq]; simpa using hyv
                  clear hyv
                  have HCO : Hid (W9.cell? ⟨bo, 0, none⟩ = some (.slice (some ⟨b, ob, none⟩) n2 c2)) := Lib.hid HD9.out.o.cell
                  have HLO : Hid (bo < W9.heap.size) := Lib.hid HD9.out.o.lt
                  have HCX : Hid (W9.cell? ⟨Bx, 0, none⟩ = some (.string x.k)) := Lib.hid (cell_of_row W9 Bx 0 _ _ _ HX9.out)
                  have HLX : Hid (Bx < W9.heap.size) := Lib.hid (Array.getElem?_eq_some_iff.1 HX9.out).1
                  have HRX : Hid (W9.rangeAt Bx 0 x.cells) := Lib.hid (range_kv HX9.out)
                  have HRB : Hid (W9.rangeAt b ob y.cells) := Lib.hid HD9.out.head.1
                  have HLB : Hid (b < W9.heap.size) := Lib.hid HD9.out.head.2
                  have HCB : Hid (W9.cell? ⟨b, ob, none⟩ = some (.string y.k)) := Lib.hid (HRB.out 0 _ rfl)
                  refine Roll.region_f_r 10 75 Ddf10 Ldf10 [(5, .pointer (some ⟨w.heap.size, 0, none⟩)), (6, .pointer (some ⟨bo, 0, none⟩)), (7, .pointer (some ⟨Bx, 0, none⟩))] (fun p => Below W9.heap.size W9 p) (fun p p2 => Below p.heap.size p p2) [fun vv p => vv = .slice (some ⟨b, ob, none⟩) n2 c2, fun vv p => vv = .int .i64 (n2 : Int), fun vv p => vv = .bool false, fun vv p => vv = .bool false, fun vv p => vv = .slice (some ⟨b, ob, none⟩) n2 c2, fun vv p => vv = .pointer (some ⟨b, ob, none⟩), fun vv p => vv = .agg #[.string y.k, .string y.v], fun vv p => vv = .agg #[.string x.k, .string x.v], fun vv p => vv = .bool true, fun vv p => vv = .bool true] (by kernel_rfl) (by kernel_rfl) (by rintro ⟨_, _, h⟩; exact h) (by kernel_rfl) rfl ⟨rfl, rfl, rfl, trivial⟩ ((Below.refl _ _).drew) ?_ ?_ ?_
                  · exact ⟨fun _ _ _ _ h => h, fun _ _ _ _ h => h, fun _ _ _ _ h => h, fun _ _ _ _ h => h, fun _ _ _ _ h => h, fun _ _ _ _ h => h, fun _ _ _ _ h => h, fun _ _ _ _ h => h, fun _ _ _ _ h => h, fun _ _ _ _ h => h, trivial⟩
                  · intro b0 hN hlv
                    refine ⟨?_, ?_, ?_, ?_, ?_, ?_, ?_, ?_, ?_, ?_, trivial⟩
                    · intro vs p hI hp
                      have e6 : (Roll.putD Ddf10 vs [] b0).eval (.tmp 6) = .pointer (some ⟨bo, 0, none⟩) := (Roll.eval_old rfl).trans (hlv.at 1 (6, .pointer (some ⟨bo, 0, none⟩)) rfl)
                      clear hp hlv hN
                      unfold Roll.Goes
                      simp only [Ldf10, List.getD_cons_zero, List.getD_cons_succ]
                      generalize Roll.putD Ddf10 vs [] b0 = a1 at *
                      have cf : p.cell? ⟨bo, 0, none⟩ = some (.slice (some ⟨b, ob, none⟩) n2 c2) := (hI.cell (p := ⟨bo, 0, none⟩) HLO.out).trans HCO.out
                      refine Roll.goes_val (w' := p) (.slice (some ⟨b, ob, none⟩) n2 c2) rfl ?_ ⟨hI, Below.refl _ _, rfl⟩
                      (have ec : ∀ x, a1.eval (.const x) = x := fun _ => rfl); (have ef : ∀ x, a1.eval (.func x) = .func (.func x) #[] #[] := fun _ => rfl); generalize a1.eval = ρ at *
                      skip
                      go_simp <;> (intros; first | (exfalso; omega) | rfl | omega)
                    · intro vs p hI hp
                      have h0 : (vs 0) = .slice (some ⟨b, ob, none⟩) n2 c2 := hp 0 (by simp [Ldf10])
                      have e39 : (Roll.putD Ddf10 vs [0] b0).eval (.tmp 39) = .slice (some ⟨b, ob, none⟩) n2 c2 := (Roll.eval_new 0 rfl (by decide) (by decide) (by omega)).trans h0
                      clear hp hlv hN
                      unfold Roll.Goes
                      simp only [Ldf10, List.getD_cons_zero, List.getD_cons_succ]
                      generalize Roll.putD Ddf10 vs [0] b0 = a1 at *
                      refine Roll.goes_val (w' := p) (.int .i64 (n2 : Int)) rfl ?_ ⟨hI, Below.refl _ _, rfl⟩
                      (have ec : ∀ x, a1.eval (.const x) = x := fun _ => rfl); (have ef : ∀ x, a1.eval (.func x) = .func (.func x) #[] #[] := fun _ => rfl); generalize a1.eval = ρ at *
                      clear h0
                      go_simp <;> (intros; first | (exfalso; omega) | rfl | omega)
                    · intro vs p hI hp
                      have h1 : (vs 1) = .int .i64 (n2 : Int) := hp 1 (by simp [Ldf10])
                      have e40 : (Roll.putD Ddf10 vs [1] b0).eval (.tmp 40) = .int .i64 (n2 : Int) := (Roll.eval_new 1 rfl (by decide) (by decide) (by omega)).trans h1
                      clear hp hlv hN
                      unfold Roll.Goes
                      simp only [Ldf10, List.getD_cons_zero, List.getD_cons_succ]
                      generalize Roll.putD Ddf10 vs [1] b0 = a1 at *
                      refine Roll.goes_val (w' := p) (.bool false) rfl ?_ ⟨hI, Below.refl _ _, rfl⟩
                      (have ec : ∀ x, a1.eval (.const x) = x := fun _ => rfl); (have ef : ∀ x, a1.eval (.func x) = .func (.func x) #[] #[] := fun _ => rfl); generalize a1.eval = ρ at *
                      clear h1
                      go_simp <;> (intros; first | (exfalso; omega) | rfl | omega)
                    · intro vs p hI hp
                      have h2 : (vs 2) = .bool false := hp 2 (by simp [Ldf10])
                      have e41 : (Roll.putD Ddf10 vs [2] b0).eval (.tmp 41) = .bool false := (Roll.eval_new 2 rfl (by decide) (by decide) (by omega)).trans h2
                      clear hp hlv hN
                      unfold Roll.Goes
                      simp only [Ldf10, List.getD_cons_zero, List.getD_cons_succ]
                      generalize Roll.putD Ddf10 vs [2] b0 = a1 at *
                      refine Roll.goes_val (w' := p) (.bool false) rfl ?_ ⟨hI, Below.refl _ _, rfl⟩
                      (have ec : ∀ x, a1.eval (.const x) = x := fun _ => rfl); (have ef : ∀ x, a1.eval (.func x) = .func (.func x) #[] #[] := fun _ => rfl); generalize a1.eval = ρ at *
                      clear h2
                      go_simp <;> (intros; first | (exfalso; omega) | rfl | omega)
                    · intro vs p hI hp
                      have h3 : (vs 3) = .bool false := hp 3 (by simp [Ldf10])
                      have e6 : (Roll.putD Ddf10 vs [3] b0).eval (.tmp 6) = .pointer (some ⟨bo, 0, none⟩) := (Roll.eval_old rfl).trans (hlv.at 1 (6, .pointer (some ⟨bo, 0, none⟩)) rfl)
                      clear hp hlv hN
                      refine ⟨fun hg => ?_, fun hg => absurd h3 hg⟩
                      clear hg
                      unfold Roll.Goes
                      simp only [Ldf10, List.getD_cons_zero, List.getD_cons_succ]
                      generalize Roll.putD Ddf10 vs [3] b0 = a1 at *
                      have cf : p.cell? ⟨bo, 0, none⟩ = some (.slice (some ⟨b, ob, none⟩) n2 c2) := (hI.cell (p := ⟨bo, 0, none⟩) HLO.out).trans HCO.out
                      refine Roll.goes_val (w' := p) (.slice (some ⟨b, ob, none⟩) n2 c2) rfl ?_ ⟨hI, Below.refl _ _, rfl⟩
                      (have ec : ∀ x, a1.eval (.const x) = x := fun _ => rfl); (have ef : ∀ x, a1.eval (.func x) = .func (.func x) #[] #[] := fun _ => rfl); generalize a1.eval = ρ at *
                      clear h3
                      go_simp <;> (intros; first | (exfalso; omega) | rfl | omega)
                    · intro vs p hI hp
                      have h4 : (vs 4) = .slice (some ⟨b, ob, none⟩) n2 c2 := hp 4 (by simp [Ldf10])
                      have h3 : (vs 3) = .bool false := hp 3 (by simp [Ldf10])
                      have e43 : (Roll.putD Ddf10 vs [4, 3] b0).eval (.tmp 43) = .slice (some ⟨b, ob, none⟩) n2 c2 := (Roll.eval_new 4 rfl (by decide) (by decide) (by omega)).trans h4
                      clear hp hlv hN
                      refine ⟨fun hg => ?_, fun hg => absurd h3 hg⟩
                      clear hg
                      unfold Roll.Goes
                      simp only [Ldf10, List.getD_cons_zero, List.getD_cons_succ]
                      generalize Roll.putD Ddf10 vs [4, 3] b0 = a1 at *
                      refine Roll.goes_val (w' := p) (.pointer (some ⟨b, ob, none⟩)) rfl ?_ ⟨hI, Below.refl _ _, rfl⟩
                      (have ec : ∀ x, a1.eval (.const x) = x := fun _ => rfl); (have ef : ∀ x, a1.eval (.func x) = .func (.func x) #[] #[] := fun _ => rfl); generalize a1.eval = ρ at *
                      clear h4 h3
                      go_simp <;> (intros; first | (exfalso; omega) | rfl | omega)
                    · intro vs p hI hp
                      have h5 : (vs 5) = .pointer (some ⟨b, ob, none⟩) := hp 5 (by simp [Ldf10])
                      have h3 : (vs 3) = .bool false := hp 3 (by simp [Ldf10])
                      have e44 : (Roll.putD Ddf10 vs [5, 3] b0).eval (.tmp 44) = .pointer (some ⟨b, ob, none⟩) := (Roll.eval_new 5 rfl (by decide) (by decide) (by omega)).trans h5
                      clear hp hlv hN
                      refine ⟨fun hg => ?_, fun hg => absurd h3 hg⟩
                      clear hg
                      unfold Roll.Goes
                      simp only [Ldf10, List.getD_cons_zero, List.getD_cons_succ]
                      generalize Roll.putD Ddf10 vs [5, 3] b0 = a1 at *
                      have ld0 := run_loadPair (range_below HRB.out (by simp [KV.cells]) hI)
                      refine Roll.goes_val (w' := p) (.agg #[.string y.k, .string y.v]) rfl ?_ ⟨hI, Below.refl _ _, rfl⟩
                      (have ec : ∀ x, a1.eval (.const x) = x := fun _ => rfl); (have ef : ∀ x, a1.eval (.func x) = .func (.func x) #[] #[] := fun _ => rfl); generalize a1.eval = ρ at *
                      clear h5 h3
                      go_simp <;> (intros; first | (exfalso; omega) | rfl | omega)
                    · intro vs p hI hp
                      have h3 : (vs 3) = .bool false := hp 3 (by simp [Ldf10])
                      have e7 : (Roll.putD Ddf10 vs [3] b0).eval (.tmp 7) = .pointer (some ⟨Bx, 0, none⟩) := (Roll.eval_old rfl).trans (hlv.at 2 (7, .pointer (some ⟨Bx, 0, none⟩)) rfl)
                      clear hp hlv hN
                      refine ⟨fun hg => ?_, fun hg => absurd h3 hg⟩
                      clear hg
                      unfold Roll.Goes
                      simp only [Ldf10, List.getD_cons_zero, List.getD_cons_succ]
                      generalize Roll.putD Ddf10 vs [3] b0 = a1 at *
                      have ld0 := run_loadPair (range_below HRX.out (by simp [KV.cells]) hI)
                      refine Roll.goes_val (w' := p) (.agg #[.string x.k, .string x.v]) rfl ?_ ⟨hI, Below.refl _ _, rfl⟩
                      (have ec : ∀ x, a1.eval (.const x) = x := fun _ => rfl); (have ef : ∀ x, a1.eval (.func x) = .func (.func x) #[] #[] := fun _ => rfl); generalize a1.eval = ρ at *
                      clear h3
                      go_simp <;> (intros; first | (exfalso; omega) | rfl | omega)
                    · intro vs p hI hp
                      have h6 : (vs 6) = .agg #[.string y.k, .string y.v] := hp 6 (by simp [Ldf10])
                      have h7 : (vs 7) = .agg #[.string x.k, .string x.v] := hp 7 (by simp [Ldf10])
                      have h3 : (vs 3) = .bool false := hp 3 (by simp [Ldf10])
                      have e45 : (Roll.putD Ddf10 vs [6, 7, 3] b0).eval (.tmp 45) = .agg #[.string y.k, .string y.v] := (Roll.eval_new 6 rfl (by decide) (by decide) (by omega)).trans h6
                      have e46 : (Roll.putD Ddf10 vs [6, 7, 3] b0).eval (.tmp 46) = .agg #[.string x.k, .string x.v] := (Roll.eval_new 7 rfl (by decide) (by decide) (by omega)).trans h7
                      clear hp hlv hN
                      refine ⟨fun hg => ?_, fun hg => absurd h3 hg⟩
                      clear hg
                      unfold Roll.Goes
                      simp only [Ldf10, List.getD_cons_zero, List.getD_cons_succ]
                      generalize Roll.putD Ddf10 vs [6, 7, 3] b0 = a1 at *
                      refine Roll.goes_val (w' := p) (.bool true) rfl ?_ ⟨hI, Below.refl _ _, rfl⟩
                      (have ec : ∀ x, a1.eval (.const x) = x := fun _ => rfl); (have ef : ∀ x, a1.eval (.func x) = .func (.func x) #[] #[] := fun _ => rfl); generalize a1.eval = ρ at *
                      clear h6 h7 h3
                      go_simp <;> (intros; first | (exfalso; omega) | rfl | omega)
                    · intro vs p hI hp
                      have h3 : (vs 3) = .bool false := hp 3 (by simp [Ldf10])
                      have h8 : (vs 8) = .bool true := hp 8 (by simp [Ldf10])
                      have e42 : (Roll.putD Ddf10 vs [3, 8] b0).eval (.tmp 42) = .bool false := (Roll.eval_new 3 rfl (by decide) (by decide) (by omega)).trans h3
                      have e47 : (Roll.putD Ddf10 vs [3, 8] b0).eval (.tmp 47) = .bool true := (Roll.eval_new 8 rfl (by decide) (by decide) (by omega)).trans h8
                      clear hp hlv hN
                      unfold Roll.Goes
                      simp only [Ldf10, List.getD_cons_zero, List.getD_cons_succ]
                      generalize Roll.putD Ddf10 vs [3, 8] b0 = a1 at *
                      refine Roll.goes_val (w' := p) (.bool true) rfl ?_ ⟨hI, Below.refl _ _, rfl⟩
                      (have ec : ∀ x, a1.eval (.const x) = x := fun _ => rfl); (have ef : ∀ x, a1.eval (.func x) = .func (.func x) #[] #[] := fun _ => rfl); generalize a1.eval = ρ at *
                      clear h3 h8
                      go_simp <;> (intros; first | (exfalso; omega) | rfl | omega)
                  · intro vs p hI hR
                    have h0 : (vs 0) = .slice (some ⟨b, ob, none⟩) n2 c2 := hR 0 (by omega)
                    have h1 : (vs 1) = .int .i64 (n2 : Int) := hR 1 (by omega)
                    have h2 : (vs 2) = .bool false := hR 2 (by omega)
                    have h3 : (vs 3) = .bool false := hR 3 (by omega)
                    have h4 : (vs 4) = .slice (some ⟨b, ob, none⟩) n2 c2 := hR 4 (by omega)
                    have h5 : (vs 5) = .pointer (some ⟨b, ob, none⟩) := hR 5 (by omega)
                    have h6 : (vs 6) = .agg #[.string y.k, .string y.v] := hR 6 (by omega)
                    have h7 : (vs 7) = .agg #[.string x.k, .string x.v] := hR 7 (by omega)
                    have h8 : (vs 8) = .bool true := hR 8 (by omega)
                    have h9 : (vs 9) = .bool true := hR 9 (by omega)
                    clear hR
                    simp only [List.range_succ, List.range_zero, List.nil_append, List.cons_append, Roll.putD, Act.put, List.getD_cons_zero, List.getD_cons_succ, List.setIfInBounds_toArray, List.set_cons_zero, List.set_cons_succ, List.drop_succ_cons, List.drop_zero, Ddf10]
                    simp only [h0, h1, h2, h3, h4, h5, h6, h7, h8, h9]
                    clear h0 h1 h2 h3 h4 h5 h6 h7 h8 h9
                    obtain ⟨p10, hp10⟩ : ∃ z, z = p := ⟨_, rfl⟩
                    subst hp10
                    have HD10 := Lib.hid (HD9.out.below hI)
                    have HK10 := Lib.hid (HK9.out.trans (KD.of_below hI HD9.out.b.size))
                    have HX10 : Hid (p10.heap[Bx]? = some (.cells (kcells x) 65 (0, 0))) := Lib.hid (HK10.out.p _ _ HXB.out)
                    clear hI HCO HLO HCX HLX
                    apply wpList_nil
                    gi_step
                    gi_step
                    have HCE : Hid (p10.cell? ⟨w.heap.size, 0, none⟩ = some (.slice a3 (es.length + k) c3)) := Lib.hid HD10.out.e.cell
                    have HFE : Hid (p10.frozen? ⟨w.heap.size, 0, none⟩ = false) := Lib.hid HD10.out.e.frozen
                    have HCX : Hid (p10.cell? ⟨Bx, 0, none⟩ = some (.string x.k)) := Lib.hid (cell_of_row p10 Bx 0 _ _ _ HX10.out)
                    have HCX1 : Hid (p10.cell? ⟨Bx, 1, none⟩ = some (.string x.v)) := Lib.hid (cell_of_row p10 Bx 1 _ _ _ HX10.out)
                    have HR11 := Lib.hid HD10.out.row
                    have HB11 : Hid (es1.length + 1 ≤ maxLen ∧ (es1.length + 1) * 40 ≤ 140737488355328) := Lib.hid (by have := HL1.out; unfold maxLen; exact ⟨by omega, by omega⟩)
                    have c0 := HCX.out
                    have c1 := HCX1.out
                    have ce := HCE.out
                    have fe := HFE.out
                    have hk1 := HB11.out.1
                    have hk2 := HB11.out.2
                    clear HCE HCX HCX1 HFE HB11
                    gi_wp2_with (gi_at_builtin; refine wpListIn_append_own _ rfl _ _ 56 rfl w.heap.size 61 i0 (.agg #[.string ⟨#[]⟩, .string ⟨#[]⟩, .bool false]) 3 40 Try.underlying56 hi hz0 hz1 hz2 rfl (by decide) _ _ _ rfl (HR11.out.alloc _) ⟨p10.heap.size, 0, none⟩ 1 1 [.string x.k, .string x.v, .bool false] rfl rfl (three_new _ _ _ _ _) (by simp [Value.oneCell']) hk1 hk2 (by have := HD10.out.b.size; simp; omega) ?_; intro sl' w11 hown' hgrow _; obtain ⟨g', cap', rfl⟩ := ownsRow_succ hown'; obtain ⟨ee, hda, hka⟩ := DS.app (es' := es1 ++ [setE x]) HD10.out hne0 (Nat.le_refl _) ((Below.refl _ p10).alloc (Nat.le_refl _) _) (Kept.grown hgrow) (by rw [List.length_append, ecells_app, ecells_one]; exact hown'); have ce := ee.cell; have fe := ee.frozen; have HD11 := Lib.hid hda; have HK11 := Lib.hid (HK10.out.trans hka); clear ee hda hka hown' hgrow)
                    clear ce fe c0 c1 hk1 hk2 HR11
                    obtain ⟨W11, hW11⟩ : ∃ W11, W11 = w11.setCell ⟨w.heap.size, 0, none⟩ (.slice (some ⟨g', 0, none⟩) (es1.length + 1) cap') := ⟨_, rfl⟩
                    rw [← hW11] at HD11 HK11 ⊢
                    clear hW11
                    have HX11 : Hid (W11.heap[Bx]? = some (.cells (kcells x) 65 (0, 0))) := Lib.hid (HK11.out.p _ _ HXB.out)
                    have HCO : Hid (W11.cell? ⟨bo, 0, none⟩ = some (.slice (some ⟨b, ob, none⟩) n2 c2)) := Lib.hid HD11.out.o.cell
                    have HLO : Hid (bo < W11.heap.size) := Lib.hid HD11.out.o.lt
                    have HCX : Hid (W11.cell? ⟨Bx, 0, none⟩ = some (.string x.k)) := Lib.hid (cell_of_row W11 Bx 0 _ _ _ HX11.out)
                    have HLX : Hid (Bx < W11.heap.size) := Lib.hid (Array.getElem?_eq_some_iff.1 HX11.out).1
                    have HRB : Hid (W11.rangeAt b ob y.cells) := Lib.hid HD11.out.head.1
                    have HLB : Hid (b < W11.heap.size) := Lib.hid HD11.out.head.2
                    have HCB : Hid (W11.cell? ⟨b, ob, none⟩ = some (.string y.k)) := Lib.hid (HRB.out 0 _ rfl)
                    refine Roll.region_f_r 12 75 Ddf12 Ldf12 [(5, .pointer (some ⟨w.heap.size, 0, none⟩)), (6, .pointer (some ⟨bo, 0, none⟩)), (7, .pointer (some ⟨Bx, 0, none⟩))] (fun p => Below W11.heap.size W11 p) (fun p p2 => Below p.heap.size p p2) [fun vv p => vv = .slice (some ⟨b, ob, none⟩) n2 c2, fun vv p => vv = .int .i64 (n2 : Int), fun vv p => vv = .bool true, fun vv p => vv = .bool true, fun vv p => vv = .slice (some ⟨b, ob, none⟩) n2 c2, fun vv p => vv = .pointer (some ⟨b, ob, none⟩), fun vv p => vv = .pointer (some ⟨b, ob, none⟩), fun vv p => vv = .string y.k, fun vv p => vv = .pointer (some ⟨Bx, 0, none⟩), fun vv p => vv = .string x.k, fun vv p => vv = .bool true, fun vv p => vv = .bool true] (by kernel_rfl) (by kernel_rfl) (by rintro ⟨_, _, h⟩; exact h) (by kernel_rfl) rfl ⟨rfl, rfl, rfl, trivial⟩ ((Below.refl _ _).drew) ?_ ?_ ?_
                    · exact ⟨fun _ _ _ _ h => h, fun _ _ _ _ h => h, fun _ _ _ _ h => h, fun _ _ _ _ h => h, fun _ _ _ _ h => h, fun _ _ _ _ h => h, fun _ _ _ _ h => h, fun _ _ _ _ h => h, fun _ _ _ _ h => h, fun _ _ _ _ h => h, fun _ _ _ _ h => h, fun _ _ _ _ h => h, trivial⟩
                    · intro b0 hN hlv
                      refine ⟨?_, ?_, ?_, ?_, ?_, ?_, ?_, ?_, ?_, ?_, ?_, ?_, trivial⟩
                      · intro vs p hI hp
                        have e6 : (Roll.putD Ddf12 vs [] b0).eval (.tmp 6) = .pointer (some ⟨bo, 0, none⟩) := (Roll.eval_old rfl).trans (hlv.at 1 (6, .pointer (some ⟨bo, 0, none⟩)) rfl)
                        clear hp hlv hN
                        unfold Roll.Goes
                        simp only [Ldf12, List.getD_cons_zero, List.getD_cons_succ]
                        generalize Roll.putD Ddf12 vs [] b0 = a1 at *
                        have cf : p.cell? ⟨bo, 0, none⟩ = some (.slice (some ⟨b, ob, none⟩) n2 c2) := (hI.cell (p := ⟨bo, 0, none⟩) HLO.out).trans HCO.out
                        refine Roll.goes_val (w' := p) (.slice (some ⟨b, ob, none⟩) n2 c2) rfl ?_ ⟨hI, Below.refl _ _, rfl⟩
                        (have ec : ∀ x, a1.eval (.const x) = x := fun _ => rfl); (have ef : ∀ x, a1.eval (.func x) = .func (.func x) #[] #[] := fun _ => rfl); generalize a1.eval = ρ at *
                        skip
                        go_simp <;> (intros; first | (exfalso; omega) | rfl | omega)
                      · intro vs p hI hp
                        have h0 : (vs 0) = .slice (some ⟨b, ob, none⟩) n2 c2 := hp 0 (by simp [Ldf12])
                        have e57 : (Roll.putD Ddf12 vs [0] b0).eval (.tmp 57) = .slice (some ⟨b, ob, none⟩) n2 c2 := (Roll.eval_new 0 rfl (by decide) (by decide) (by omega)).trans h0
                        clear hp hlv hN
                        unfold Roll.Goes
                        simp only [Ldf12, List.getD_cons_zero, List.getD_cons_succ]
                        generalize Roll.putD Ddf12 vs [0] b0 = a1 at *
                        refine Roll.goes_val (w' := p) (.int .i64 (n2 : Int)) rfl ?_ ⟨hI, Below.refl _ _, rfl⟩
                        (have ec : ∀ x, a1.eval (.const x) = x := fun _ => rfl); (have ef : ∀ x, a1.eval (.func x) = .func (.func x) #[] #[] := fun _ => rfl); generalize a1.eval = ρ at *
                        clear h0
                        go_simp <;> (intros; first | (exfalso; omega) | rfl | omega)
                      · intro vs p hI hp
                        have h1 : (vs 1) = .int .i64 (n2 : Int) := hp 1 (by simp [Ldf12])
                        have e58 : (Roll.putD Ddf12 vs [1] b0).eval (.tmp 58) = .int .i64 (n2 : Int) := (Roll.eval_new 1 rfl (by decide) (by decide) (by omega)).trans h1
                        clear hp hlv hN
                        unfold Roll.Goes
                        simp only [Ldf12, List.getD_cons_zero, List.getD_cons_succ]
                        generalize Roll.putD Ddf12 vs [1] b0 = a1 at *
                        refine Roll.goes_val (w' := p) (.bool true) rfl ?_ ⟨hI, Below.refl _ _, rfl⟩
                        (have ec : ∀ x, a1.eval (.const x) = x := fun _ => rfl); (have ef : ∀ x, a1.eval (.func x) = .func (.func x) #[] #[] := fun _ => rfl); generalize a1.eval = ρ at *
                        clear h1
                        go_simp <;> (intros; first | (exfalso; omega) | rfl | omega)
                      · intro vs p hI hp
                        have h2 : (vs 2) = .bool true := hp 2 (by simp [Ldf12])
                        have e59 : (Roll.putD Ddf12 vs [2] b0).eval (.tmp 59) = .bool true := (Roll.eval_new 2 rfl (by decide) (by decide) (by omega)).trans h2
                        clear hp hlv hN
                        unfold Roll.Goes
                        simp only [Ldf12, List.getD_cons_zero, List.getD_cons_succ]
                        generalize Roll.putD Ddf12 vs [2] b0 = a1 at *
                        refine Roll.goes_val (w' := p) (.bool true) rfl ?_ ⟨hI, Below.refl _ _, rfl⟩
                        (have ec : ∀ x, a1.eval (.const x) = x := fun _ => rfl); (have ef : ∀ x, a1.eval (.func x) = .func (.func x) #[] #[] := fun _ => rfl); generalize a1.eval = ρ at *
                        clear h2
                        go_simp <;> (intros; first | (exfalso; omega) | rfl | omega)
                      · intro vs p hI hp
                        have h3 : (vs 3) = .bool true := hp 3 (by simp [Ldf12])
                        have e6 : (Roll.putD Ddf12 vs [3] b0).eval (.tmp 6) = .pointer (some ⟨bo, 0, none⟩) := (Roll.eval_old rfl).trans (hlv.at 1 (6, .pointer (some ⟨bo, 0, none⟩)) rfl)
                        clear hp hlv hN
                        refine ⟨fun hg => ?_, fun hg => absurd h3 hg⟩
                        clear hg
                        unfold Roll.Goes
                        simp only [Ldf12, List.getD_cons_zero, List.getD_cons_succ]
                        generalize Roll.putD Ddf12 vs [3] b0 = a1 at *
                        have cf : p.cell? ⟨bo, 0, none⟩ = some (.slice (some ⟨b, ob, none⟩) n2 c2) := (hI.cell (p := ⟨bo, 0, none⟩) HLO.out).trans HCO.out
                        refine Roll.goes_val (w' := p) (.slice (some ⟨b, ob, none⟩) n2 c2) rfl ?_ ⟨hI, Below.refl _ _, rfl⟩
                        (have ec : ∀ x, a1.eval (.const x) = x := fun _ => rfl); (have ef : ∀ x, a1.eval (.func x) = .func (.func x) #[] #[] := fun _ => rfl); generalize a1.eval = ρ at *
                        clear h3
                        go_simp <;> (intros; first | (exfalso; omega) | rfl | omega)
                      · intro vs p hI hp
                        have h4 : (vs 4) = .slice (some ⟨b, ob, none⟩) n2 c2 := hp 4 (by simp [Ldf12])
                        have h3 : (vs 3) = .bool true := hp 3 (by simp [Ldf12])
                        have e61 : (Roll.putD Ddf12 vs [4, 3] b0).eval (.tmp 61) = .slice (some ⟨b, ob, none⟩) n2 c2 := (Roll.eval_new 4 rfl (by decide) (by decide) (by omega)).trans h4
                        clear hp hlv hN
                        refine ⟨fun hg => ?_, fun hg => absurd h3 hg⟩
                        clear hg
                        unfold Roll.Goes
                        simp only [Ldf12, List.getD_cons_zero, List.getD_cons_succ]
                        generalize Roll.putD Ddf12 vs [4, 3] b0 = a1 at *
                        refine Roll.goes_val (w' := p) (.pointer (some ⟨b, ob, none⟩)) rfl ?_ ⟨hI, Below.refl _ _, rfl⟩
                        (have ec : ∀ x, a1.eval (.const x) = x := fun _ => rfl); (have ef : ∀ x, a1.eval (.func x) = .func (.func x) #[] #[] := fun _ => rfl); generalize a1.eval = ρ at *
                        clear h4 h3
                        go_simp <;> (intros; first | (exfalso; omega) | rfl | omega)
                      · intro vs p hI hp
                        have h5 : (vs 5) = .pointer (some ⟨b, ob, none⟩) := hp 5 (by simp [Ldf12])
                        have h3 : (vs 3) = .bool true := hp 3 (by simp [Ldf12])
                        have e62 : (Roll.putD Ddf12 vs [5, 3] b0).eval (.tmp 62) = .pointer (some ⟨b, ob, none⟩) := (Roll.eval_new 5 rfl (by decide) (by decide) (by omega)).trans h5
                        clear hp hlv hN
                        refine ⟨fun hg => ?_, fun hg => absurd h3 hg⟩
                        clear hg
                        unfold Roll.Goes
                        simp only [Ldf12, List.getD_cons_zero, List.getD_cons_succ]
                        generalize Roll.putD Ddf12 vs [5, 3] b0 = a1 at *
                        refine Roll.goes_val (w' := p) (.pointer (some ⟨b, ob, none⟩)) rfl ?_ ⟨hI, Below.refl _ _, rfl⟩
                        (have ec : ∀ x, a1.eval (.const x) = x := fun _ => rfl); (have ef : ∀ x, a1.eval (.func x) = .func (.func x) #[] #[] := fun _ => rfl); generalize a1.eval = ρ at *
                        clear h5 h3
                        go_simp <;> (intros; first | (exfalso; omega) | rfl | omega)
                      · intro vs p hI hp
                        have h6 : (vs 6) = .pointer (some ⟨b, ob, none⟩) := hp 6 (by simp [Ldf12])
                        have h3 : (vs 3) = .bool true := hp 3 (by simp [Ldf12])
                        have e63 : (Roll.putD Ddf12 vs [6, 3] b0).eval (.tmp 63) = .pointer (some ⟨b, ob, none⟩) := (Roll.eval_new 6 rfl (by decide) (by decide) (by omega)).trans h6
                        clear hp hlv hN
                        refine ⟨fun hg => ?_, fun hg => absurd h3 hg⟩
                        clear hg
                        unfold Roll.Goes
                        simp only [Ldf12, List.getD_cons_zero, List.getD_cons_succ]
                        generalize Roll.putD Ddf12 vs [6, 3] b0 = a1 at *
                        have cf : p.cell? ⟨b, ob, none⟩ = some (.string y.k) := (hI.cell (p := ⟨b, ob, none⟩) HLB.out).trans HCB.out
                        refine Roll.goes_val (w' := p) (.string y.k) rfl ?_ ⟨hI, Below.refl _ _, rfl⟩
                        (have ec : ∀ x, a1.eval (.const x) = x := fun _ => rfl); (have ef : ∀ x, a1.eval (.func x) = .func (.func x) #[] #[] := fun _ => rfl); generalize a1.eval = ρ at *
                        clear h6 h3
                        go_simp <;> (intros; first | (exfalso; omega) | rfl | omega)
                      · intro vs p hI hp
                        have h3 : (vs 3) = .bool true := hp 3 (by simp [Ldf12])
                        have e7 : (Roll.putD Ddf12 vs [3] b0).eval (.tmp 7) = .pointer (some ⟨Bx, 0, none⟩) := (Roll.eval_old rfl).trans (hlv.at 2 (7, .pointer (some ⟨Bx, 0, none⟩)) rfl)
                        clear hp hlv hN
                        refine ⟨fun hg => ?_, fun hg => absurd h3 hg⟩
                        clear hg
                        unfold Roll.Goes
                        simp only [Ldf12, List.getD_cons_zero, List.getD_cons_succ]
                        generalize Roll.putD Ddf12 vs [3] b0 = a1 at *
                        refine Roll.goes_val (w' := p) (.pointer (some ⟨Bx, 0, none⟩)) rfl ?_ ⟨hI, Below.refl _ _, rfl⟩
                        (have ec : ∀ x, a1.eval (.const x) = x := fun _ => rfl); (have ef : ∀ x, a1.eval (.func x) = .func (.func x) #[] #[] := fun _ => rfl); generalize a1.eval = ρ at *
                        clear h3
                        go_simp <;> (intros; first | (exfalso; omega) | rfl | omega)
                      · intro vs p hI hp
                        have h8 : (vs 8) = .pointer (some ⟨Bx, 0, none⟩) := hp 8 (by simp [Ldf12])
                        have h3 : (vs 3) = .bool true := hp 3 (by simp [Ldf12])
                        have e65 : (Roll.putD Ddf12 vs [8, 3] b0).eval (.tmp 65) = .pointer (some ⟨Bx, 0, none⟩) := (Roll.eval_new 8 rfl (by decide) (by decide) (by omega)).trans h8
                        clear hp hlv hN
                        refine ⟨fun hg => ?_, fun hg => absurd h3 hg⟩
                        clear hg
                        unfold Roll.Goes
                        simp only [Ldf12, List.getD_cons_zero, List.getD_cons_succ]
                        generalize Roll.putD Ddf12 vs [8, 3] b0 = a1 at *
                        have cf : p.cell? ⟨Bx, 0, none⟩ = some (.string x.k) := (hI.cell (p := ⟨Bx, 0, none⟩) HLX.out).trans HCX.out
                        refine Roll.goes_val (w' := p) (.string x.k) rfl ?_ ⟨hI, Below.refl _ _, rfl⟩
                        (have ec : ∀ x, a1.eval (.const x) = x := fun _ => rfl); (have ef : ∀ x, a1.eval (.func x) = .func (.func x) #[] #[] := fun _ => rfl); generalize a1.eval = ρ at *
                        clear h8 h3
                        go_simp <;> (intros; first | (exfalso; omega) | rfl | omega)
                      · intro vs p hI hp
                        have h7 : (vs 7) = .string y.k := hp 7 (by simp [Ldf12])
                        have h9 : (vs 9) = .string x.k := hp 9 (by simp [Ldf12])
                        have h3 : (vs 3) = .bool true := hp 3 (by simp [Ldf12])
                        have e64 : (Roll.putD Ddf12 vs [7, 9, 3] b0).eval (.tmp 64) = .string y.k := (Roll.eval_new 7 rfl (by decide) (by decide) (by omega)).trans h7
                        have e66 : (Roll.putD Ddf12 vs [7, 9, 3] b0).eval (.tmp 66) = .string x.k := (Roll.eval_new 9 rfl (by decide) (by decide) (by omega)).trans h9
                        clear hp hlv hN
                        refine ⟨fun hg => ?_, fun hg => absurd h3 hg⟩
                        clear hg
                        unfold Roll.Goes
                        simp only [Ldf12, List.getD_cons_zero, List.getD_cons_succ]
                        generalize Roll.putD Ddf12 vs [7, 9, 3] b0 = a1 at *
                        refine Roll.goes_val (w' := p) (.bool true) rfl ?_ ⟨hI, Below.refl _ _, rfl⟩
                        (have ec : ∀ x, a1.eval (.const x) = x := fun _ => rfl); (have ef : ∀ x, a1.eval (.func x) = .func (.func x) #[] #[] := fun _ => rfl); generalize a1.eval = ρ at *
                        clear h7 h9 h3
                        go_simp <;> (intros; first | (exfalso; omega) | rfl | omega)
                      · intro vs p hI hp
                        have h3 : (vs 3) = .bool true := hp 3 (by simp [Ldf12])
                        have h10 : (vs 10) = .bool true := hp 10 (by simp [Ldf12])
                        have e60 : (Roll.putD Ddf12 vs [3, 10] b0).eval (.tmp 60) = .bool true := (Roll.eval_new 3 rfl (by decide) (by decide) (by omega)).trans h3
                        have e67 : (Roll.putD Ddf12 vs [3, 10] b0).eval (.tmp 67) = .bool true := (Roll.eval_new 10 rfl (by decide) (by decide) (by omega)).trans h10
                        clear hp hlv hN
                        unfold Roll.Goes
                        simp only [Ldf12, List.getD_cons_zero, List.getD_cons_succ]
                        generalize Roll.putD Ddf12 vs [3, 10] b0 = a1 at *
                        refine Roll.goes_val (w' := p) (.bool true) rfl ?_ ⟨hI, Below.refl _ _, rfl⟩
                        (have ec : ∀ x, a1.eval (.const x) = x := fun _ => rfl); (have ef : ∀ x, a1.eval (.func x) = .func (.func x) #[] #[] := fun _ => rfl); generalize a1.eval = ρ at *
                        clear h3 h10
                        go_simp <;> (intros; first | (exfalso; omega) | rfl | omega)
                    · intro vs p hI hR
                      have h0 : (vs 0) = .slice (some ⟨b, ob, none⟩) n2 c2 := hR 0 (by omega)
                      have h1 : (vs 1) = .int .i64 (n2 : Int) := hR 1 (by omega)
                      have h2 : (vs 2) = .bool true := hR 2 (by omega)
                      have h3 : (vs 3) = .bool true := hR 3 (by omega)
                      have h4 : (vs 4) = .slice (some ⟨b, ob, none⟩) n2 c2 := hR 4 (by omega)
                      have h5 : (vs 5) = .pointer (some ⟨b, ob, none⟩) := hR 5 (by omega)
                      have h6 : (vs 6) = .pointer (some ⟨b, ob, none⟩) := hR 6 (by omega)
                      have h7 : (vs 7) = .string y.k := hR 7 (by omega)
                      have h8 : (vs 8) = .pointer (some ⟨Bx, 0, none⟩) := hR 8 (by omega)
                      have h9 : (vs 9) = .string x.k := hR 9 (by omega)
                      have h10 : (vs 10) = .bool true := hR 10 (by omega)
                      have h11 : (vs 11) = .bool true := hR 11 (by omega)
                      clear hR
                      simp only [List.range_succ, List.range_zero, List.nil_append, List.cons_append, Roll.putD, Act.put, List.getD_cons_zero, List.getD_cons_succ, List.setIfInBounds_toArray, List.set_cons_zero, List.set_cons_succ, List.drop_succ_cons, List.drop_zero, Ddf12]
                      simp only [h0, h1, h2, h3, h4, h5, h6, h7, h8, h9, h10, h11]
                      clear h0 h1 h2 h3 h4 h5 h6 h7 h8 h9 h10 h11
                      obtain ⟨p12, hp12⟩ : ∃ z, z = p := ⟨_, rfl⟩
                      subst hp12
                      have HD12 := Lib.hid (HD11.out.below hI)
                      have HK12 := Lib.hid (HK11.out.trans (KD.of_below hI HD11.out.b.size))
                      clear hI HCO HLO HCX HLX
                      apply wpList_nil
                      gi_step
                      gi_step
                      have hn21 : (1 : Int) ≤ (n2 : Int) := by omega
                      have hn22 : (n2 : Int) ≤ (c2 : Int) := by omega
                      have hcc := HD12.out.o.cell
                      have hff := HD12.out.o.frozen
                      by_cases hc21 : c2 = 1
                      · have hp13 := HD12.out.ps.fromK 1 (by omega)
                        rw [if_pos hc21, show c2 - 1 = 0 by omega] at hp13
                        have HP13 := Lib.hid hp13
                        clear hp13
                        gi_wp2
                        clear hcc hff
                        obtain ⟨hd13, hk13⟩ := HD12.out.setO hne0 (Nat.le_of_lt HBO.out) (HP13.out) (fun ad h => by cases h; rfl)
                        have HD13 := Lib.hid hd13
                        have HK13 := Lib.hid (HK12.out.trans hk13)
                        exact HRES.out _ _ _ _ _ _ _ HDR2.out HD13.out HK13.out
                      · have hp13 := HD12.out.ps.fromK 1 (by omega)
                        rw [if_neg hc21] at hp13
                        have HP13 := Lib.hid hp13
                        clear hp13
                        gi_wp2
                        clear hcc hff
                        obtain ⟨hd13, hk13⟩ := HD12.out.setO hne0 (Nat.le_of_lt HBO.out) (HP13.out) (fun ad h => by cases h; rfl)
                        have HD13 := Lib.hid hd13
                        have HK13 := Lib.hid (HK12.out.trans hk13)
                        exact HRES.out _ _ _ _ _ _ _ HDR2.out HD13.out HK13.out
              · have HDR2 : Hid (diffRound (es, rest) x = (es1 ++ [setE x], y :: r1)) := Lib.hid (by rw [HDR1.out, if_neg (fun e => hyk (by rw [e])), if_neg hyk])
                have hyk1 : ¬ y.k.toList = x.k.toList := fun h => hyk ((str_eqq _ _).1 h)
                have hyk2 : (y.k.toList == x.k.toList) = false := by rw [str_beq]; simpa using hyk
                clear hyk
                have HCO : Hid (W9.cell? ⟨bo, 0, none⟩ = some (.slice (some ⟨b, ob, none⟩) n2 c2)) := Lib.hid HD9.out.o.cell
                have HLO : Hid (bo < W9.heap.size) := Lib.hid HD9.out.o.lt
                have HCX : Hid (W9.cell? ⟨Bx, 0, none⟩ = some (.string x.k)) := Lib.hid (cell_of_row W9 Bx 0 _ _ _ HX9.out)
                have HLX : Hid (Bx < W9.heap.size) := Lib.hid (Array.getElem?_eq_some_iff.1 HX9.out).1
                have HRX : Hid (W9.rangeAt Bx 0 x.cells) := Lib.hid (range_kv HX9.out)
                have HRB : Hid (W9.rangeAt b ob y.cells) := Lib.hid HD9.out.head.1
                have HLB : Hid (b < W9.heap.size) := Lib.hid HD9.out.head.2
                have HCB : Hid (W9.cell? ⟨b, ob, none⟩ = some (.string y.k)) := Lib.hid (HRB.out 0 _ rfl)
                refine Roll.region_f_r 10 75 Ddf10 Ldf10 [(5, .pointer (some ⟨w.heap.size, 0, none⟩)), (6, .pointer (some ⟨bo, 0, none⟩)), (7, .pointer (some ⟨Bx, 0, none⟩))] (fun p => Below W9.heap.size W9 p) (fun p p2 => Below p.heap.size p p2) [fun vv p => vv = .slice (some ⟨b, ob, none⟩) n2 c2, fun vv p => vv = .int .i64 (n2 : Int), fun vv p => vv = .bool false, fun vv p => vv = .bool false, fun vv p => vv = .slice (some ⟨b, ob, none⟩) n2 c2, fun vv p => vv = .pointer (some ⟨b, ob, none⟩), fun vv p => vv = .agg #[.string y.k, .string y.v], fun vv p => vv = .agg #[.string x.k, .string x.v], fun vv p => vv = .bool true, fun vv p => vv = .bool true] (by kernel_rfl) (by kernel_rfl) (by rintro ⟨_, _, h⟩; exact h) (by kernel_rfl) rfl ⟨rfl, rfl, rfl, trivial⟩ ((Below.refl _ _).drew) ?_ ?_ ?_
                · exact ⟨fun _ _ _ _ h => h, fun _ _ _ _ h => h, fun _ _ _ _ h => h, fun _ _ _ _ h => h, fun _ _ _ _ h => h, fun _ _ _ _ h => h, fun _ _ _ _ h => h, fun _ _ _ _ h => h, fun _ _ _ _ h => h, fun _ _ _ _ h => h, trivial⟩
                · intro b0 hN hlv
                  refine ⟨?_, ?_, ?_, ?_, ?_, ?_, ?_, ?_, ?_, ?_, trivial⟩
                  · intro vs p hI hp
                    have e6 : (Roll.putD Ddf10 vs [] b0).eval (.tmp 6) = .pointer (some ⟨bo, 0, none⟩) := (Roll.eval_old rfl).trans (hlv.at 1 (6, .pointer (some ⟨bo, 0, none⟩)) rfl)
                    clear hp hlv hN
                    unfold Roll.Goes
                    simp only [Ldf10, List.getD_cons_zero, List.getD_cons_succ]
                    generalize Roll.putD Ddf10 vs [] b0 = a1 at *
                    have cf : p.cell? ⟨bo, 0, none⟩ = some (.slice (some ⟨b, ob, none⟩) n2 c2) := (hI.cell (p := ⟨bo, 0, none⟩) HLO.out).trans HCO.out
                    refine Roll.goes_val (w' := p) (.slice (some ⟨b, ob, none⟩) n2 c2) rfl ?_ ⟨hI, Below.refl _ _, rfl⟩
                    (have ec : ∀ x, a1.eval (.const x) = x := fun _ => rfl); (have ef : ∀ x, a1.eval (.func x) = .func (.func x) #[] #[] := fun _ => rfl); generalize a1.eval = ρ at *
                    skip
                    go_simp <;> (intros; first | (exfalso; omega) | rfl | omega)
                  · intro vs p hI hp
                    have h0 : (vs 0) = .slice (some ⟨b, ob, none⟩) n2 c2 := hp 0 (by simp [Ldf10])
                    have e39 : (Roll.putD Ddf10 vs [0] b0).eval (.tmp 39) = .slice (some ⟨b, ob, none⟩) n2 c2 := (Roll.eval_new 0 rfl (by decide) (by decide) (by omega)).trans h0
                    clear hp hlv hN
                    unfold Roll.Goes
                    simp only [Ldf10, List.getD_cons_zero, List.getD_cons_succ]
                    generalize Roll.putD Ddf10 vs [0] b0 = a1 at *
                    refine Roll.goes_val (w' := p) (.int .i64 (n2 : Int)) rfl ?_ ⟨hI, Below.refl _ _, rfl⟩
                    (have ec : ∀ x, a1.eval (.const x) = x := fun _ => rfl); (have ef : ∀ x, a1.eval (.func x) = .func (.func x) #[] #[] := fun _ => rfl); generalize a1.eval = ρ at *
                    clear h0
                    go_simp <;> (intros; first | (exfalso; omega) | rfl | omega)
                  · intro vs p hI hp
                    have h1 : (vs 1) = .int .i64 (n2 : Int) := hp 1 (by simp [Ldf10])
                    have e40 : (Roll.putD Ddf10 vs [1] b0).eval (.tmp 40) = .int .i64 (n2 : Int) := (Roll.eval_new 1 rfl (by decide) (by decide) (by omega)).trans h1
                    clear hp hlv hN
                    unfold Roll.Goes
                    simp only [Ldf10, List.getD_cons_zero, List.getD_cons_succ]
                    generalize Roll.putD Ddf10 vs [1] b0 = a1 at *
                    refine Roll.goes_val (w' := p) (.bool false) rfl ?_ ⟨hI, Below.refl _ _, rfl⟩
                    (have ec : ∀ x, a1.eval (.const x) = x := fun _ => rfl); (have ef : ∀ x, a1.eval (.func x) = .func (.func x) #[] #[] := fun _ => rfl); generalize a1.eval = ρ at *
                    clear h1
                    go_simp <;> (intros; first | (exfalso; omega) | rfl | omega)
                  · intro vs p hI hp
                    have h2 : (vs 2) = .bool false := hp 2 (by simp [Ldf10])
                    have e41 : (Roll.putD Ddf10 vs [2] b0).eval (.tmp 41) = .bool false := (Roll.eval_new 2 rfl (by decide) (by decide) (by omega)).trans h2
                    clear hp hlv hN
                    unfold Roll.Goes
                    simp only [Ldf10, List.getD_cons_zero, List.getD_cons_succ]
                    generalize Roll.putD Ddf10 vs [2] b0 = a1 at *
                    refine Roll.goes_val (w' := p) (.bool false) rfl ?_ ⟨hI, Below.refl _ _, rfl⟩
                    (have ec : ∀ x, a1.eval (.const x) = x := fun _ => rfl); (have ef : ∀ x, a1.eval (.func x) = .func (.func x) #[] #[] := fun _ => rfl); generalize a1.eval = ρ at *
                    clear h2
                    go_simp <;> (intros; first | (exfalso; omega) | rfl | omega)
                  · intro vs p hI hp
                    have h3 : (vs 3) = .bool false := hp 3 (by simp [Ldf10])
                    have e6 : (Roll.putD Ddf10 vs [3] b0).eval (.tmp 6) = .pointer (some ⟨bo, 0, none⟩) := (Roll.eval_old rfl).trans (hlv.at 1 (6, .pointer (some ⟨bo, 0, none⟩)) rfl)
                    clear hp hlv hN
                    refine ⟨fun hg => ?_, fun hg => absurd h3 hg⟩
                    clear hg
                    unfold Roll.Goes
                    simp only [Ldf10, List.getD_cons_zero, List.getD_cons_succ]
                    generalize Roll.putD Ddf10 vs [3] b0 = a1 at *
                    have cf : p.cell? ⟨bo, 0, none⟩ = some (.slice (some ⟨b, ob, none⟩) n2 c2) := (hI.cell (p := ⟨bo, 0, none⟩) HLO.out).trans HCO.out
                    refine Roll.goes_val (w' := p) (.slice (some ⟨b, ob, none⟩) n2 c2) rfl ?_ ⟨hI, Below.refl _ _, rfl⟩
                    (have ec : ∀ x, a1.eval (.const x) = x := fun _ => rfl); (have ef : ∀ x, a1.eval (.func x) = .func (.func x) #[] #[] := fun _ => rfl); generalize a1.eval = ρ at *
                    clear h3
                    go_simp <;> (intros; first | (exfalso; omega) | rfl | omega)
                  · intro vs p hI hp
                    have h4 : (vs 4) = .slice (some ⟨b, ob, none⟩) n2 c2 := hp 4 (by simp [Ldf10])
                    have h3 : (vs 3) = .bool false := hp 3 (by simp [Ldf10])
                    have e43 : (Roll.putD Ddf10 vs [4, 3] b0).eval (.tmp 43) = .slice (some ⟨b, ob, none⟩) n2 c2 := (Roll.eval_new 4 rfl (by decide) (by decide) (by omega)).trans h4
                    clear hp hlv hN
                    refine ⟨fun hg => ?_, fun hg => absurd h3 hg⟩
                    clear hg
                    unfold Roll.Goes
                    simp only [Ldf10, List.getD_cons_zero, List.getD_cons_succ]
                    generalize Roll.putD Ddf10 vs [4, 3] b0 = a1 at *
                    refine Roll.goes_val (w' := p) (.pointer (some ⟨b, ob, none⟩)) rfl ?_ ⟨hI, Below.refl _ _, rfl⟩
                    (have ec : ∀ x, a1.eval (.const x) = x := fun _ => rfl); (have ef : ∀ x, a1.eval (.func x) = .func (.func x) #[] #[] := fun _ => rfl); generalize a1.eval = ρ at *
                    clear h4 h3
                    go_simp <;> (intros; first | (exfalso; omega) | rfl | omega)
                  · intro vs p hI hp
                    have h5 : (vs 5) = .pointer (some ⟨b, ob, none⟩) := hp 5 (by simp [Ldf10])
                    have h3 : (vs 3) = .bool false := hp 3 (by simp [Ldf10])
                    have e44 : (Roll.putD Ddf10 vs [5, 3] b0).eval (.tmp 44) = .pointer (some ⟨b, ob, none⟩) := (Roll.eval_new 5 rfl (by decide) (by decide) (by omega)).trans h5
                    clear hp hlv hN
                    refine ⟨fun hg => ?_, fun hg => absurd h3 hg⟩
                    clear hg
                    unfold Roll.Goes
                    simp only [Ldf10, List.getD_cons_zero, List.getD_cons_succ]
                    generalize Roll.putD Ddf10 vs [5, 3] b0 = a1 at *
                    have ld0 := run_loadPair (range_below HRB.out (by simp [KV.cells]) hI)
                    refine Roll.goes_val (w' := p) (.agg #[.string y.k, .string y.v]) rfl ?_ ⟨hI, Below.refl _ _, rfl⟩
                    (have ec : ∀ x, a1.eval (.const x) = x := fun _ => rfl); (have ef : ∀ x, a1.eval (.func x) = .func (.func x) #[] #[] := fun _ => rfl); generalize a1.eval = ρ at *
                    clear h5 h3
                    go_simp <;> (intros; first | (exfalso; omega) | rfl | omega)
                  · intro vs p hI hp
                    have h3 : (vs 3) = .bool false := hp 3 (by simp [Ldf10])
                    have e7 : (Roll.putD Ddf10 vs [3] b0).eval (.tmp 7) = .pointer (some ⟨Bx, 0, none⟩) := (Roll.eval_old rfl).trans (hlv.at 2 (7, .pointer (some ⟨Bx, 0, none⟩)) rfl)
                    clear hp hlv hN
                    refine ⟨fun hg => ?_, fun hg => absurd h3 hg⟩
                    clear hg
                    unfold Roll.Goes
                    simp only [Ldf10, List.getD_cons_zero, List.getD_cons_succ]
                    generalize Roll.putD Ddf10 vs [3] b0 = a1 at *
                    have ld0 := run_loadPair (range_below HRX.out (by simp [KV.cells]) hI)
                    refine Roll.goes_val (w' := p) (.agg #[.string x.k, .string x.v]) rfl ?_ ⟨hI, Below.refl _ _, rfl⟩
                    (have ec : ∀ x, a1.eval (.const x) = x := fun _ => rfl); (have ef : ∀ x, a1.eval (.func x) = .func (.func x) #[] #[] := fun _ => rfl); generalize a1.eval = ρ at *
                    clear h3
                    go_simp <;> (intros; first | (exfalso; omega) | rfl | omega)
                  · intro vs p hI hp
                    have h6 : (vs 6) = .agg #[.string y.k, .string y.v] := hp 6 (by simp [Ldf10])
                    have h7 : (vs 7) = .agg #[.string x.k, .string x.v] := hp 7 (by simp [Ldf10])
                    have h3 : (vs 3) = .bool false := hp 3 (by simp [Ldf10])
                    have e45 : (Roll.putD Ddf10 vs [6, 7, 3] b0).eval (.tmp 45) = .agg #[.string y.k, .string y.v] := (Roll.eval_new 6 rfl (by decide) (by decide) (by omega)).trans h6
                    have e46 : (Roll.putD Ddf10 vs [6, 7, 3] b0).eval (.tmp 46) = .agg #[.string x.k, .string x.v] := (Roll.eval_new 7 rfl (by decide) (by decide) (by omega)).trans h7
                    clear hp hlv hN
                    refine ⟨fun hg => ?_, fun hg => absurd h3 hg⟩
                    clear hg
                    unfold Roll.Goes
                    simp only [Ldf10, List.getD_cons_zero, List.getD_cons_succ]
                    generalize Roll.putD Ddf10 vs [6, 7, 3] b0 = a1 at *
                    refine Roll.goes_val (w' := p) (.bool true) rfl ?_ ⟨hI, Below.refl _ _, rfl⟩
                    (have ec : ∀ x, a1.eval (.const x) = x := fun _ => rfl); (have ef : ∀ x, a1.eval (.func x) = .func (.func x) #[] #[] := fun _ => rfl); generalize a1.eval = ρ at *
                    clear h6 h7 h3
                    go_simp <;> (intros; first | (exfalso; omega) | rfl | omega)
                  · intro vs p hI hp
                    have h3 : (vs 3) = .bool false := hp 3 (by simp [Ldf10])
                    have h8 : (vs 8) = .bool true := hp 8 (by simp [Ldf10])
                    have e42 : (Roll.putD Ddf10 vs [3, 8] b0).eval (.tmp 42) = .bool false := (Roll.eval_new 3 rfl (by decide) (by decide) (by omega)).trans h3
                    have e47 : (Roll.putD Ddf10 vs [3, 8] b0).eval (.tmp 47) = .bool true := (Roll.eval_new 8 rfl (by decide) (by decide) (by omega)).trans h8
                    clear hp hlv hN
                    unfold Roll.Goes
                    simp only [Ldf10, List.getD_cons_zero, List.getD_cons_succ]
                    generalize Roll.putD Ddf10 vs [3, 8] b0 = a1 at *
                    refine Roll.goes_val (w' := p) (.bool true) rfl ?_ ⟨hI, Below.refl _ _, rfl⟩
                    (have ec : ∀ x, a1.eval (.const x) = x := fun _ => rfl); (have ef : ∀ x, a1.eval (.func x) = .func (.func x) #[] #[] := fun _ => rfl); generalize a1.eval = ρ at *
                    clear h3 h8
                    go_simp <;> (intros; first | (exfalso; omega) | rfl | omega)
                · intro vs p hI hR
                  have h0 : (vs 0) = .slice (some ⟨b, ob, none⟩) n2 c2 := hR 0 (by omega)
                  have h1 : (vs 1) = .int .i64 (n2 : Int) := hR 1 (by omega)
                  have h2 : (vs 2) = .bool false := hR 2 (by omega)
                  have h3 : (vs 3) = .bool false := hR 3 (by omega)
                  have h4 : (vs 4) = .slice (some ⟨b, ob, none⟩) n2 c2 := hR 4 (by omega)
                  have h5 : (vs 5) = .pointer (some ⟨b, ob, none⟩) := hR 5 (by omega)
                  have h6 : (vs 6) = .agg #[.string y.k, .string y.v] := hR 6 (by omega)
                  have h7 : (vs 7) = .agg #[.string x.k, .string x.v] := hR 7 (by omega)
                  have h8 : (vs 8) = .bool true := hR 8 (by omega)
                  have h9 : (vs 9) = .bool true := hR 9 (by omega)
                  clear hR
                  simp only [List.range_succ, List.range_zero, List.nil_append, List.cons_append, Roll.putD, Act.put, List.getD_cons_zero, List.getD_cons_succ, List.setIfInBounds_toArray, List.set_cons_zero, List.set_cons_succ, List.drop_succ_cons, List.drop_zero, Ddf10]
                  simp only [h0, h1, h2, h3, h4, h5, h6, h7, h8, h9]
                  clear h0 h1 h2 h3 h4 h5 h6 h7 h8 h9
                  obtain ⟨p10, hp10⟩ : ∃ z, z = p := ⟨_, rfl⟩
                  subst hp10
                  have HD10 := Lib.hid (HD9.out.below hI)
                  have HK10 := Lib.hid (HK9.out.trans (KD.of_below hI HD9.out.b.size))
                  have HX10 : Hid (p10.heap[Bx]? = some (.cells (kcells x) 65 (0, 0))) := Lib.hid (HK10.out.p _ _ HXB.out)
                  clear hI HCO HLO HCX HLX
                  apply wpList_nil
                  gi_step
                  gi_step
                  have HCE : Hid (p10.cell? ⟨w.heap.size, 0, none⟩ = some (.slice a3 (es.length + k) c3)) := Lib.hid HD10.out.e.cell
                  have HFE : Hid (p10.frozen? ⟨w.heap.size, 0, none⟩ = false) := Lib.hid HD10.out.e.frozen
                  have HCX : Hid (p10.cell? ⟨Bx, 0, none⟩ = some (.string x.k)) := Lib.hid (cell_of_row p10 Bx 0 _ _ _ HX10.out)
                  have HCX1 : Hid (p10.cell? ⟨Bx, 1, none⟩ = some (.string x.v)) := Lib.hid (cell_of_row p10 Bx 1 _ _ _ HX10.out)
                  have HR11 := Lib.hid HD10.out.row
                  have HB11 : Hid (es1.length + 1 ≤ maxLen ∧ (es1.length + 1) * 40 ≤ 140737488355328) := Lib.hid (by have := HL1.out; unfold maxLen; exact ⟨by omega, by omega⟩)
                  have c0 := HCX.out
                  have c1 := HCX1.out
                  have ce := HCE.out
                  have fe := HFE.out
                  have hk1 := HB11.out.1
                  have hk2 := HB11.out.2
                  clear HCE HCX HCX1 HFE HB11
                  gi_wp2_with (gi_at_builtin; refine wpListIn_append_own _ rfl _ _ 56 rfl w.heap.size 61 i0 (.agg #[.string ⟨#[]⟩, .string ⟨#[]⟩, .bool false]) 3 40 Try.underlying56 hi hz0 hz1 hz2 rfl (by decide) _ _ _ rfl (HR11.out.alloc _) ⟨p10.heap.size, 0, none⟩ 1 1 [.string x.k, .string x.v, .bool false] rfl rfl (three_new _ _ _ _ _) (by simp [Value.oneCell']) hk1 hk2 (by have := HD10.out.b.size; simp; omega) ?_; intro sl' w11 hown' hgrow _; obtain ⟨g', cap', rfl⟩ := ownsRow_succ hown'; obtain ⟨ee, hda, hka⟩ := DS.app (es' := es1 ++ [setE x]) HD10.out hne0 (Nat.le_refl _) ((Below.refl _ p10).alloc (Nat.le_refl _) _) (Kept.grown hgrow) (by rw [List.length_append, ecells_app, ecells_one]; exact hown'); have ce := ee.cell; have fe := ee.frozen; have HD11 := Lib.hid hda; have HK11 := Lib.hid (HK10.out.trans hka); clear ee hda hka hown' hgrow)
                  clear ce fe c0 c1 hk1 hk2 HR11
                  obtain ⟨W11, hW11⟩ : ∃ W11, W11 = w11.setCell ⟨w.heap.size, 0, none⟩ (.slice (some ⟨g', 0, none⟩) (es1.length + 1) cap') := ⟨_, rfl⟩
                  rw [← hW11] at HD11 HK11 ⊢
                  clear hW11
                  have HX11 : Hid (W11.heap[Bx]? = some (.cells (kcells x) 65 (0, 0))) := Lib.hid (HK11.out.p _ _ HXB.out)
                  have HCO : Hid (W11.cell? ⟨bo, 0, none⟩ = some (.slice (some ⟨b, ob, none⟩) n2 c2)) := Lib.hid HD11.out.o.cell
                  have HLO : Hid (bo < W11.heap.size) := Lib.hid HD11.out.o.lt
                  have HCX : Hid (W11.cell? ⟨Bx, 0, none⟩ = some (.string x.k)) := Lib.hid (cell_of_row W11 Bx 0 _ _ _ HX11.out)
                  have HLX : Hid (Bx < W11.heap.size) := Lib.hid (Array.getElem?_eq_some_iff.1 HX11.out).1
                  have HRB : Hid (W11.rangeAt b ob y.cells) := Lib.hid HD11.out.head.1
                  have HLB : Hid (b < W11.heap.size) := Lib.hid HD11.out.head.2
                  have HCB : Hid (W11.cell? ⟨b, ob, none⟩ = some (.string y.k)) := Lib.hid (HRB.out 0 _ rfl)
                  refine Roll.region_f_r 12 75 Ddf12 Ldf12 [(5, .pointer (some ⟨w.heap.size, 0, none⟩)), (6, .pointer (some ⟨bo, 0, none⟩)), (7, .pointer (some ⟨Bx, 0, none⟩))] (fun p => Below W11.heap.size W11 p) (fun p p2 => Below p.heap.size p p2) [fun vv p => vv = .slice (some ⟨b, ob, none⟩) n2 c2, fun vv p => vv = .int .i64 (n2 : Int), fun vv p => vv = .bool true, fun vv p => vv = .bool true, fun vv p => vv = .slice (some ⟨b, ob, none⟩) n2 c2, fun vv p => vv = .pointer (some ⟨b, ob, none⟩), fun vv p => vv = .pointer (some ⟨b, ob, none⟩), fun vv p => vv = .string y.k, fun vv p => vv = .pointer (some ⟨Bx, 0, none⟩), fun vv p => vv = .string x.k, fun vv p => vv = .bool false, fun vv p => vv = .bool false] (by kernel_rfl) (by kernel_rfl) (by rintro ⟨_, _, h⟩; exact h) (by kernel_rfl) rfl ⟨rfl, rfl, rfl, trivial⟩ ((Below.refl _ _).drew) ?_ ?_ ?_
                  · exact ⟨fun _ _ _ _ h => h, fun _ _ _ _ h => h, fun _ _ _ _ h => h, fun _ _ _ _ h => h, fun _ _ _ _ h => h, fun _ _ _ _ h => h, fun _ _ _ _ h => h, fun _ _ _ _ h => h, fun _ _ _ _ h => h, fun _ _ _ _ h => h, fun _ _ _ _ h => h, fun _ _ _ _ h => h, trivial⟩
                  · intro b0 hN hlv
                    refine ⟨?_, ?_, ?_, ?_, ?_, ?_, ?_, ?_, ?_, ?_, ?_, ?_, trivial⟩
                    · intro vs p hI hp
                      have e6 : (Roll.putD Ddf12 vs [] b0).eval (.tmp 6) = .pointer (some ⟨bo, 0, none⟩) := (Roll.eval_old rfl).trans (hlv.at 1 (6, .pointer (some ⟨bo, 0, none⟩)) rfl)
                      clear hp hlv hN
                      unfold Roll.Goes
                      simp only [Ldf12, List.getD_cons_zero, List.getD_cons_succ]
                      generalize Roll.putD Ddf12 vs [] b0 = a1 at *
                      have cf : p.cell? ⟨bo, 0, none⟩ = some (.slice (some ⟨b, ob, none⟩) n2 c2) := (hI.cell (p := ⟨bo, 0, none⟩) HLO.out).trans HCO.out
                      refine Roll.goes_val (w' := p) (.slice (some ⟨b, ob, none⟩) n2 c2) rfl ?_ ⟨hI, Below.refl _ _, rfl⟩
                      (have ec : ∀ x, a1.eval (.const x) = x := fun _ => rfl); (have ef : ∀ x, a1.eval (.func x) = .func (.func x) #[] #[] := fun _ => rfl); generalize a1.eval = ρ at *
                      skip
                      go_simp <;> (intros; first | (exfalso; omega) | rfl | omega)
                    · intro vs p hI hp
                      have h0 : (vs 0) = .slice (some ⟨b, ob, none⟩) n2 c2 := hp 0 (by simp [Ldf12])
                      have e57 : (Roll.putD Ddf12 vs [0] b0).eval (.tmp 57) = .slice (some ⟨b, ob, none⟩) n2 c2 := (Roll.eval_new 0 rfl (by decide) (by decide) (by omega)).trans h0
                      clear hp hlv hN
                      unfold Roll.Goes
                      simp only [Ldf12, List.getD_cons_zero, List.getD_cons_succ]
                      generalize Roll.putD Ddf12 vs [0] b0 = a1 at *
                      refine Roll.goes_val (w' := p) (.int .i64 (n2 : Int)) rfl ?_ ⟨hI, Below.refl _ _, rfl⟩
                      (have ec : ∀ x, a1.eval (.const x) = x := fun _ => rfl); (have ef : ∀ x, a1.eval (.func x) = .func (.func x) #[] #[] := fun _ => rfl); generalize a1.eval = ρ at *
                      clear h0
                      go_simp <;> (intros; first | (exfalso; omega) | rfl | omega)
                    · intro vs p hI hp
                      have h1 : (vs 1) = .int .i64 (n2 : Int) := hp 1 (by simp [Ldf12])
                      have e58 : (Roll.putD Ddf12 vs [1] b0).eval (.tmp 58) = .int .i64 (n2 : Int) := (Roll.eval_new 1 rfl (by decide) (by decide) (by omega)).trans h1
                      clear hp hlv hN
                      unfold Roll.Goes
                      simp only [Ldf12, List.getD_cons_zero, List.getD_cons_succ]
                      generalize Roll.putD Ddf12 vs [1] b0 = a1 at *
                      refine Roll.goes_val (w' := p) (.bool true) rfl ?_ ⟨hI, Below.refl _ _, rfl⟩
                      (have ec : ∀ x, a1.eval (.const x) = x := fun _ => rfl); (have ef : ∀ x, a1.eval (.func x) = .func (.func x) #[] #[] := fun _ => rfl); generalize a1.eval = ρ at *
                      clear h1
                      go_simp <;> (intros; first | (exfalso; omega) | rfl | omega)
                    · intro vs p hI hp
                      have h2 : (vs 2) = .bool true := hp 2 (by simp [Ldf12])
                      have e59 : (Roll.putD Ddf12 vs [2] b0).eval (.tmp 59) = .bool true := (Roll.eval_new 2 rfl (by decide) (by decide) (by omega)).trans h2
                      clear hp hlv hN
                      unfold Roll.Goes
                      simp only [Ldf12, List.getD_cons_zero, List.getD_cons_succ]
                      generalize Roll.putD Ddf12 vs [2] b0 = a1 at *
                      refine Roll.goes_val (w' := p) (.bool true) rfl ?_ ⟨hI, Below.refl _ _, rfl⟩
                      (have ec : ∀ x, a1.eval (.const x) = x := fun _ => rfl); (have ef : ∀ x, a1.eval (.func x) = .func (.func x) #[] #[] := fun _ => rfl); generalize a1.eval = ρ at *
                      clear h2
                      go_simp <;> (intros; first | (exfalso; omega) | rfl | omega)
                    · intro vs p hI hp
                      have h3 : (vs 3) = .bool true := hp 3 (by simp [Ldf12])
                      have e6 : (Roll.putD Ddf12 vs [3] b0).eval (.tmp 6) = .pointer (some ⟨bo, 0, none⟩) := (Roll.eval_old rfl).trans (hlv.at 1 (6, .pointer (some ⟨bo, 0, none⟩)) rfl)
                      clear hp hlv hN
                      refine ⟨fun hg => ?_, fun hg => absurd h3 hg⟩
                      clear hg
                      unfold Roll.Goes
                      simp only [Ldf12, List.getD_cons_zero, List.getD_cons_succ]
                      generalize Roll.putD Ddf12 vs [3] b0 = a1 at *
                      have cf : p.cell? ⟨bo, 0, none⟩ = some (.slice (some ⟨b, ob, none⟩) n2 c2) := (hI.cell (p := ⟨bo, 0, none⟩) HLO.out).trans HCO.out
                      refine Roll.goes_val (w' := p) (.slice (some ⟨b, ob, none⟩) n2 c2) rfl ?_ ⟨hI, Below.refl _ _, rfl⟩
                      (have ec : ∀ x, a1.eval (.const x) = x := fun _ => rfl); (have ef : ∀ x, a1.eval (.func x) = .func (.func x) #[] #[] := fun _ => rfl); generalize a1.eval = ρ at *
                      clear h3
                      go_simp <;> (intros; first | (exfalso; omega) | rfl | omega)
                    · intro vs p hI hp
                      have h4 : (vs 4) = .slice (some ⟨b, ob, none⟩) n2 c2 := hp 4 (by simp [Ldf12])
                      have h3 : (vs 3) = .bool true := hp 3 (by simp [Ldf12])
                      have e61 : (Roll.putD Ddf12 vs [4, 3] b0).eval (.tmp 61) = .slice (some ⟨b, ob, none⟩) n2 c2 := (Roll.eval_new 4 rfl (by decide) (by decide) (by omega)).trans h4
                      clear hp hlv hN
                      refine ⟨fun hg => ?_, fun hg => absurd h3 hg⟩
                      clear hg
                      unfold Roll.Goes
                      simp only [Ldf12, List.getD_cons_zero, List.getD_cons_succ]
                      generalize Roll.putD Ddf12 vs [4, 3] b0 = a1 at *
                      refine Roll.goes_val (w' := p) (.pointer (some ⟨b, ob, none⟩)) rfl ?_ ⟨hI, Below.refl _ _, rfl⟩
                      (have ec : ∀ x, a1.eval (.const x) = x := fun _ => rfl); (have ef : ∀ x, a1.eval (.func x) = .func (.func x) #[] #[] := fun _ => rfl); generalize a1.eval = ρ at *
                      clear h4 h3
                      go_simp <;> (intros; first | (exfalso; omega) | rfl | omega)
                    · intro vs p hI hp
                      have h5 : (vs 5) = .pointer (some ⟨b, ob, none⟩) := hp 5 (by simp [Ldf12])
                      have h3 : (vs 3) = .bool true := hp 3 (by simp [Ldf12])
                      have e62 : (Roll.putD Ddf12 vs [5, 3] b0).eval (.tmp 62) = .pointer (some ⟨b, ob, none⟩) := (Roll.eval_new 5 rfl (by decide) (by decide) (by omega)).trans h5
                      clear hp hlv hN
                      refine ⟨fun hg => ?_, fun hg => absurd h3 hg⟩
                      clear hg
                      unfold Roll.Goes
                      simp only [Ldf12, List.getD_cons_zero, List.getD_cons_succ]
                      generalize Roll.putD Ddf12 vs [5, 3] b0 = a1 at *
                      refine Roll.goes_val (w' := p) (.pointer (some ⟨b, ob, none⟩)) rfl ?_ ⟨hI, Below.refl _ _, rfl⟩
                      (have ec : ∀ x, a1.eval (.const x) = x := fun _ => rfl); (have ef : ∀ x, a1.eval (.func x) = .func (.func x) #[] #[] := fun _ => rfl); generalize a1.eval = ρ at *
                      clear h5 h3
                      go_simp <;> (intros; first | (exfalso; omega) | rfl | omega)
                    · intro vs p hI hp
                      have h6 : (vs 6) = .pointer (some ⟨b, ob, none⟩) := hp 6 (by simp [Ldf12])
                      have h3 : (vs 3) = .bool true := hp 3 (by simp [Ldf12])
                      have e63 : (Roll.putD Ddf12 vs [6, 3] b0).eval (.tmp 63) = .pointer (some ⟨b, ob, none⟩) := (Roll.eval_new 6 rfl (by decide) (by decide) (by omega)).trans h6
                      clear hp hlv hN
                      refine ⟨fun hg => ?_, fun hg => absurd h3 hg⟩
                      clear hg
                      unfold Roll.Goes
                      simp only [Ldf12, List.getD_cons_zero, List.getD_cons_succ]
                      generalize Roll.putD Ddf12 vs [6, 3] b0 = a1 at *
                      have cf : p.cell? ⟨b, ob, none⟩ = some (.string y.k) := (hI.cell (p := ⟨b, ob, none⟩) HLB.out).trans HCB.out
                      refine Roll.goes_val (w' := p) (.string y.k) rfl ?_ ⟨hI, Below.refl _ _, rfl⟩
                      (have ec : ∀ x, a1.eval (.const x) = x := fun _ => rfl); (have ef : ∀ x, a1.eval (.func x) = .func (.func x) #[] #[] := fun _ => rfl); generalize a1.eval = ρ at *
                      clear h6 h3
                      go_simp <;> (intros; first | (exfalso; omega) | rfl | omega)
                    · intro vs p hI hp
                      have h3 : (vs 3) = .bool true := hp 3 (by simp [Ldf12])
                      have e7 : (Roll.putD Ddf12 vs [3] b0).eval (.tmp 7) = .pointer (some ⟨Bx, 0, none⟩) := (Roll.eval_old rfl).trans (hlv.at 2 (7, .pointer (some ⟨Bx, 0, none⟩)) rfl)
                      clear hp hlv hN
                      refine ⟨fun hg => ?_, fun hg => absurd h3 hg⟩
                      clear hg
                      unfold Roll.Goes
                      simp only [Ldf12, List.getD_cons_zero, List.getD_cons_succ]
                      generalize Roll.putD Ddf12 vs [3] b0 = a1 at *
                      refine Roll.goes_val (w' := p) (.pointer (some ⟨Bx, 0, none⟩)) rfl ?_ ⟨hI, Below.refl _ _, rfl⟩
                      (have ec : ∀ x, a1.eval (.const x) = x := fun _ => rfl); (have ef : ∀ x, a1.eval (.func x) = .func (.func x) #[] #[] := fun _ => rfl); generalize a1.eval = ρ at *
                      clear h3
                      go_simp <;> (intros; first | (exfalso; omega) | rfl | omega)
                    · intro vs p hI hp
                      have h8 : (vs 8) = .pointer (some ⟨Bx, 0, none⟩) := hp 8 (by simp [Ldf12])
                      have h3 : (vs 3) = .bool true := hp 3 (by simp [Ldf12])
                      have e65 : (Roll.putD Ddf12 vs [8, 3] b0).eval (.tmp 65) = .pointer (some ⟨Bx, 0, none⟩) := (Roll.eval_new 8 rfl (by decide) (by decide) (by omega)).trans h8
                      clear hp hlv hN
                      refine ⟨fun hg => ?_, fun hg => absurd h3 hg⟩
                      clear hg
                      unfold Roll.Goes
                      simp only [Ldf12, List.getD_cons_zero, List.getD_cons_succ]
                      generalize Roll.putD Ddf12 vs [8, 3] b0 = a1 at *
                      have cf : p.cell? ⟨Bx, 0, none⟩ = some (.string x.k) := (hI.cell (p := ⟨Bx, 0, none⟩) HLX.out).trans HCX.out
                      refine Roll.goes_val (w' := p) (.string x.k) rfl ?_ ⟨hI, Below.refl _ _, rfl⟩
                      (have ec : ∀ x, a1.eval (.const x) = x := fun _ => rfl); (have ef : ∀ x, a1.eval (.func x) = .func (.func x) #[] #[] := fun _ => rfl); generalize a1.eval = ρ at *
                      clear h8 h3
                      go_simp <;> (intros; first | (exfalso; omega) | rfl | omega)
                    · intro vs p hI hp
                      have h7 : (vs 7) = .string y.k := hp 7 (by simp [Ldf12])
                      have h9 : (vs 9) = .string x.k := hp 9 (by simp [Ldf12])
                      have h3 : (vs 3) = .bool true := hp 3 (by simp [Ldf12])
                      have e64 : (Roll.putD Ddf12 vs [7, 9, 3] b0).eval (.tmp 64) = .string y.k := (Roll.eval_new 7 rfl (by decide) (by decide) (by omega)).trans h7
                      have e66 : (Roll.putD Ddf12 vs [7, 9, 3] b0).eval (.tmp 66) = .string x.k := (Roll.eval_new 9 rfl (by decide) (by decide) (by omega)).trans h9
                      clear hp hlv hN
                      refine ⟨fun hg => ?_, fun hg => absurd h3 hg⟩
                      clear hg
                      unfold Roll.Goes
                      simp only [Ldf12, List.getD_cons_zero, List.getD_cons_succ]
                      generalize Roll.putD Ddf12 vs [7, 9, 3] b0 = a1 at *
                      refine Roll.goes_val (w' := p) (.bool false) rfl ?_ ⟨hI, Below.refl _ _, rfl⟩
                      (have ec : ∀ x, a1.eval (.const x) = x := fun _ => rfl); (have ef : ∀ x, a1.eval (.func x) = .func (.func x) #[] #[] := fun _ => rfl); generalize a1.eval = ρ at *
                      clear h7 h9 h3
                      go_simp <;> (intros; first | (exfalso; omega) | rfl | omega)
                    · intro vs p hI hp
                      have h3 : (vs 3) = .bool true := hp 3 (by simp [Ldf12])
                      have h10 : (vs 10) = .bool false := hp 10 (by simp [Ldf12])
                      have e60 : (Roll.putD Ddf12 vs [3, 10] b0).eval (.tmp 60) = .bool true := (Roll.eval_new 3 rfl (by decide) (by decide) (by omega)).trans h3
                      have e67 : (Roll.putD Ddf12 vs [3, 10] b0).eval (.tmp 67) = .bool false := (Roll.eval_new 10 rfl (by decide) (by decide) (by omega)).trans h10
                      clear hp hlv hN
                      unfold Roll.Goes
                      simp only [Ldf12, List.getD_cons_zero, List.getD_cons_succ]
                      generalize Roll.putD Ddf12 vs [3, 10] b0 = a1 at *
                      refine Roll.goes_val (w' := p) (.bool false) rfl ?_ ⟨hI, Below.refl _ _, rfl⟩
                      (have ec : ∀ x, a1.eval (.const x) = x := fun _ => rfl); (have ef : ∀ x, a1.eval (.func x) = .func (.func x) #[] #[] := fun _ => rfl); generalize a1.eval = ρ at *
                      clear h3 h10
                      go_simp <;> (intros; first | (exfalso; omega) | rfl | omega)
                  · intro vs p hI hR
                    have h0 : (vs 0) = .slice (some ⟨b, ob, none⟩) n2 c2 := hR 0 (by omega)
                    have h1 : (vs 1) = .int .i64 (n2 : Int) := hR 1 (by omega)
                    have h2 : (vs 2) = .bool true := hR 2 (by omega)
                    have h3 : (vs 3) = .bool true := hR 3 (by omega)
                    have h4 : (vs 4) = .slice (some ⟨b, ob, none⟩) n2 c2 := hR 4 (by omega)
                    have h5 : (vs 5) = .pointer (some ⟨b, ob, none⟩) := hR 5 (by omega)
                    have h6 : (vs 6) = .pointer (some ⟨b, ob, none⟩) := hR 6 (by omega)
                    have h7 : (vs 7) = .string y.k := hR 7 (by omega)
                    have h8 : (vs 8) = .pointer (some ⟨Bx, 0, none⟩) := hR 8 (by omega)
                    have h9 : (vs 9) = .string x.k := hR 9 (by omega)
                    have h10 : (vs 10) = .bool false := hR 10 (by omega)
                    have h11 : (vs 11) = .bool false := hR 11 (by omega)
                    clear hR
                    simp only [List.range_succ, List.range_zero, List.nil_append, List.cons_append, Roll.putD, Act.put, List.getD_cons_zero, List.getD_cons_succ, List.setIfInBounds_toArray, List.set_cons_zero, List.set_cons_succ, List.drop_succ_cons, List.drop_zero, Ddf12]
                    simp only [h0, h1, h2, h3, h4, h5, h6, h7, h8, h9, h10, h11]
                    clear h0 h1 h2 h3 h4 h5 h6 h7 h8 h9 h10 h11
                    obtain ⟨p12, hp12⟩ : ∃ z, z = p := ⟨_, rfl⟩
                    subst hp12
                    have HD12 := Lib.hid (HD11.out.below hI)
                    have HK12 := Lib.hid (HK11.out.trans (KD.of_below hI HD11.out.b.size))
                    clear hI HCO HLO HCX HLX
                    apply wpList_nil
                    gi_step
                    gi_step
                    gi_wp2
                    exact HRES.out _ _ _ _ _ _ _ HDR2.out HD12.out HK12.out
        · have enk : n = k := by omega
          subst enk
          have HDROP0 : Hid (rest.drop n = []) := Lib.hid (List.drop_eq_nil_of_le (by rw [HN.out]; exact Nat.le_refl _))
          clear hkl hkn
          gi_wp2
          refine Roll.region_f_r 14 75 Ddf6 Ldf6 [(5, .pointer (some ⟨w.heap.size, 0, none⟩)), (6, .pointer (some ⟨bo, 0, none⟩)), (7, .pointer (some ⟨Bx, 0, none⟩)), (8, .int .i64 (n : Int))] (fun p => Below wr.heap.size wr p) (fun p p2 => Below p.heap.size p p2) [fun vv p => vv = .int .i64 (n : Int), fun vv p => vv = .slice a n c, fun vv p => vv = .int .i64 (n : Int), fun vv p => vv = .bool false, fun vv p => vv = .bool false, fun vv p => vv = undef, fun vv p => vv = undef, fun vv p => vv = undef, fun vv p => vv = undef, fun vv p => vv = undef, fun vv p => vv = undef, fun vv p => vv = undef, fun vv p => vv = undef, fun vv p => vv = .bool false] (by kernel_rfl) (by kernel_rfl) (by rintro ⟨_, _, h⟩; exact h) (by kernel_rfl) rfl ⟨rfl, rfl, rfl, rfl, trivial⟩ ((Below.refl _ _).drew) ?_ ?_ ?_
          · exact ⟨fun _ _ _ _ h => h, fun _ _ _ _ h => h, fun _ _ _ _ h => h, fun _ _ _ _ h => h, fun _ _ _ _ h => h, fun _ _ _ _ h => h, fun _ _ _ _ h => h, fun _ _ _ _ h => h, fun _ _ _ _ h => h, fun _ _ _ _ h => h, fun _ _ _ _ h => h, fun _ _ _ _ h => h, fun _ _ _ _ h => h, fun _ _ _ _ h => h, trivial⟩
          · intro b0 hN hlv
            refine ⟨?_, ?_, ?_, ?_, ?_, ?_, ?_, ?_, ?_, ?_, ?_, ?_, ?_, ?_, trivial⟩
            · intro vs p hI hp
              have e8 : (Roll.putD Ddf6 vs [] b0).eval (.tmp 8) = .int .i64 (n : Int) := (Roll.eval_old rfl).trans (hlv.at 3 (8, .int .i64 (n : Int)) rfl)
              clear hp hlv hN
              unfold Roll.Goes
              simp only [Ldf6, List.getD_cons_zero, List.getD_cons_succ]
              generalize Roll.putD Ddf6 vs [] b0 = a1 at *
              refine Roll.goes_val (w' := p) (.int .i64 (n : Int)) rfl ?_ ⟨hI, Below.refl _ _, rfl⟩
              (have ec : ∀ x, a1.eval (.const x) = x := fun _ => rfl); (have ef : ∀ x, a1.eval (.func x) = .func (.func x) #[] #[] := fun _ => rfl); generalize a1.eval = ρ at *
              skip
              go_simp <;> (intros; first | (exfalso; omega) | rfl | omega)
            · intro vs p hI hp
              have e6 : (Roll.putD Ddf6 vs [] b0).eval (.tmp 6) = .pointer (some ⟨bo, 0, none⟩) := (Roll.eval_old rfl).trans (hlv.at 1 (6, .pointer (some ⟨bo, 0, none⟩)) rfl)
              clear hp hlv hN
              unfold Roll.Goes
              simp only [Ldf6, List.getD_cons_zero, List.getD_cons_succ]
              generalize Roll.putD Ddf6 vs [] b0 = a1 at *
              have cf : p.cell? ⟨bo, 0, none⟩ = some (.slice a n c) := (hI.cell (p := ⟨bo, 0, none⟩) HLO.out).trans HCO.out
              refine Roll.goes_val (w' := p) (.slice a n c) rfl ?_ ⟨hI, Below.refl _ _, rfl⟩
              (have ec : ∀ x, a1.eval (.const x) = x := fun _ => rfl); (have ef : ∀ x, a1.eval (.func x) = .func (.func x) #[] #[] := fun _ => rfl); generalize a1.eval = ρ at *
              skip
              go_simp <;> (intros; first | (exfalso; omega) | rfl | omega)
            · intro vs p hI hp
              have h1 : (vs 1) = .slice a n c := hp 1 (by simp [Ldf6])
              have e15 : (Roll.putD Ddf6 vs [1] b0).eval (.tmp 15) = .slice a n c := (Roll.eval_new 1 rfl (by decide) (by decide) (by omega)).trans h1
              clear hp hlv hN
              unfold Roll.Goes
              simp only [Ldf6, List.getD_cons_zero, List.getD_cons_succ]
              generalize Roll.putD Ddf6 vs [1] b0 = a1 at *
              refine Roll.goes_val (w' := p) (.int .i64 (n : Int)) rfl ?_ ⟨hI, Below.refl _ _, rfl⟩
              (have ec : ∀ x, a1.eval (.const x) = x := fun _ => rfl); (have ef : ∀ x, a1.eval (.func x) = .func (.func x) #[] #[] := fun _ => rfl); generalize a1.eval = ρ at *
              clear h1
              go_simp <;> (intros; first | (exfalso; omega) | rfl | omega)
            · intro vs p hI hp
              have h0 : (vs 0) = .int .i64 (n : Int) := hp 0 (by simp [Ldf6])
              have h2 : (vs 2) = .int .i64 (n : Int) := hp 2 (by simp [Ldf6])
              have e14 : (Roll.putD Ddf6 vs [0, 2] b0).eval (.tmp 14) = .int .i64 (n : Int) := (Roll.eval_new 0 rfl (by decide) (by decide) (by omega)).trans h0
              have e16 : (Roll.putD Ddf6 vs [0, 2] b0).eval (.tmp 16) = .int .i64 (n : Int) := (Roll.eval_new 2 rfl (by decide) (by decide) (by omega)).trans h2
              clear hp hlv hN
              unfold Roll.Goes
              simp only [Ldf6, List.getD_cons_zero, List.getD_cons_succ]
              generalize Roll.putD Ddf6 vs [0, 2] b0 = a1 at *
              refine Roll.goes_val (w' := p) (.bool false) rfl ?_ ⟨hI, Below.refl _ _, rfl⟩
              (have ec : ∀ x, a1.eval (.const x) = x := fun _ => rfl); (have ef : ∀ x, a1.eval (.func x) = .func (.func x) #[] #[] := fun _ => rfl); generalize a1.eval = ρ at *
              clear h0 h2
              go_simp <;> (intros; first | (exfalso; omega) | rfl | omega)
            · intro vs p hI hp
              have h3 : (vs 3) = .bool false := hp 3 (by simp [Ldf6])
              have e17 : (Roll.putD Ddf6 vs [3] b0).eval (.tmp 17) = .bool false := (Roll.eval_new 3 rfl (by decide) (by decide) (by omega)).trans h3
              clear hp hlv hN
              unfold Roll.Goes
              simp only [Ldf6, List.getD_cons_zero, List.getD_cons_succ]
              generalize Roll.putD Ddf6 vs [3] b0 = a1 at *
              refine Roll.goes_val (w' := p) (.bool false) rfl ?_ ⟨hI, Below.refl _ _, rfl⟩
              (have ec : ∀ x, a1.eval (.const x) = x := fun _ => rfl); (have ef : ∀ x, a1.eval (.func x) = .func (.func x) #[] #[] := fun _ => rfl); generalize a1.eval = ρ at *
              clear h3
              go_simp <;> (intros; first | (exfalso; omega) | rfl | omega)
            · intro vs p hI hp
              have h4 : (vs 4) = .bool false := hp 4 (by simp [Ldf6])
              have e6 : (Roll.putD Ddf6 vs [4] b0).eval (.tmp 6) = .pointer (some ⟨bo, 0, none⟩) := (Roll.eval_old rfl).trans (hlv.at 1 (6, .pointer (some ⟨bo, 0, none⟩)) rfl)
              clear hp hlv hN
              exact ⟨fun hg => absurd (h4.symm.trans hg) (by simp), fun hg => ⟨Below.refl _ _, rfl⟩⟩
            · intro vs p hI hp
              have h4 : (vs 4) = .bool false := hp 4 (by simp [Ldf6])
              have e8 : (Roll.putD Ddf6 vs [4] b0).eval (.tmp 8) = .int .i64 (n : Int) := (Roll.eval_old rfl).trans (hlv.at 3 (8, .int .i64 (n : Int)) rfl)
              clear hp hlv hN
              exact ⟨fun hg => absurd (h4.symm.trans hg) (by simp), fun hg => ⟨Below.refl _ _, rfl⟩⟩
            · intro vs p hI hp
              have h5 : (vs 5) = undef := hp 5 (by simp [Ldf6])
              have h6 : (vs 6) = undef := hp 6 (by simp [Ldf6])
              have h4 : (vs 4) = .bool false := hp 4 (by simp [Ldf6])
              have e19 : (Roll.putD Ddf6 vs [5, 6, 4] b0).eval (.tmp 19) = undef := (Roll.eval_new 5 rfl (by decide) (by decide) (by omega)).trans h5
              have e20 : (Roll.putD Ddf6 vs [5, 6, 4] b0).eval (.tmp 20) = undef := (Roll.eval_new 6 rfl (by decide) (by decide) (by omega)).trans h6
              clear hp hlv hN
              exact ⟨fun hg => absurd (h4.symm.trans hg) (by simp), fun hg => ⟨Below.refl _ _, rfl⟩⟩
            · intro vs p hI hp
              have h7 : (vs 7) = undef := hp 7 (by simp [Ldf6])
              have h4 : (vs 4) = .bool false := hp 4 (by simp [Ldf6])
              have e21 : (Roll.putD Ddf6 vs [7, 4] b0).eval (.tmp 21) = undef := (Roll.eval_new 7 rfl (by decide) (by decide) (by omega)).trans h7
              clear hp hlv hN
              exact ⟨fun hg => absurd (h4.symm.trans hg) (by simp), fun hg => ⟨Below.refl _ _, rfl⟩⟩
            · intro vs p hI hp
              have h8 : (vs 8) = undef := hp 8 (by simp [Ldf6])
              have h4 : (vs 4) = .bool false := hp 4 (by simp [Ldf6])
              have e22 : (Roll.putD Ddf6 vs [8, 4] b0).eval (.tmp 22) = undef := (Roll.eval_new 8 rfl (by decide) (by decide) (by omega)).trans h8
              clear hp hlv hN
              exact ⟨fun hg => absurd (h4.symm.trans hg) (by simp), fun hg => ⟨Below.refl _ _, rfl⟩⟩
            · intro vs p hI hp
              have h4 : (vs 4) = .bool false := hp 4 (by simp [Ldf6])
              have e7 : (Roll.putD Ddf6 vs [4] b0).eval (.tmp 7) = .pointer (some ⟨Bx, 0, none⟩) := (Roll.eval_old rfl).trans (hlv.at 2 (7, .pointer (some ⟨Bx, 0, none⟩)) rfl)
              clear hp hlv hN
              exact ⟨fun hg => absurd (h4.symm.trans hg) (by simp), fun hg => ⟨Below.refl _ _, rfl⟩⟩
            · intro vs p hI hp
              have h10 : (vs 10) = undef := hp 10 (by simp [Ldf6])
              have h4 : (vs 4) = .bool false := hp 4 (by simp [Ldf6])
              have e24 : (Roll.putD Ddf6 vs [10, 4] b0).eval (.tmp 24) = undef := (Roll.eval_new 10 rfl (by decide) (by decide) (by omega)).trans h10
              clear hp hlv hN
              exact ⟨fun hg => absurd (h4.symm.trans hg) (by simp), fun hg => ⟨Below.refl _ _, rfl⟩⟩
            · intro vs p hI hp
              have h9 : (vs 9) = undef := hp 9 (by simp [Ldf6])
              have h11 : (vs 11) = undef := hp 11 (by simp [Ldf6])
              have h4 : (vs 4) = .bool false := hp 4 (by simp [Ldf6])
              have e23 : (Roll.putD Ddf6 vs [9, 11, 4] b0).eval (.tmp 23) = undef := (Roll.eval_new 9 rfl (by decide) (by decide) (by omega)).trans h9
              have e25 : (Roll.putD Ddf6 vs [9, 11, 4] b0).eval (.tmp 25) = undef := (Roll.eval_new 11 rfl (by decide) (by decide) (by omega)).trans h11
              clear hp hlv hN
              exact ⟨fun hg => absurd (h4.symm.trans hg) (by simp), fun hg => ⟨Below.refl _ _, rfl⟩⟩
            · intro vs p hI hp
              have h4 : (vs 4) = .bool false := hp 4 (by simp [Ldf6])
              have h12 : (vs 12) = undef := hp 12 (by simp [Ldf6])
              have e18 : (Roll.putD Ddf6 vs [4, 12] b0).eval (.tmp 18) = .bool false := (Roll.eval_new 4 rfl (by decide) (by decide) (by omega)).trans h4
              have e26 : (Roll.putD Ddf6 vs [4, 12] b0).eval (.tmp 26) = undef := (Roll.eval_new 12 rfl (by decide) (by decide) (by omega)).trans h12
              clear hp hlv hN
              unfold Roll.Goes
              simp only [Ldf6, List.getD_cons_zero, List.getD_cons_succ]
              generalize Roll.putD Ddf6 vs [4, 12] b0 = a1 at *
              refine Roll.goes_val (w' := p) (.bool false) rfl ?_ ⟨hI, Below.refl _ _, rfl⟩
              (have ec : ∀ x, a1.eval (.const x) = x := fun _ => rfl); (have ef : ∀ x, a1.eval (.func x) = .func (.func x) #[] #[] := fun _ => rfl); generalize a1.eval = ρ at *
              clear h4 h12
              go_simp <;> (intros; first | (exfalso; omega) | rfl | omega)
          · intro vs p hI hR
            have h0 : (vs 0) = .int .i64 (n : Int) := hR 0 (by omega)
            have h1 : (vs 1) = .slice a n c := hR 1 (by omega)
            have h2 : (vs 2) = .int .i64 (n : Int) := hR 2 (by omega)
            have h3 : (vs 3) = .bool false := hR 3 (by omega)
            have h4 : (vs 4) = .bool false := hR 4 (by omega)
            have h5 : (vs 5) = undef := hR 5 (by omega)
            have h6 : (vs 6) = undef := hR 6 (by omega)
            have h7 : (vs 7) = undef := hR 7 (by omega)
            have h8 : (vs 8) = undef := hR 8 (by omega)
            have h9 : (vs 9) = undef := hR 9 (by omega)
            have h10 : (vs 10) = undef := hR 10 (by omega)
            have h11 : (vs 11) = undef := hR 11 (by omega)
            have h12 : (vs 12) = undef := hR 12 (by omega)
            have h13 : (vs 13) = .bool false := hR 13 (by omega)
            clear hR
            simp only [List.range_succ, List.range_zero, List.nil_append, List.cons_append, Roll.putD, Act.put, List.getD_cons_zero, List.getD_cons_succ, List.setIfInBounds_toArray, List.set_cons_zero, List.set_cons_succ, List.drop_succ_cons, List.drop_zero, Ddf6]
            simp only [h0, h1, h2, h3, h4, h5, h6, h7, h8, h9, h10, h11, h12, h13]
            clear h0 h1 h2 h3 h4 h5 h6 h7 h8 h9 h10 h11 h12 h13
            obtain ⟨p6, hp6⟩ : ∃ z, z = p := ⟨_, rfl⟩
            subst hp6
            have HD6 := Lib.hid (HDW.out.below hI)
            have HX6 : Hid (p6.heap[Bx]? = some (.cells (kcells x) 65 (0, 0))) := Lib.hid ((hI.block _ HLX.out).trans HXW.out)
            have HB6 : Hid (Below W.heap.size W p6) := Lib.hid (HBW.out.trans (hI.mono HBW.out.size))
            clear hI HCO HLO HCX HLX HXW HDW HCE HLE HBW HWW
            apply wpList_nil
            gi_step
            gi_step
            gi_wp2
            gi_cut [] from 9 (fun wx => ∃ es1 a3 N3 c3, es1 = es ++ (rest.take n).map remE ∧ DS w W0 w.heap.size bo es1 rest wx (.slice a3 N3 c3) a n c ∧ KD w.heap.size W wx)
            case first =>
              cases a with
              | none =>
                have hc0 : c = 0 := HD6.out.ps.2.2.2.2.1 rfl
                have hn0 : n = 0 := by omega
                subst hc0
                subst hn0
                clear hnc hcm
                have HCO : Hid (p6.cell? ⟨bo, 0, none⟩ = some (.slice none 0 0)) := Lib.hid HD6.out.o.cell
                have HLO : Hid (bo < p6.heap.size) := Lib.hid HD6.out.o.lt
                have HCE : Hid (p6.cell? ⟨w.heap.size, 0, none⟩ = some sl) := Lib.hid HD6.out.e.cell
                have HLE : Hid (w.heap.size < p6.heap.size) := Lib.hid HD6.out.e.lt
                have HCX : Hid (p6.cell? ⟨Bx, 0, none⟩ = some (.string x.k)) := Lib.hid (cell_of_row p6 Bx 0 _ _ _ HX6.out)
                have HLX : Hid (Bx < p6.heap.size) := Lib.hid (Array.getElem?_eq_some_iff.1 HX6.out).1
                have HPU : Hid (Ps (DP W0) p6 none 0 0 (rest.take 0)) := Lib.hid ((HD6.out.ps.keepP HD6.out.kp).upto 0 (Nat.le_refl _))
                have HKB : Hid (0 ≤ 1000000000) := Lib.hid (by have := HLEN.out; have := HN.out; omega)
                have HNE : Hid (¬ sl.ownBlock = some w.heap.size) := Lib.hid (fun e => HD6.out.e.not_row (by decide) HD6.out.row e.symm)
                have HNO : Hid (¬ sl.ownBlock = some bo) := Lib.hid (fun e => HD6.out.o.not_row (by decide) HD6.out.row e.symm)
                have HOW := Lib.hid (Own.ofRow HD6.out.row)
                have HB8 : Hid (es.length ≤ maxLen ∧ es.length * 40 ≤ 140737488355328) := Lib.hid (by have := HLEN.out; have := HN.out; unfold maxLen; exact ⟨by omega, by omega⟩)
                refine Roll.region_v_r 6 75 Ddf8 Ldf8 [(5, .pointer (some ⟨w.heap.size, 0, none⟩)), (6, .pointer (some ⟨bo, 0, none⟩)), (7, .pointer (some ⟨Bx, 0, none⟩)), (8, .int .i64 (0 : Int))] 5 [true, true, true, true, false, false] (fun p => Below p6.heap.size p6 p) (fun vv p => ∃ p8 k', Below p6.heap.size p6 p8 ∧ Own p 61 3 k' vv es.length (ecells es ++ (ecells ((rest.take 0).map remE))) ∧ (∀ j, k' = some j → sl.ownBlock = some j ∨ p6.heap.size ≤ j) ∧ Kept (fun j => sl.ownBlock = some j) p8 p) (fun p => Kept (fun j => sl.ownBlock = some j) p6 p) (fun p p2 => Kept (fun j => sl.ownBlock = some j) p p2) [fun vv p => (vv 0) = sl, fun vv p => (vv 1) = .slice none 0 0, fun vv p => (vv 2) = .int .i64 (0 : Int), fun vv p => (vv 3) = .slice none 0 0, fun vv p => ∃ k4, Own p 61 3 k4 (vv 4) 0 (ecells ((rest.take 0).map remE)) ∧ ∀ j, k4 = some j → p6.heap.size ≤ j, fun vv p => True] (by kernel_rfl) (by kernel_rfl) (by rintro ⟨_, _, h⟩; exact h) (by kernel_rfl) rfl ⟨rfl, rfl, rfl, rfl, trivial⟩ ((Below.refl _ _).drew) (by decide) (by kernel_rfl) (fun _ h => Kept.of_below _ h) (fun _ _ h => by obtain ⟨_, _, h1, _, _, h4⟩ := h; exact (Kept.of_below _ h1).trans h4 (fun _ _ h => h)) (fun _ => Kept.refl _ _) ?_ ?_ ?_
                · exact ⟨fun _ _ _ _ h => h, fun _ _ _ _ h => h, fun _ _ _ _ h => h, fun _ _ _ _ h => h, fun _ _ _ hs h => by obtain ⟨k4, e1, e2⟩ := h; exact ⟨k4, e1.kept hs (fun j hj e => by have := HOW.out.1.lt j e; have := e2 j hj; omega), e2⟩, fun _ _ _ _ h => h, trivial⟩
                · intro b0 hN hlv
                  refine ⟨?_, ?_, ?_, ?_, ?_, ?_, trivial⟩
                  · intro vs p hI0 hp
                    have hI := Roll.inw_pure (by decide) rfl hI0
                    clear hI0
                    have e5 : (Roll.putD Ddf8 vs [] b0).eval (.tmp 5) = .pointer (some ⟨w.heap.size, 0, none⟩) := (Roll.eval_old rfl).trans (hlv.at 0 (5, .pointer (some ⟨w.heap.size, 0, none⟩)) rfl)
                    clear hp hlv hN
                    unfold Roll.Goes
                    simp only [Ldf8, List.getD_cons_zero, List.getD_cons_succ]
                    generalize Roll.putD Ddf8 vs [] b0 = a1 at *
                    have cf : p.cell? ⟨w.heap.size, 0, none⟩ = some (sl) := (hI.cell (p := ⟨w.heap.size, 0, none⟩) HLE.out HNE.out).trans HCE.out
                    refine Roll.goes_val (w' := p) (sl) rfl ?_ ⟨(Roll.outw_pure (by decide) rfl), rfl⟩
                    (have ec : ∀ x, a1.eval (.const x) = x := fun _ => rfl); (have ef : ∀ x, a1.eval (.func x) = .func (.func x) #[] #[] := fun _ => rfl); generalize a1.eval = ρ at *
                    skip
                    go_simp <;> (intros; first | (exfalso; omega) | rfl)
                  · intro vs p hI0 hp
                    have hI := Roll.inw_pure (by decide) rfl hI0
                    clear hI0
                    have e6 : (Roll.putD Ddf8 vs [] b0).eval (.tmp 6) = .pointer (some ⟨bo, 0, none⟩) := (Roll.eval_old rfl).trans (hlv.at 1 (6, .pointer (some ⟨bo, 0, none⟩)) rfl)
                    clear hp hlv hN
                    unfold Roll.Goes
                    simp only [Ldf8, List.getD_cons_zero, List.getD_cons_succ]
                    generalize Roll.putD Ddf8 vs [] b0 = a1 at *
                    have cf : p.cell? ⟨bo, 0, none⟩ = some (.slice none 0 0) := (hI.cell (p := ⟨bo, 0, none⟩) HLO.out HNO.out).trans HCO.out
                    refine Roll.goes_val (w' := p) (.slice none 0 0) rfl ?_ ⟨(Roll.outw_pure (by decide) rfl), rfl⟩
                    (have ec : ∀ x, a1.eval (.const x) = x := fun _ => rfl); (have ef : ∀ x, a1.eval (.func x) = .func (.func x) #[] #[] := fun _ => rfl); generalize a1.eval = ρ at *
                    skip
                    go_simp <;> (intros; first | (exfalso; omega) | rfl)
                  · intro vs p hI0 hp
                    have hI := Roll.inw_pure (by decide) rfl hI0
                    clear hI0
                    have e8 : (Roll.putD Ddf8 vs [] b0).eval (.tmp 8) = .int .i64 (0 : Int) := (Roll.eval_old rfl).trans (hlv.at 3 (8, .int .i64 (0 : Int)) rfl)
                    clear hp hlv hN
                    unfold Roll.Goes
                    simp only [Ldf8, List.getD_cons_zero, List.getD_cons_succ]
                    generalize Roll.putD Ddf8 vs [] b0 = a1 at *
                    refine Roll.goes_val (w' := p) (.int .i64 (0 : Int)) rfl ?_ ⟨(Roll.outw_pure (by decide) rfl), rfl⟩
                    (have ec : ∀ x, a1.eval (.const x) = x := fun _ => rfl); (have ef : ∀ x, a1.eval (.func x) = .func (.func x) #[] #[] := fun _ => rfl); generalize a1.eval = ρ at *
                    skip
                    go_simp <;> (intros; first | (exfalso; omega) | rfl)
                  · intro vs p hI0 hp
                    have hI := Roll.inw_pure (by decide) rfl hI0
                    clear hI0
                    have h1 : (vs 1) = .slice none 0 0 := hp 1 (by simp [Ldf8])
                    have h2 : (vs 2) = .int .i64 (0 : Int) := hp 2 (by simp [Ldf8])
                    have e31 : (Roll.putD Ddf8 vs [1, 2] b0).eval (.tmp 31) = .slice none 0 0 := (Roll.eval_new 1 rfl (by decide) (by decide) (by omega)).trans h1
                    have e32 : (Roll.putD Ddf8 vs [1, 2] b0).eval (.tmp 32) = .int .i64 (0 : Int) := (Roll.eval_new 2 rfl (by decide) (by decide) (by omega)).trans h2
                    clear hp hlv hN
                    unfold Roll.Goes
                    simp only [Ldf8, List.getD_cons_zero, List.getD_cons_succ]
                    generalize Roll.putD Ddf8 vs [1, 2] b0 = a1 at *
                    refine Roll.goes_val (w' := p) (.slice none 0 0) rfl ?_ ⟨(Roll.outw_pure (by decide) rfl), rfl⟩
                    (have ec : ∀ x, a1.eval (.const x) = x := fun _ => rfl); (have ef : ∀ x, a1.eval (.func x) = .func (.func x) #[] #[] := fun _ => rfl); generalize a1.eval = ρ at *
                    clear h1 h2
                    go_simp <;> (intros; first | (exfalso; omega) | rfl)
                  · intro vs p hI0 hp
                    have hI := Roll.inw_pre (by decide) rfl hI0
                    clear hI0
                    have h3 : (vs 3) = .slice none 0 0 := hp 3 (by simp [Ldf8])
                    have e33 : (Roll.putD Ddf8 vs [3] b0).eval (.tmp 33) = .slice none 0 0 := (Roll.eval_new 3 rfl (by decide) (by decide) (by omega)).trans h3
                    clear hp hlv hN
                    unfold Roll.Goes
                    simp only [Ldf8, List.getD_cons_zero, List.getD_cons_succ]
                    generalize Roll.putD Ddf8 vs [3] b0 = a1 at *
                    refine Roll.goes_call 58 #[.slice none 0 0] p rfl (by have ec : ∀ x, a1.eval (.const x) = x := fun _ => rfl; have ef : ∀ x, a1.eval (.func x) = .func (.func x) #[] #[] := fun _ => rfl; generalize a1.eval = ρ at *; go_simp) ?_
                    refine (removals_any ((HPU.out).below hI) HKB.out).mono ?_
                    rintro z p2 ⟨v, rfl, hrow, hb2⟩
                    obtain ⟨ho, hbj⟩ := Own.ofRow hrow
                    exact ⟨_, rfl, Roll.outw_pre (by decide) rfl (hI.trans (hb2.mono hI.size)) (Kept.of_below _ hb2), _, ho, fun j hj => Nat.le_trans hI.size (hbj j hj)⟩
                  · intro vs p hI0 hp
                    have hI := Roll.inw_k0 rfl hI0
                    clear hI0
                    have h0 : (vs 0) = sl := hp 0 (by simp [Ldf8])
                    have h4 : ∃ k4, Own p 61 3 k4 (vs 4) 0 (ecells ((rest.take 0).map remE)) ∧ ∀ j, k4 = some j → p6.heap.size ≤ j := hp 4 (by simp [Ldf8])
                    have e30 : (Roll.putD Ddf8 vs [0, 4] b0).eval (.tmp 30) = sl := (Roll.eval_new 0 rfl (by decide) (by decide) (by omega)).trans h0
                    have e34 : (Roll.putD Ddf8 vs [0, 4] b0).eval (.tmp 34) = vs 4 := (Roll.eval_new 4 rfl (by decide) (by decide) (by omega))
                    clear hp hlv hN
                    unfold Roll.Goes
                    simp only [Ldf8, List.getD_cons_zero, List.getD_cons_succ]
                    generalize Roll.putD Ddf8 vs [0, 4] b0 = a1 at *
                    obtain ⟨k4, ho4, hb4⟩ := h4
                    obtain ⟨a4, c4, hv4, hsl4⟩ := ho4.sl
                    refine wpList_append_any _ rfl (.tmp 30) (.tmp 34) _ _ rfl 61 i0 _ 3 40 Try.underlying56 hi hz0 hz1 hz2 rfl sl.ownBlock sl es.length (ecells es) e30 (HOW.out.1.kept (Kept.of_below (fun _ => False) hI) (fun _ _ h => h)) 0 (ecells ((rest.take 0).map remE)) (by rw [e34, hv4]; exact hsl4.src Try.underlying56 (ecells_cell _)) HB8.out.1 HB8.out.2 ?_
                    intro k' v' w' ho' hf' hK' _
                    exact ⟨v', rfl, Roll.outw_k0 rfl ⟨_, k', hI, ho', fun j hj => (hf' j hj).imp id (fun e => Nat.le_trans hI.size e), hK'⟩ hK', trivial⟩
                · intro vs p hI hR
                  have h0 : (vs 0) = sl := hR 0 (by omega)
                  have h1 : (vs 1) = .slice none 0 0 := hR 1 (by omega)
                  have h2 : (vs 2) = .int .i64 (0 : Int) := hR 2 (by omega)
                  have h3 : (vs 3) = .slice none 0 0 := hR 3 (by omega)
                  have h4 : ∃ k4, Own p 61 3 k4 (vs 4) 0 (ecells ((rest.take 0).map remE)) ∧ ∀ j, k4 = some j → p6.heap.size ≤ j := hR 4 (by omega)
                  have h5 : True := hR 5 (by omega)
                  clear hR
                  simp only [List.range_succ, List.range_zero, List.nil_append, List.cons_append, Roll.putD, Act.put, List.getD_cons_zero, List.getD_cons_succ, List.setIfInBounds_toArray, List.set_cons_zero, List.set_cons_succ, List.drop_succ_cons, List.drop_zero, Ddf8]
                  simp only [h0, h1, h2, h3]
                  clear h0 h1 h2 h3
                  clear h4 h5 HPU HKB HB8 HCO HLO HCE HLE HCX HNE HNO
                  generalize vs 4 = v4 at *
                  generalize vs 5 = v5 at *
                  obtain ⟨p8, k', hb8, ho', hf', hK'⟩ := hI
                  obtain ⟨a3, c3, rfl, -⟩ := id ho'.sl
                  obtain ⟨es1, hes1⟩ : ∃ es1, es1 = es ++ (rest.take 0).map remE := ⟨_, rfl⟩
                  have hl1 : es1.length = es.length := by rw [hes1, List.length_append, List.length_map, List.length_take]; have := HN.out; omega
                  have hown : p.ownsRow w.heap.size 61 3 (.slice a3 es.length c3) es1.length (ecells es1) := by
                    have h := Own.owns (base := w.heap.size) ho' (fun j hj => by
                      rcases hf' j hj with h | h
                      · exact HOW.out.2 j h
                      · have := HD6.out.b.size; omega)
                    rw [hl1, hes1, ecells_app]
                    exact h
                  obtain ⟨ee, hda, hka⟩ := DS.app HD6.out hne0 (Nat.le_refl _) hb8 hK' hown
                  have ce := ee.cell
                  have fe := ee.frozen
                  have HDA := Lib.hid hda
                  have HKA := Lib.hid ((KD.of_below HB6.out HDS.out.b.size).trans hka)
                  have HL1 : Hid (es1.length + rest.length + 1 ≤ 4000000) := Lib.hid (by have := HLEN.out; have := HN.out; omega)
                  clear ee hda hka hown hl1 ho' hf' hK' hb8 HOW
                  go_wp2_with fail
                  gi_meet
                  exact ⟨es1, a3, _, c3, hes1, HDA.out, HKA.out⟩
              | some ad =>
                obtain ⟨b, off, sp⟩ := ad
                obtain rfl : sp = none := HD6.out.sp _ rfl
                have hkc : (n : Int) ≤ (c : Int) := by omega
                have HCO : Hid (p6.cell? ⟨bo, 0, none⟩ = some (.slice (some ⟨b, off, none⟩) n c)) := Lib.hid HD6.out.o.cell
                have HLO : Hid (bo < p6.heap.size) := Lib.hid HD6.out.o.lt
                have HCE : Hid (p6.cell? ⟨w.heap.size, 0, none⟩ = some sl) := Lib.hid HD6.out.e.cell
                have HLE : Hid (w.heap.size < p6.heap.size) := Lib.hid HD6.out.e.lt
                have HCX : Hid (p6.cell? ⟨Bx, 0, none⟩ = some (.string x.k)) := Lib.hid (cell_of_row p6 Bx 0 _ _ _ HX6.out)
                have HLX : Hid (Bx < p6.heap.size) := Lib.hid (Array.getElem?_eq_some_iff.1 HX6.out).1
                have HPU : Hid (Ps (DP W0) p6 (some ⟨b, off, none⟩) n c (rest.take n)) := Lib.hid ((HD6.out.ps.keepP HD6.out.kp).upto n (Nat.le_refl _))
                have HKB : Hid (n ≤ 1000000000) := Lib.hid (by have := HLEN.out; have := HN.out; omega)
                have HNE : Hid (¬ sl.ownBlock = some w.heap.size) := Lib.hid (fun e => HD6.out.e.not_row (by decide) HD6.out.row e.symm)
                have HNO : Hid (¬ sl.ownBlock = some bo) := Lib.hid (fun e => HD6.out.o.not_row (by decide) HD6.out.row e.symm)
                have HOW := Lib.hid (Own.ofRow HD6.out.row)
                have HB8 : Hid (es.length + n ≤ maxLen ∧ (es.length + n) * 40 ≤ 140737488355328) := Lib.hid (by have := HLEN.out; have := HN.out; unfold maxLen; exact ⟨by omega, by omega⟩)
                refine Roll.region_v_r 6 75 Ddf8 Ldf8 [(5, .pointer (some ⟨w.heap.size, 0, none⟩)), (6, .pointer (some ⟨bo, 0, none⟩)), (7, .pointer (some ⟨Bx, 0, none⟩)), (8, .int .i64 (n : Int))] 5 [true, true, true, true, false, false] (fun p => Below p6.heap.size p6 p) (fun vv p => ∃ p8 k', Below p6.heap.size p6 p8 ∧ Own p 61 3 k' vv (es.length + n) (ecells es ++ (ecells ((rest.take n).map remE))) ∧ (∀ j, k' = some j → sl.ownBlock = some j ∨ p6.heap.size ≤ j) ∧ Kept (fun j => sl.ownBlock = some j) p8 p) (fun p => Kept (fun j => sl.ownBlock = some j) p6 p) (fun p p2 => Kept (fun j => sl.ownBlock = some j) p p2) [fun vv p => (vv 0) = sl, fun vv p => (vv 1) = .slice (some ⟨b, off, none⟩) n c, fun vv p => (vv 2) = .int .i64 (n : Int), fun vv p => (vv 3) = .slice (some ⟨b, off, none⟩) n c, fun vv p => ∃ k4, Own p 61 3 k4 (vv 4) n (ecells ((rest.take n).map remE)) ∧ ∀ j, k4 = some j → p6.heap.size ≤ j, fun vv p => True] (by kernel_rfl) (by kernel_rfl) (by rintro ⟨_, _, h⟩; exact h) (by kernel_rfl) rfl ⟨rfl, rfl, rfl, rfl, trivial⟩ ((Below.refl _ _).drew) (by decide) (by kernel_rfl) (fun _ h => Kept.of_below _ h) (fun _ _ h => by obtain ⟨_, _, h1, _, _, h4⟩ := h; exact (Kept.of_below _ h1).trans h4 (fun _ _ h => h)) (fun _ => Kept.refl _ _) ?_ ?_ ?_
                · exact ⟨fun _ _ _ _ h => h, fun _ _ _ _ h => h, fun _ _ _ _ h => h, fun _ _ _ _ h => h, fun _ _ _ hs h => by obtain ⟨k4, e1, e2⟩ := h; exact ⟨k4, e1.kept hs (fun j hj e => by have := HOW.out.1.lt j e; have := e2 j hj; omega), e2⟩, fun _ _ _ _ h => h, trivial⟩
                · intro b0 hN hlv
                  refine ⟨?_, ?_, ?_, ?_, ?_, ?_, trivial⟩
                  · intro vs p hI0 hp
                    have hI := Roll.inw_pure (by decide) rfl hI0
                    clear hI0
                    have e5 : (Roll.putD Ddf8 vs [] b0).eval (.tmp 5) = .pointer (some ⟨w.heap.size, 0, none⟩) := (Roll.eval_old rfl).trans (hlv.at 0 (5, .pointer (some ⟨w.heap.size, 0, none⟩)) rfl)
                    clear hp hlv hN
                    unfold Roll.Goes
                    simp only [Ldf8, List.getD_cons_zero, List.getD_cons_succ]
                    generalize Roll.putD Ddf8 vs [] b0 = a1 at *
                    have cf : p.cell? ⟨w.heap.size, 0, none⟩ = some (sl) := (hI.cell (p := ⟨w.heap.size, 0, none⟩) HLE.out HNE.out).trans HCE.out
                    refine Roll.goes_val (w' := p) (sl) rfl ?_ ⟨(Roll.outw_pure (by decide) rfl), rfl⟩
                    (have ec : ∀ x, a1.eval (.const x) = x := fun _ => rfl); (have ef : ∀ x, a1.eval (.func x) = .func (.func x) #[] #[] := fun _ => rfl); generalize a1.eval = ρ at *
                    skip
                    go_simp <;> (intros; first | (exfalso; omega) | rfl)
                  · intro vs p hI0 hp
                    have hI := Roll.inw_pure (by decide) rfl hI0
                    clear hI0
                    have e6 : (Roll.putD Ddf8 vs [] b0).eval (.tmp 6) = .pointer (some ⟨bo, 0, none⟩) := (Roll.eval_old rfl).trans (hlv.at 1 (6, .pointer (some ⟨bo, 0, none⟩)) rfl)
                    clear hp hlv hN
                    unfold Roll.Goes
                    simp only [Ldf8, List.getD_cons_zero, List.getD_cons_succ]
                    generalize Roll.putD Ddf8 vs [] b0 = a1 at *
                    have cf : p.cell? ⟨bo, 0, none⟩ = some (.slice (some ⟨b, off, none⟩) n c) := (hI.cell (p := ⟨bo, 0, none⟩) HLO.out HNO.out).trans HCO.out
                    refine Roll.goes_val (w' := p) (.slice (some ⟨b, off, none⟩) n c) rfl ?_ ⟨(Roll.outw_pure (by decide) rfl), rfl⟩
                    (have ec : ∀ x, a1.eval (.const x) = x := fun _ => rfl); (have ef : ∀ x, a1.eval (.func x) = .func (.func x) #[] #[] := fun _ => rfl); generalize a1.eval = ρ at *
                    skip
                    go_simp <;> (intros; first | (exfalso; omega) | rfl)
                  · intro vs p hI0 hp
                    have hI := Roll.inw_pure (by decide) rfl hI0
                    clear hI0
                    have e8 : (Roll.putD Ddf8 vs [] b0).eval (.tmp 8) = .int .i64 (n : Int) := (Roll.eval_old rfl).trans (hlv.at 3 (8, .int .i64 (n : Int)) rfl)
                    clear hp hlv hN
                    unfold Roll.Goes
                    simp only [Ldf8, List.getD_cons_zero, List.getD_cons_succ]
                    generalize Roll.putD Ddf8 vs [] b0 = a1 at *
                    refine Roll.goes_val (w' := p) (.int .i64 (n : Int)) rfl ?_ ⟨(Roll.outw_pure (by decide) rfl), rfl⟩
                    (have ec : ∀ x, a1.eval (.const x) = x := fun _ => rfl); (have ef : ∀ x, a1.eval (.func x) = .func (.func x) #[] #[] := fun _ => rfl); generalize a1.eval = ρ at *
                    skip
                    go_simp <;> (intros; first | (exfalso; omega) | rfl)
                  · intro vs p hI0 hp
                    have hI := Roll.inw_pure (by decide) rfl hI0
                    clear hI0
                    have h1 : (vs 1) = .slice (some ⟨b, off, none⟩) n c := hp 1 (by simp [Ldf8])
                    have h2 : (vs 2) = .int .i64 (n : Int) := hp 2 (by simp [Ldf8])
                    have e31 : (Roll.putD Ddf8 vs [1, 2] b0).eval (.tmp 31) = .slice (some ⟨b, off, none⟩) n c := (Roll.eval_new 1 rfl (by decide) (by decide) (by omega)).trans h1
                    have e32 : (Roll.putD Ddf8 vs [1, 2] b0).eval (.tmp 32) = .int .i64 (n : Int) := (Roll.eval_new 2 rfl (by decide) (by decide) (by omega)).trans h2
                    clear hp hlv hN
                    unfold Roll.Goes
                    simp only [Ldf8, List.getD_cons_zero, List.getD_cons_succ]
                    generalize Roll.putD Ddf8 vs [1, 2] b0 = a1 at *
                    refine Roll.goes_val (w' := p) (.slice (some ⟨b, off, none⟩) n c) rfl ?_ ⟨(Roll.outw_pure (by decide) rfl), rfl⟩
                    (have ec : ∀ x, a1.eval (.const x) = x := fun _ => rfl); (have ef : ∀ x, a1.eval (.func x) = .func (.func x) #[] #[] := fun _ => rfl); generalize a1.eval = ρ at *
                    clear h1 h2
                    go_simp <;> (intros; first | (exfalso; omega) | rfl)
                  · intro vs p hI0 hp
                    have hI := Roll.inw_pre (by decide) rfl hI0
                    clear hI0
                    have h3 : (vs 3) = .slice (some ⟨b, off, none⟩) n c := hp 3 (by simp [Ldf8])
                    have e33 : (Roll.putD Ddf8 vs [3] b0).eval (.tmp 33) = .slice (some ⟨b, off, none⟩) n c := (Roll.eval_new 3 rfl (by decide) (by decide) (by omega)).trans h3
                    clear hp hlv hN
                    unfold Roll.Goes
                    simp only [Ldf8, List.getD_cons_zero, List.getD_cons_succ]
                    generalize Roll.putD Ddf8 vs [3] b0 = a1 at *
                    refine Roll.goes_call 58 #[.slice (some ⟨b, off, none⟩) n c] p rfl (by have ec : ∀ x, a1.eval (.const x) = x := fun _ => rfl; have ef : ∀ x, a1.eval (.func x) = .func (.func x) #[] #[] := fun _ => rfl; generalize a1.eval = ρ at *; go_simp) ?_
                    refine (removals_any ((HPU.out).below hI) HKB.out).mono ?_
                    rintro z p2 ⟨v, rfl, hrow, hb2⟩
                    obtain ⟨ho, hbj⟩ := Own.ofRow hrow
                    exact ⟨_, rfl, Roll.outw_pre (by decide) rfl (hI.trans (hb2.mono hI.size)) (Kept.of_below _ hb2), _, ho, fun j hj => Nat.le_trans hI.size (hbj j hj)⟩
                  · intro vs p hI0 hp
                    have hI := Roll.inw_k0 rfl hI0
                    clear hI0
                    have h0 : (vs 0) = sl := hp 0 (by simp [Ldf8])
                    have h4 : ∃ k4, Own p 61 3 k4 (vs 4) n (ecells ((rest.take n).map remE)) ∧ ∀ j, k4 = some j → p6.heap.size ≤ j := hp 4 (by simp [Ldf8])
                    have e30 : (Roll.putD Ddf8 vs [0, 4] b0).eval (.tmp 30) = sl := (Roll.eval_new 0 rfl (by decide) (by decide) (by omega)).trans h0
                    have e34 : (Roll.putD Ddf8 vs [0, 4] b0).eval (.tmp 34) = vs 4 := (Roll.eval_new 4 rfl (by decide) (by decide) (by omega))
                    clear hp hlv hN
                    unfold Roll.Goes
                    simp only [Ldf8, List.getD_cons_zero, List.getD_cons_succ]
                    generalize Roll.putD Ddf8 vs [0, 4] b0 = a1 at *
                    obtain ⟨k4, ho4, hb4⟩ := h4
                    obtain ⟨a4, c4, hv4, hsl4⟩ := ho4.sl
                    refine wpList_append_any _ rfl (.tmp 30) (.tmp 34) _ _ rfl 61 i0 _ 3 40 Try.underlying56 hi hz0 hz1 hz2 rfl sl.ownBlock sl es.length (ecells es) e30 (HOW.out.1.kept (Kept.of_below (fun _ => False) hI) (fun _ _ h => h)) n (ecells ((rest.take n).map remE)) (by rw [e34, hv4]; exact hsl4.src Try.underlying56 (ecells_cell _)) HB8.out.1 HB8.out.2 ?_
                    intro k' v' w' ho' hf' hK' _
                    exact ⟨v', rfl, Roll.outw_k0 rfl ⟨_, k', hI, ho', fun j hj => (hf' j hj).imp id (fun e => Nat.le_trans hI.size e), hK'⟩ hK', trivial⟩
                · intro vs p hI hR
                  have h0 : (vs 0) = sl := hR 0 (by omega)
                  have h1 : (vs 1) = .slice (some ⟨b, off, none⟩) n c := hR 1 (by omega)
                  have h2 : (vs 2) = .int .i64 (n : Int) := hR 2 (by omega)
                  have h3 : (vs 3) = .slice (some ⟨b, off, none⟩) n c := hR 3 (by omega)
                  have h4 : ∃ k4, Own p 61 3 k4 (vs 4) n (ecells ((rest.take n).map remE)) ∧ ∀ j, k4 = some j → p6.heap.size ≤ j := hR 4 (by omega)
                  have h5 : True := hR 5 (by omega)
                  clear hR
                  simp only [List.range_succ, List.range_zero, List.nil_append, List.cons_append, Roll.putD, Act.put, List.getD_cons_zero, List.getD_cons_succ, List.setIfInBounds_toArray, List.set_cons_zero, List.set_cons_succ, List.drop_succ_cons, List.drop_zero, Ddf8]
                  simp only [h0, h1, h2, h3]
                  clear h0 h1 h2 h3
                  clear h4 h5 HPU HKB HB8 HCO HLO HCE HLE HCX HNE HNO
                  generalize vs 4 = v4 at *
                  generalize vs 5 = v5 at *
                  obtain ⟨p8, k', hb8, ho', hf', hK'⟩ := hI
                  obtain ⟨a3, c3, rfl, -⟩ := id ho'.sl
                  obtain ⟨es1, hes1⟩ : ∃ es1, es1 = es ++ (rest.take n).map remE := ⟨_, rfl⟩
                  have hl1 : es1.length = es.length + n := by rw [hes1, List.length_append, List.length_map, List.length_take]; have := HN.out; omega
                  have hown : p.ownsRow w.heap.size 61 3 (.slice a3 (es.length + n) c3) es1.length (ecells es1) := by
                    have h := Own.owns (base := w.heap.size) ho' (fun j hj => by
                      rcases hf' j hj with h | h
                      · exact HOW.out.2 j h
                      · have := HD6.out.b.size; omega)
                    rw [hl1, hes1, ecells_app]
                    exact h
                  obtain ⟨ee, hda, hka⟩ := DS.app HD6.out hne0 (Nat.le_refl _) hb8 hK' hown
                  have ce := ee.cell
                  have fe := ee.frozen
                  have HDA := Lib.hid hda
                  have HKA := Lib.hid ((KD.of_below HB6.out HDS.out.b.size).trans hka)
                  have HL1 : Hid (es1.length + rest.length + 1 ≤ 4000000) := Lib.hid (by have := HLEN.out; have := HN.out; omega)
                  clear ee hda hka hown hl1 ho' hf' hK' hb8 HOW
                  go_wp2_with fail
                  gi_meet
                  exact ⟨es1, a3, _, c3, hes1, HDA.out, HKA.out⟩
            case rest =>
              obtain ⟨es1, a3, N3, c3, hes1, hda, hka⟩ := hcut
              have HES1 := Lib.hid hes1
              have HDA := Lib.hid hda
              have HKA := Lib.hid hka
              have HL1 : Hid (es1.length + rest.length + 1 ≤ 4000000) := Lib.hid (by have := HLEN.out; have := HN.out; rw [hes1, List.length_append, List.length_map, List.length_take]; omega)
              have HDR2 : Hid (diffRound (es, rest) x = (es1 ++ [setE x], [])) := Lib.hid (by
                rw [HDR.out, HDROP0.out, HES1.out]
                rfl)
              clear hes1 hda hka HD6 HX6 HB6
              gi_step
              gi_step
              gi_cut [] from 9 (fun wx => ∃ A9 C9, DS w W0 w.heap.size bo es1 [] wx (.slice a3 N3 c3) A9 0 C9 ∧ KD w.heap.size W wx)
              case first =>
                have hcc := HDA.out.o.cell
                have hff := HDA.out.o.frozen
                cases a with
                | none =>
                  have hc0 : c = 0 := HDA.out.ps.2.2.2.2.1 rfl
                  have hn0 : n = 0 := by omega
                  subst hc0
                  subst hn0
                  clear hnc hcm
                  gi_wp2
                  gi_meet
                  obtain ⟨hd9, hk9⟩ := HDA.out.setO hne0 (Nat.le_of_lt HBO.out) (a' := none) (n' := 0) (c' := 0) (rest' := []) ⟨rfl, rfl, Nat.le_refl _, by decide, fun _ => rfl, fun h => absurd h (by omega)⟩ (fun ad h => by cases h)
                  exact ⟨none, 0, hd9, HKA.out.trans hk9⟩
                | some ad =>
                  obtain ⟨b, off, sp⟩ := ad
                  obtain rfl : sp = none := HDA.out.sp _ rfl
                  have hkn1 : (n : Int) ≤ (n : Int) := by omega
                  have hkc : (n : Int) ≤ (c : Int) := by omega
                  have hp9 := HDA.out.ps.fromK n (Nat.le_refl _)
                  rw [HDROP0.out, Nat.sub_self] at hp9
                  by_cases hck : c = n
                  · rw [if_pos hck, show c - n = 0 by omega] at hp9
                    have HP9 := Lib.hid hp9
                    clear hp9
                    gi_wp2
                    gi_meet
                    obtain ⟨hd9, hk9⟩ := HDA.out.setO hne0 (Nat.le_of_lt HBO.out) HP9.out (fun ad h => by cases h; rfl)
                    exact ⟨_, _, hd9, HKA.out.trans hk9⟩
                  · rw [if_neg hck] at hp9
                    have HP9 := Lib.hid hp9
                    clear hp9
                    gi_wp2
                    gi_meet
                    obtain ⟨hd9, hk9⟩ := HDA.out.setO hne0 (Nat.le_of_lt HBO.out) HP9.out (fun ad h => by cases h; rfl)
                    exact ⟨_, _, hd9, HKA.out.trans hk9⟩
              case rest =>
                obtain ⟨A9, C9, hd9, hk9⟩ := hcut
                obtain ⟨W9, hW9⟩ : ∃ z, z = wc := ⟨_, rfl⟩
                subst hW9
                have HD9 := Lib.hid hd9
                have HK9 := Lib.hid hk9
                have HX9 : Hid (W9.heap[Bx]? = some (.cells (kcells x) 65 (0, 0))) := Lib.hid (HK9.out.p _ _ HXB.out)
                clear hd9 hk9 HDA HKA
                gi_wp2
                have HCO : Hid (W9.cell? ⟨bo, 0, none⟩ = some (.slice A9 0 C9)) := Lib.hid HD9.out.o.cell
                have HLO : Hid (bo < W9.heap.size) := Lib.hid HD9.out.o.lt
                have HCX : Hid (W9.cell? ⟨Bx, 0, none⟩ = some (.string x.k)) := Lib.hid (cell_of_row W9 Bx 0 _ _ _ HX9.out)
                have HLX : Hid (Bx < W9.heap.size) := Lib.hid (Array.getElem?_eq_some_iff.1 HX9.out).1
                have HRX : Hid (W9.rangeAt Bx 0 x.cells) := Lib.hid (range_kv HX9.out)
            
                refine Roll.region_f_r 10 75 Ddf10 Ldf10 [(5, .pointer (some ⟨w.heap.size, 0, none⟩)), (6, .pointer (some ⟨bo, 0, none⟩)), (7, .pointer (some ⟨Bx, 0, none⟩))] (fun p => Below W9.heap.size W9 p) (fun p p2 => Below p.heap.size p p2) [fun vv p => vv = .slice A9 0 C9, fun vv p => vv = .int .i64 (0 : Int), fun vv p => vv = .bool true, fun vv p => vv = .bool true, fun vv p => vv = undef, fun vv p => vv = undef, fun vv p => vv = undef, fun vv p => vv = undef, fun vv p => vv = undef, fun vv p => vv = .bool true] (by kernel_rfl) (by kernel_rfl) (by rintro ⟨_, _, h⟩; exact h) (by kernel_rfl) rfl ⟨rfl, rfl, rfl, trivial⟩ ((Below.refl _ _).drew) ?_ ?_ ?_
                · exact ⟨fun _ _ _ _ h => h, fun _ _ _ _ h => h, fun _ _ _ _ h => h, fun _ _ _ _ h => h, fun _ _ _ _ h => h, fun _ _ _ _ h => h, fun _ _ _ _ h => h, fun _ _ _ _ h => h, fun _ _ _ _ h => h, fun _ _ _ _ h => h, trivial⟩
                · intro b0 hN hlv
                  refine ⟨?_, ?_, ?_, ?_, ?_, ?_, ?_, ?_, ?_, ?_, trivial⟩
                  · intro vs p hI hp
                    have e6 : (Roll.putD Ddf10 vs [] b0).eval (.tmp 6) = .pointer (some ⟨bo, 0, none⟩) := (Roll.eval_old rfl).trans (hlv.at 1 (6, .pointer (some ⟨bo, 0, none⟩)) rfl)
                    clear hp hlv hN
                    unfold Roll.Goes
                    simp only [Ldf10, List.getD_cons_zero, List.getD_cons_succ]
                    generalize Roll.putD Ddf10 vs [] b0 = a1 at *
                    have cf : p.cell? ⟨bo, 0, none⟩ = some (.slice A9 0 C9) := (hI.cell (p := ⟨bo, 0, none⟩) HLO.out).trans HCO.out
                    refine Roll.goes_val (w' := p) (.slice A9 0 C9) rfl ?_ ⟨hI, Below.refl _ _, rfl⟩
                    (have ec : ∀ x, a1.eval (.const x) = x := fun _ => rfl); (have ef : ∀ x, a1.eval (.func x) = .func (.func x) #[] #[] := fun _ => rfl); generalize a1.eval = ρ at *
                    skip
                    go_simp <;> (intros; first | (exfalso; omega) | rfl | omega)
                  · intro vs p hI hp
                    have h0 : (vs 0) = .slice A9 0 C9 := hp 0 (by simp [Ldf10])
                    have e39 : (Roll.putD Ddf10 vs [0] b0).eval (.tmp 39) = .slice A9 0 C9 := (Roll.eval_new 0 rfl (by decide) (by decide) (by omega)).trans h0
                    clear hp hlv hN
                    unfold Roll.Goes
                    simp only [Ldf10, List.getD_cons_zero, List.getD_cons_succ]
                    generalize Roll.putD Ddf10 vs [0] b0 = a1 at *
                    refine Roll.goes_val (w' := p) (.int .i64 (0 : Int)) rfl ?_ ⟨hI, Below.refl _ _, rfl⟩
                    (have ec : ∀ x, a1.eval (.const x) = x := fun _ => rfl); (have ef : ∀ x, a1.eval (.func x) = .func (.func x) #[] #[] := fun _ => rfl); generalize a1.eval = ρ at *
                    clear h0
                    go_simp <;> (intros; first | (exfalso; omega) | rfl | omega)
                  · intro vs p hI hp
                    have h1 : (vs 1) = .int .i64 (0 : Int) := hp 1 (by simp [Ldf10])
                    have e40 : (Roll.putD Ddf10 vs [1] b0).eval (.tmp 40) = .int .i64 (0 : Int) := (Roll.eval_new 1 rfl (by decide) (by decide) (by omega)).trans h1
                    clear hp hlv hN
                    unfold Roll.Goes
                    simp only [Ldf10, List.getD_cons_zero, List.getD_cons_succ]
                    generalize Roll.putD Ddf10 vs [1] b0 = a1 at *
                    refine Roll.goes_val (w' := p) (.bool true) rfl ?_ ⟨hI, Below.refl _ _, rfl⟩
                    (have ec : ∀ x, a1.eval (.const x) = x := fun _ => rfl); (have ef : ∀ x, a1.eval (.func x) = .func (.func x) #[] #[] := fun _ => rfl); generalize a1.eval = ρ at *
                    clear h1
                    go_simp <;> (intros; first | (exfalso; omega) | rfl | omega)
                  · intro vs p hI hp
                    have h2 : (vs 2) = .bool true := hp 2 (by simp [Ldf10])
                    have e41 : (Roll.putD Ddf10 vs [2] b0).eval (.tmp 41) = .bool true := (Roll.eval_new 2 rfl (by decide) (by decide) (by omega)).trans h2
                    clear hp hlv hN
                    unfold Roll.Goes
                    simp only [Ldf10, List.getD_cons_zero, List.getD_cons_succ]
                    generalize Roll.putD Ddf10 vs [2] b0 = a1 at *
                    refine Roll.goes_val (w' := p) (.bool true) rfl ?_ ⟨hI, Below.refl _ _, rfl⟩
                    (have ec : ∀ x, a1.eval (.const x) = x := fun _ => rfl); (have ef : ∀ x, a1.eval (.func x) = .func (.func x) #[] #[] := fun _ => rfl); generalize a1.eval = ρ at *
                    clear h2
                    go_simp <;> (intros; first | (exfalso; omega) | rfl | omega)
                  · intro vs p hI hp
                    have h3 : (vs 3) = .bool true := hp 3 (by simp [Ldf10])
                    have e6 : (Roll.putD Ddf10 vs [3] b0).eval (.tmp 6) = .pointer (some ⟨bo, 0, none⟩) := (Roll.eval_old rfl).trans (hlv.at 1 (6, .pointer (some ⟨bo, 0, none⟩)) rfl)
                    clear hp hlv hN
                    exact ⟨fun hg => absurd (h3.symm.trans hg) (by simp), fun hg => ⟨Below.refl _ _, rfl⟩⟩
                  · intro vs p hI hp
                    have h4 : (vs 4) = undef := hp 4 (by simp [Ldf10])
                    have h3 : (vs 3) = .bool true := hp 3 (by simp [Ldf10])
                    have e43 : (Roll.putD Ddf10 vs [4, 3] b0).eval (.tmp 43) = undef := (Roll.eval_new 4 rfl (by decide) (by decide) (by omega)).trans h4
                    clear hp hlv hN
                    exact ⟨fun hg => absurd (h3.symm.trans hg) (by simp), fun hg => ⟨Below.refl _ _, rfl⟩⟩
                  · intro vs p hI hp
                    have h5 : (vs 5) = undef := hp 5 (by simp [Ldf10])
                    have h3 : (vs 3) = .bool true := hp 3 (by simp [Ldf10])
                    have e44 : (Roll.putD Ddf10 vs [5, 3] b0).eval (.tmp 44) = undef := (Roll.eval_new 5 rfl (by decide) (by decide) (by omega)).trans h5
                    clear hp hlv hN
                    exact ⟨fun hg => absurd (h3.symm.trans hg) (by simp), fun hg => ⟨Below.refl _ _, rfl⟩⟩
                  · intro vs p hI hp
                    have h3 : (vs 3) = .bool true := hp 3 (by simp [Ldf10])
                    have e7 : (Roll.putD Ddf10 vs [3] b0).eval (.tmp 7) = .pointer (some ⟨Bx, 0, none⟩) := (Roll.eval_old rfl).trans (hlv.at 2 (7, .pointer (some ⟨Bx, 0, none⟩)) rfl)
                    clear hp hlv hN
                    exact ⟨fun hg => absurd (h3.symm.trans hg) (by simp), fun hg => ⟨Below.refl _ _, rfl⟩⟩
                  · intro vs p hI hp
                    have h6 : (vs 6) = undef := hp 6 (by simp [Ldf10])
                    have h7 : (vs 7) = undef := hp 7 (by simp [Ldf10])
                    have h3 : (vs 3) = .bool true := hp 3 (by simp [Ldf10])
                    have e45 : (Roll.putD Ddf10 vs [6, 7, 3] b0).eval (.tmp 45) = undef := (Roll.eval_new 6 rfl (by decide) (by decide) (by omega)).trans h6
                    have e46 : (Roll.putD Ddf10 vs [6, 7, 3] b0).eval (.tmp 46) = undef := (Roll.eval_new 7 rfl (by decide) (by decide) (by omega)).trans h7
                    clear hp hlv hN
                    exact ⟨fun hg => absurd (h3.symm.trans hg) (by simp), fun hg => ⟨Below.refl _ _, rfl⟩⟩
                  · intro vs p hI hp
                    have h3 : (vs 3) = .bool true := hp 3 (by simp [Ldf10])
                    have h8 : (vs 8) = undef := hp 8 (by simp [Ldf10])
                    have e42 : (Roll.putD Ddf10 vs [3, 8] b0).eval (.tmp 42) = .bool true := (Roll.eval_new 3 rfl (by decide) (by decide) (by omega)).trans h3
                    have e47 : (Roll.putD Ddf10 vs [3, 8] b0).eval (.tmp 47) = undef := (Roll.eval_new 8 rfl (by decide) (by decide) (by omega)).trans h8
                    clear hp hlv hN
                    unfold Roll.Goes
                    simp only [Ldf10, List.getD_cons_zero, List.getD_cons_succ]
                    generalize Roll.putD Ddf10 vs [3, 8] b0 = a1 at *
                    refine Roll.goes_val (w' := p) (.bool true) rfl ?_ ⟨hI, Below.refl _ _, rfl⟩
                    (have ec : ∀ x, a1.eval (.const x) = x := fun _ => rfl); (have ef : ∀ x, a1.eval (.func x) = .func (.func x) #[] #[] := fun _ => rfl); generalize a1.eval = ρ at *
                    clear h3 h8
                    go_simp <;> (intros; first | (exfalso; omega) | rfl | omega)
                · intro vs p hI hR
                  have h0 : (vs 0) = .slice A9 0 C9 := hR 0 (by omega)
                  have h1 : (vs 1) = .int .i64 (0 : Int) := hR 1 (by omega)
                  have h2 : (vs 2) = .bool true := hR 2 (by omega)
                  have h3 : (vs 3) = .bool true := hR 3 (by omega)
                  have h4 : (vs 4) = undef := hR 4 (by omega)
                  have h5 : (vs 5) = undef := hR 5 (by omega)
                  have h6 : (vs 6) = undef := hR 6 (by omega)
                  have h7 : (vs 7) = undef := hR 7 (by omega)
                  have h8 : (vs 8) = undef := hR 8 (by omega)
                  have h9 : (vs 9) = .bool true := hR 9 (by omega)
                  clear hR
                  simp only [List.range_succ, List.range_zero, List.nil_append, List.cons_append, Roll.putD, Act.put, List.getD_cons_zero, List.getD_cons_succ, List.setIfInBounds_toArray, List.set_cons_zero, List.set_cons_succ, List.drop_succ_cons, List.drop_zero, Ddf10]
                  simp only [h0, h1, h2, h3, h4, h5, h6, h7, h8, h9]
                  clear h0 h1 h2 h3 h4 h5 h6 h7 h8 h9
                  obtain ⟨p10, hp10⟩ : ∃ z, z = p := ⟨_, rfl⟩
                  subst hp10
                  have HD10 := Lib.hid (HD9.out.below hI)
                  have HK10 := Lib.hid (HK9.out.trans (KD.of_below hI HD9.out.b.size))
                  have HX10 : Hid (p10.heap[Bx]? = some (.cells (kcells x) 65 (0, 0))) := Lib.hid (HK10.out.p _ _ HXB.out)
                  clear hI HCO HLO HCX HLX
                  apply wpList_nil
                  gi_step
                  gi_step
                  have HCE : Hid (p10.cell? ⟨w.heap.size, 0, none⟩ = some (.slice a3 N3 c3)) := Lib.hid HD10.out.e.cell
                  have HFE : Hid (p10.frozen? ⟨w.heap.size, 0, none⟩ = false) := Lib.hid HD10.out.e.frozen
                  have HCX : Hid (p10.cell? ⟨Bx, 0, none⟩ = some (.string x.k)) := Lib.hid (cell_of_row p10 Bx 0 _ _ _ HX10.out)
                  have HCX1 : Hid (p10.cell? ⟨Bx, 1, none⟩ = some (.string x.v)) := Lib.hid (cell_of_row p10 Bx 1 _ _ _ HX10.out)
                  have HR11 := Lib.hid HD10.out.row
                  have HB11 : Hid (es1.length + 1 ≤ maxLen ∧ (es1.length + 1) * 40 ≤ 140737488355328) := Lib.hid (by have := HL1.out; unfold maxLen; exact ⟨by omega, by omega⟩)
                  have c0 := HCX.out
                  have c1 := HCX1.out
                  have ce := HCE.out
                  have fe := HFE.out
                  have hk1 := HB11.out.1
                  have hk2 := HB11.out.2
                  clear HCE HCX HCX1 HFE HB11
                  gi_wp2_with (gi_at_builtin; refine wpListIn_append_own _ rfl _ _ 56 rfl w.heap.size 61 i0 (.agg #[.string ⟨#[]⟩, .string ⟨#[]⟩, .bool false]) 3 40 Try.underlying56 hi hz0 hz1 hz2 rfl (by decide) _ _ _ rfl (HR11.out.alloc _) ⟨p10.heap.size, 0, none⟩ 1 1 [.string x.k, .string x.v, .bool false] rfl rfl (three_new _ _ _ _ _) (by simp [Value.oneCell']) hk1 hk2 (by have := HD10.out.b.size; simp; omega) ?_; intro sl' w11 hown' hgrow _; obtain ⟨g', cap', rfl⟩ := ownsRow_succ hown'; obtain ⟨ee, hda, hka⟩ := DS.app (es' := es1 ++ [setE x]) HD10.out hne0 (Nat.le_refl _) ((Below.refl _ p10).alloc (Nat.le_refl _) _) (Kept.grown hgrow) (by rw [List.length_append, ecells_app, ecells_one]; exact hown'); have ce := ee.cell; have fe := ee.frozen; have HD11 := Lib.hid hda; have HK11 := Lib.hid (HK10.out.trans hka); clear ee hda hka hown' hgrow)
                  clear ce fe c0 c1 hk1 hk2 HR11
                  obtain ⟨W11, hW11⟩ : ∃ W11, W11 = w11.setCell ⟨w.heap.size, 0, none⟩ (.slice (some ⟨g', 0, none⟩) (es1.length + 1) cap') := ⟨_, rfl⟩
                  rw [← hW11] at HD11 HK11 ⊢
                  clear hW11
                  have HX11 : Hid (W11.heap[Bx]? = some (.cells (kcells x) 65 (0, 0))) := Lib.hid (HK11.out.p _ _ HXB.out)
                  have HCO : Hid (W11.cell? ⟨bo, 0, none⟩ = some (.slice A9 0 C9)) := Lib.hid HD11.out.o.cell
                  have HLO : Hid (bo < W11.heap.size) := Lib.hid HD11.out.o.lt
                  have HCX : Hid (W11.cell? ⟨Bx, 0, none⟩ = some (.string x.k)) := Lib.hid (cell_of_row W11 Bx 0 _ _ _ HX11.out)
                  have HLX : Hid (Bx < W11.heap.size) := Lib.hid (Array.getElem?_eq_some_iff.1 HX11.out).1
                  
                  refine Roll.region_f_r 12 75 Ddf12 Ldf12 [(5, .pointer (some ⟨w.heap.size, 0, none⟩)), (6, .pointer (some ⟨bo, 0, none⟩)), (7, .pointer (some ⟨Bx, 0, none⟩))] (fun p => Below W11.heap.size W11 p) (fun p p2 => Below p.heap.size p p2) [fun vv p => vv = .slice A9 0 C9, fun vv p => vv = .int .i64 (0 : Int), fun vv p => vv = .bool false, fun vv p => vv = .bool false, fun vv p => vv = undef, fun vv p => vv = undef, fun vv p => vv = undef, fun vv p => vv = undef, fun vv p => vv = undef, fun vv p => vv = undef, fun vv p => vv = undef, fun vv p => vv = .bool false] (by kernel_rfl) (by kernel_rfl) (by rintro ⟨_, _, h⟩; exact h) (by kernel_rfl) rfl ⟨rfl, rfl, rfl, trivial⟩ ((Below.refl _ _).drew) ?_ ?_ ?_
                  · exact ⟨fun _ _ _ _ h => h, fun _ _ _ _ h => h, fun _ _ _ _ h => h, fun _ _ _ _ h => h, fun _ _ _ _ h => h, fun _ _ _ _ h => h, fun _ _ _ _ h => h, fun _ _ _ _ h => h, fun _ _ _ _ h => h, fun _ _ _ _ h => h, fun _ _ _ _ h => h, fun _ _ _ _ h => h, trivial⟩
                  · intro b0 hN hlv
                    refine ⟨?_, ?_, ?_, ?_, ?_, ?_, ?_, ?_, ?_, ?_, ?_, ?_, trivial⟩
                    · intro vs p hI hp
                      have e6 : (Roll.putD Ddf12 vs [] b0).eval (.tmp 6) = .pointer (some ⟨bo, 0, none⟩) := (Roll.eval_old rfl).trans (hlv.at 1 (6, .pointer (some ⟨bo, 0, none⟩)) rfl)
                      clear hp hlv hN
                      unfold Roll.Goes
                      simp only [Ldf12, List.getD_cons_zero, List.getD_cons_succ]
                      generalize Roll.putD Ddf12 vs [] b0 = a1 at *
                      have cf : p.cell? ⟨bo, 0, none⟩ = some (.slice A9 0 C9) := (hI.cell (p := ⟨bo, 0, none⟩) HLO.out).trans HCO.out
                      refine Roll.goes_val (w' := p) (.slice A9 0 C9) rfl ?_ ⟨hI, Below.refl _ _, rfl⟩
                      (have ec : ∀ x, a1.eval (.const x) = x := fun _ => rfl); (have ef : ∀ x, a1.eval (.func x) = .func (.func x) #[] #[] := fun _ => rfl); generalize a1.eval = ρ at *
                      skip
                      go_simp <;> (intros; first | (exfalso; omega) | rfl | omega)
                    · intro vs p hI hp
                      have h0 : (vs 0) = .slice A9 0 C9 := hp 0 (by simp [Ldf12])
                      have e57 : (Roll.putD Ddf12 vs [0] b0).eval (.tmp 57) = .slice A9 0 C9 := (Roll.eval_new 0 rfl (by decide) (by decide) (by omega)).trans h0
                      clear hp hlv hN
                      unfold Roll.Goes
                      simp only [Ldf12, List.getD_cons_zero, List.getD_cons_succ]
                      generalize Roll.putD Ddf12 vs [0] b0 = a1 at *
                      refine Roll.goes_val (w' := p) (.int .i64 (0 : Int)) rfl ?_ ⟨hI, Below.refl _ _, rfl⟩
                      (have ec : ∀ x, a1.eval (.const x) = x := fun _ => rfl); (have ef : ∀ x, a1.eval (.func x) = .func (.func x) #[] #[] := fun _ => rfl); generalize a1.eval = ρ at *
                      clear h0
                      go_simp <;> (intros; first | (exfalso; omega) | rfl | omega)
                    · intro vs p hI hp
                      have h1 : (vs 1) = .int .i64 (0 : Int) := hp 1 (by simp [Ldf12])
                      have e58 : (Roll.putD Ddf12 vs [1] b0).eval (.tmp 58) = .int .i64 (0 : Int) := (Roll.eval_new 1 rfl (by decide) (by decide) (by omega)).trans h1
                      clear hp hlv hN
                      unfold Roll.Goes
                      simp only [Ldf12, List.getD_cons_zero, List.getD_cons_succ]
                      generalize Roll.putD Ddf12 vs [1] b0 = a1 at *
                      refine Roll.goes_val (w' := p) (.bool false) rfl ?_ ⟨hI, Below.refl _ _, rfl⟩
                      (have ec : ∀ x, a1.eval (.const x) = x := fun _ => rfl); (have ef : ∀ x, a1.eval (.func x) = .func (.func x) #[] #[] := fun _ => rfl); generalize a1.eval = ρ at *
                      clear h1
                      go_simp <;> (intros; first | (exfalso; omega) | rfl | omega)
                    · intro vs p hI hp
                      have h2 : (vs 2) = .bool false := hp 2 (by simp [Ldf12])
                      have e59 : (Roll.putD Ddf12 vs [2] b0).eval (.tmp 59) = .bool false := (Roll.eval_new 2 rfl (by decide) (by decide) (by omega)).trans h2
                      clear hp hlv hN
                      unfold Roll.Goes
                      simp only [Ldf12, List.getD_cons_zero, List.getD_cons_succ]
                      generalize Roll.putD Ddf12 vs [2] b0 = a1 at *
                      refine Roll.goes_val (w' := p) (.bool false) rfl ?_ ⟨hI, Below.refl _ _, rfl⟩
                      (have ec : ∀ x, a1.eval (.const x) = x := fun _ => rfl); (have ef : ∀ x, a1.eval (.func x) = .func (.func x) #[] #[] := fun _ => rfl); generalize a1.eval = ρ at *
                      clear h2
                      go_simp <;> (intros; first | (exfalso; omega) | rfl | omega)
                    · intro vs p hI hp
                      have h3 : (vs 3) = .bool false := hp 3 (by simp [Ldf12])
                      have e6 : (Roll.putD Ddf12 vs [3] b0).eval (.tmp 6) = .pointer (some ⟨bo, 0, none⟩) := (Roll.eval_old rfl).trans (hlv.at 1 (6, .pointer (some ⟨bo, 0, none⟩)) rfl)
                      clear hp hlv hN
                      exact ⟨fun hg => absurd (h3.symm.trans hg) (by simp), fun hg => ⟨Below.refl _ _, rfl⟩⟩
                    · intro vs p hI hp
                      have h4 : (vs 4) = undef := hp 4 (by simp [Ldf12])
                      have h3 : (vs 3) = .bool false := hp 3 (by simp [Ldf12])
                      have e61 : (Roll.putD Ddf12 vs [4, 3] b0).eval (.tmp 61) = undef := (Roll.eval_new 4 rfl (by decide) (by decide) (by omega)).trans h4
                      clear hp hlv hN
                      exact ⟨fun hg => absurd (h3.symm.trans hg) (by simp), fun hg => ⟨Below.refl _ _, rfl⟩⟩
                    · intro vs p hI hp
                      have h5 : (vs 5) = undef := hp 5 (by simp [Ldf12])
                      have h3 : (vs 3) = .bool false := hp 3 (by simp [Ldf12])
                      have e62 : (Roll.putD Ddf12 vs [5, 3] b0).eval (.tmp 62) = undef := (Roll.eval_new 5 rfl (by decide) (by decide) (by omega)).trans h5
                      clear hp hlv hN
                      exact ⟨fun hg => absurd (h3.symm.trans hg) (by simp), fun hg => ⟨Below.refl _ _, rfl⟩⟩
                    · intro vs p hI hp
                      have h6 : (vs 6) = undef := hp 6 (by simp [Ldf12])
                      have h3 : (vs 3) = .bool false := hp 3 (by simp [Ldf12])
                      have e63 : (Roll.putD Ddf12 vs [6, 3] b0).eval (.tmp 63) = undef := (Roll.eval_new 6 rfl (by decide) (by decide) (by omega)).trans h6
                      clear hp hlv hN
                      exact ⟨fun hg => absurd (h3.symm.trans hg) (by simp), fun hg => ⟨Below.refl _ _, rfl⟩⟩
                    · intro vs p hI hp
                      have h3 : (vs 3) = .bool false := hp 3 (by simp [Ldf12])
                      have e7 : (Roll.putD Ddf12 vs [3] b0).eval (.tmp 7) = .pointer (some ⟨Bx, 0, none⟩) := (Roll.eval_old rfl).trans (hlv.at 2 (7, .pointer (some ⟨Bx, 0, none⟩)) rfl)
                      clear hp hlv hN
                      exact ⟨fun hg => absurd (h3.symm.trans hg) (by simp), fun hg => ⟨Below.refl _ _, rfl⟩⟩
                    · intro vs p hI hp
                      have h8 : (vs 8) = undef := hp 8 (by simp [Ldf12])
                      have h3 : (vs 3) = .bool false := hp 3 (by simp [Ldf12])
                      have e65 : (Roll.putD Ddf12 vs [8, 3] b0).eval (.tmp 65) = undef := (Roll.eval_new 8 rfl (by decide) (by decide) (by omega)).trans h8
                      clear hp hlv hN
                      exact ⟨fun hg => absurd (h3.symm.trans hg) (by simp), fun hg => ⟨Below.refl _ _, rfl⟩⟩
                    · intro vs p hI hp
                      have h7 : (vs 7) = undef := hp 7 (by simp [Ldf12])
                      have h9 : (vs 9) = undef := hp 9 (by simp [Ldf12])
                      have h3 : (vs 3) = .bool false := hp 3 (by simp [Ldf12])
                      have e64 : (Roll.putD Ddf12 vs [7, 9, 3] b0).eval (.tmp 64) = undef := (Roll.eval_new 7 rfl (by decide) (by decide) (by omega)).trans h7
                      have e66 : (Roll.putD Ddf12 vs [7, 9, 3] b0).eval (.tmp 66) = undef := (Roll.eval_new 9 rfl (by decide) (by decide) (by omega)).trans h9
                      clear hp hlv hN
                      exact ⟨fun hg => absurd (h3.symm.trans hg) (by simp), fun hg => ⟨Below.refl _ _, rfl⟩⟩
                    · intro vs p hI hp
                      have h3 : (vs 3) = .bool false := hp 3 (by simp [Ldf12])
                      have h10 : (vs 10) = undef := hp 10 (by simp [Ldf12])
                      have e60 : (Roll.putD Ddf12 vs [3, 10] b0).eval (.tmp 60) = .bool false := (Roll.eval_new 3 rfl (by decide) (by decide) (by omega)).trans h3
                      have e67 : (Roll.putD Ddf12 vs [3, 10] b0).eval (.tmp 67) = undef := (Roll.eval_new 10 rfl (by decide) (by decide) (by omega)).trans h10
                      clear hp hlv hN
                      unfold Roll.Goes
                      simp only [Ldf12, List.getD_cons_zero, List.getD_cons_succ]
                      generalize Roll.putD Ddf12 vs [3, 10] b0 = a1 at *
                      refine Roll.goes_val (w' := p) (.bool false) rfl ?_ ⟨hI, Below.refl _ _, rfl⟩
                      (have ec : ∀ x, a1.eval (.const x) = x := fun _ => rfl); (have ef : ∀ x, a1.eval (.func x) = .func (.func x) #[] #[] := fun _ => rfl); generalize a1.eval = ρ at *
                      clear h3 h10
                      go_simp <;> (intros; first | (exfalso; omega) | rfl | omega)
                  · intro vs p hI hR
                    have h0 : (vs 0) = .slice A9 0 C9 := hR 0 (by omega)
                    have h1 : (vs 1) = .int .i64 (0 : Int) := hR 1 (by omega)
                    have h2 : (vs 2) = .bool false := hR 2 (by omega)
                    have h3 : (vs 3) = .bool false := hR 3 (by omega)
                    have h4 : (vs 4) = undef := hR 4 (by omega)
                    have h5 : (vs 5) = undef := hR 5 (by omega)
                    have h6 : (vs 6) = undef := hR 6 (by omega)
                    have h7 : (vs 7) = undef := hR 7 (by omega)
                    have h8 : (vs 8) = undef := hR 8 (by omega)
                    have h9 : (vs 9) = undef := hR 9 (by omega)
                    have h10 : (vs 10) = undef := hR 10 (by omega)
                    have h11 : (vs 11) = .bool false := hR 11 (by omega)
                    clear hR
                    simp only [List.range_succ, List.range_zero, List.nil_append, List.cons_append, Roll.putD, Act.put, List.getD_cons_zero, List.getD_cons_succ, List.setIfInBounds_toArray, List.set_cons_zero, List.set_cons_succ, List.drop_succ_cons, List.drop_zero, Ddf12]
                    simp only [h0, h1, h2, h3, h4, h5, h6, h7, h8, h9, h10, h11]
                    clear h0 h1 h2 h3 h4 h5 h6 h7 h8 h9 h10 h11
                    obtain ⟨p12, hp12⟩ : ∃ z, z = p := ⟨_, rfl⟩
                    subst hp12
                    have HD12 := Lib.hid (HD11.out.below hI)
                    have HK12 := Lib.hid (HK11.out.trans (KD.of_below hI HD11.out.b.size))
                    clear hI HCO HLO HCX HLX
                    apply wpList_nil
                    gi_step
                    gi_step
                    gi_wp2
                    exact HRES.out _ _ _ _ _ _ _ HDR2.out HD12.out HK12.out
  case done =>
    rintro D ys W hD hys ⟨sl, a, n, c, hds⟩ hK
    have hfin : diffR (treeL ta) (treeL tb) = (ys.foldl diffRound ([], treeL ta)).1 ++ (ys.foldl diffRound ([], treeL ta)).2.map remE := by
      rw [← diffP_eq]
      unfold diffP
      rw [hys, geL_emp]
    have hlen := fold_len ys (treeL ta) []
    have hyl : ys.length ≤ 1000000 := by rw [hys, geL_emp]; exact HLB.out
    obtain ⟨es, hes⟩ : ∃ es, es = (ys.foldl diffRound ([], treeL ta)).1 := ⟨_, rfl⟩
    obtain ⟨rest, hrest⟩ : ∃ rest, rest = (ys.foldl diffRound ([], treeL ta)).2 := ⟨_, rfl⟩
    rw [← hes, ← hrest] at hds hfin hlen
    have HFIN := Lib.hid hfin
    have HLEN : Hid (es.length + rest.length ≤ 2000000) := Lib.hid (by have := HLA.out; simp at hlen; omega)
    have HDS := Lib.hid hds
    have HK := Lib.hid hK
    have HN : Hid (rest.length = n) := Lib.hid hds.ps.1
    have hF2 := HF.out
    subst hF2
    clear hys hfin hlen hyl hes hrest hds hK hit hro hdd h76 h32 h29 h55
    gi_wp2
    have HCO : Hid (W.cell? ⟨bo, 0, none⟩ = some (.slice a n c)) := Lib.hid HDS.out.o.cell
    have HLO : Hid (bo < W.heap.size) := Lib.hid HDS.out.o.lt
    have HCE : Hid (W.cell? ⟨w.heap.size, 0, none⟩ = some sl) := Lib.hid HDS.out.e.cell
    have HLE : Hid (w.heap.size < W.heap.size) := Lib.hid HDS.out.e.lt
    have HNE : Hid (¬ sl.ownBlock = some w.heap.size) := Lib.hid (fun e => HDS.out.e.not_row (by decide) HDS.out.row e.symm)
    have HNO : Hid (¬ sl.ownBlock = some bo) := Lib.hid (fun e => HDS.out.o.not_row (by decide) HDS.out.row e.symm)
    have HOW := Lib.hid (Own.ofRow HDS.out.row)
    have HPU : Hid (Ps (DP W0) W a n c rest) := Lib.hid (HDS.out.ps.keepP HDS.out.kp)
    have HKB : Hid (n ≤ 1000000000) := Lib.hid (by have := HLEN.out; have := HN.out; omega)
    have HB8 : Hid (es.length + n ≤ maxLen ∧ (es.length + n) * 40 ≤ 140737488355328) := Lib.hid (by have := HLEN.out; have := HN.out; unfold maxLen; exact ⟨by omega, by omega⟩)
    refine Roll.region_v_w 4 75 Ddf14 Ldf14 [(5, .pointer (some ⟨w.heap.size, 0, none⟩)), (6, .pointer (some ⟨bo, 0, none⟩))] 3 [true, true, false, false] (fun p => Below W.heap.size W p) (fun vv p => ∃ p8 k', Below W.heap.size W p8 ∧ Own p 61 3 k' vv (es.length + n) (ecells es ++ (ecells (rest.map remE))) ∧ (∀ j, k' = some j → sl.ownBlock = some j ∨ W.heap.size ≤ j) ∧ Kept (fun j => sl.ownBlock = some j) p8 p) (fun p => Kept (fun j => sl.ownBlock = some j) W p) (fun p p2 => Kept (fun j => sl.ownBlock = some j) p p2) [fun vv p => (vv 0) = sl, fun vv p => (vv 1) = .slice a n c, fun vv p => ∃ k4, Own p 61 3 k4 (vv 2) n (ecells (rest.map remE)) ∧ ∀ j, k4 = some j → W.heap.size ≤ j, fun vv p => True] (by kernel_rfl) (by kernel_rfl) (by rintro ⟨_, _, h⟩; obtain ⟨_, h, _⟩ := h; cases h) (by kernel_rfl) rfl ⟨rfl, rfl, trivial⟩ ((Below.refl _ _).drew) (by decide) (by kernel_rfl) (fun _ h => Kept.of_below _ h) (fun _ _ h => by obtain ⟨_, _, h1, _, _, h4⟩ := h; exact (Kept.of_below _ h1).trans h4 (fun _ _ h => h)) (fun _ => Kept.refl _ _) ?_ ?_ ?_
    · exact ⟨fun _ _ _ _ h => h, fun _ _ _ _ h => h, fun _ _ _ hs h => by obtain ⟨k4, e1, e2⟩ := h; exact ⟨k4, e1.kept hs (fun j hj e => by have := HOW.out.1.lt j e; have := e2 j hj; omega), e2⟩, fun _ _ _ _ h => h, trivial⟩
    · intro b0 hN hlv
      refine ⟨?_, ?_, ?_, ?_, trivial⟩
      · intro vs p hI0 hp
        have hI := Roll.inw_pure (by decide) rfl hI0
        clear hI0
        have e5 : (Roll.putD Ddf14 vs [] b0).eval (.tmp 5) = .pointer (some ⟨w.heap.size, 0, none⟩) := (Roll.eval_old rfl).trans (hlv.at 0 (5, .pointer (some ⟨w.heap.size, 0, none⟩)) rfl)
        clear hp hlv hN
        unfold Roll.Goes
        simp only [Ldf14, List.getD_cons_zero, List.getD_cons_succ]
        generalize Roll.putD Ddf14 vs [] b0 = a1 at *
        have cf : p.cell? ⟨w.heap.size, 0, none⟩ = some (sl) := (hI.cell (p := ⟨w.heap.size, 0, none⟩) HLE.out HNE.out).trans HCE.out
        refine Roll.goes_val (w' := p) (sl) rfl ?_ ⟨(Roll.outw_pure (by decide) rfl), rfl⟩
        (have ec : ∀ x, a1.eval (.const x) = x := fun _ => rfl); (have ef : ∀ x, a1.eval (.func x) = .func (.func x) #[] #[] := fun _ => rfl); generalize a1.eval = ρ at *
        skip
        go_simp <;> (intros; first | (exfalso; omega) | rfl)
      · intro vs p hI0 hp
        have hI := Roll.inw_pure (by decide) rfl hI0
        clear hI0
        have e6 : (Roll.putD Ddf14 vs [] b0).eval (.tmp 6) = .pointer (some ⟨bo, 0, none⟩) := (Roll.eval_old rfl).trans (hlv.at 1 (6, .pointer (some ⟨bo, 0, none⟩)) rfl)
        clear hp hlv hN
        unfold Roll.Goes
        simp only [Ldf14, List.getD_cons_zero, List.getD_cons_succ]
        generalize Roll.putD Ddf14 vs [] b0 = a1 at *
        have cf : p.cell? ⟨bo, 0, none⟩ = some (.slice a n c) := (hI.cell (p := ⟨bo, 0, none⟩) HLO.out HNO.out).trans HCO.out
        refine Roll.goes_val (w' := p) (.slice a n c) rfl ?_ ⟨(Roll.outw_pure (by decide) rfl), rfl⟩
        (have ec : ∀ x, a1.eval (.const x) = x := fun _ => rfl); (have ef : ∀ x, a1.eval (.func x) = .func (.func x) #[] #[] := fun _ => rfl); generalize a1.eval = ρ at *
        skip
        go_simp <;> (intros; first | (exfalso; omega) | rfl)
      · intro vs p hI0 hp
        have hI := Roll.inw_pre (by decide) rfl hI0
        clear hI0
        have h1 : (vs 1) = .slice a n c := hp 1 (by simp [Ldf14])
        have e72 : (Roll.putD Ddf14 vs [1] b0).eval (.tmp 72) = .slice a n c := (Roll.eval_new 1 rfl (by decide) (by decide) (by omega)).trans h1
        clear hp hlv hN
        unfold Roll.Goes
        simp only [Ldf14, List.getD_cons_zero, List.getD_cons_succ]
        generalize Roll.putD Ddf14 vs [1] b0 = a1 at *
        refine Roll.goes_call 58 #[.slice a n c] p rfl (by have ec : ∀ x, a1.eval (.const x) = x := fun _ => rfl; have ef : ∀ x, a1.eval (.func x) = .func (.func x) #[] #[] := fun _ => rfl; generalize a1.eval = ρ at *; go_simp) ?_
        refine (removals_any ((HPU.out).below hI) HKB.out).mono ?_
        rintro z p2 ⟨v, rfl, hrow, hb2⟩
        obtain ⟨ho, hbj⟩ := Own.ofRow hrow
        exact ⟨_, rfl, Roll.outw_pre (by decide) rfl (hI.trans (hb2.mono hI.size)) (Kept.of_below _ hb2), _, ho, fun j hj => Nat.le_trans hI.size (hbj j hj)⟩
      · intro vs p hI0 hp
        have hI := Roll.inw_k0 rfl hI0
        clear hI0
        have h0 : (vs 0) = sl := hp 0 (by simp [Ldf14])
        have h2 : ∃ k4, Own p 61 3 k4 (vs 2) n (ecells (rest.map remE)) ∧ ∀ j, k4 = some j → W.heap.size ≤ j := hp 2 (by simp [Ldf14])
        have e71 : (Roll.putD Ddf14 vs [0, 2] b0).eval (.tmp 71) = sl := (Roll.eval_new 0 rfl (by decide) (by decide) (by omega)).trans h0
        have e73 : (Roll.putD Ddf14 vs [0, 2] b0).eval (.tmp 73) = vs 2 := (Roll.eval_new 2 rfl (by decide) (by decide) (by omega))
        clear hp hlv hN
        unfold Roll.Goes
        simp only [Ldf14, List.getD_cons_zero, List.getD_cons_succ]
        generalize Roll.putD Ddf14 vs [0, 2] b0 = a1 at *
        obtain ⟨k4, ho4, hb4⟩ := h2
        obtain ⟨a4, c4, hv4, hsl4⟩ := ho4.sl
        refine wpList_append_any _ rfl (.tmp 71) (.tmp 73) _ _ rfl 61 i0 _ 3 40 Try.underlying56 hi hz0 hz1 hz2 rfl sl.ownBlock sl es.length (ecells es) e71 (HOW.out.1.kept (Kept.of_below (fun _ => False) hI) (fun _ _ h => h)) n (ecells (rest.map remE)) (by rw [e73, hv4]; exact hsl4.src Try.underlying56 (ecells_cell _)) HB8.out.1 HB8.out.2 ?_
        intro k' v' w' ho' hf' hK' _
        exact ⟨v', rfl, Roll.outw_k0 rfl ⟨_, k', hI, ho', fun j hj => (hf' j hj).imp id (fun e => Nat.le_trans hI.size e), hK'⟩ hK', trivial⟩
    · intro vs p hI hR
      have h0 : (vs 0) = sl := hR 0 (by omega)
      have h1 : (vs 1) = .slice a n c := hR 1 (by omega)
      have h2 : ∃ k4, Own p 61 3 k4 (vs 2) n (ecells (rest.map remE)) ∧ ∀ j, k4 = some j → W.heap.size ≤ j := hR 2 (by omega)
      have h3 : True := hR 3 (by omega)
      clear hR
      simp only [List.range_succ, List.range_zero, List.nil_append, List.cons_append, Roll.putD, Act.put, List.getD_cons_zero, List.getD_cons_succ, List.setIfInBounds_toArray, List.set_cons_zero, List.set_cons_succ, List.drop_succ_cons, List.drop_zero, Ddf14]
      simp only [h0, h1]
      clear h0 h1
      clear h2 h3 HPU HKB HB8 HCO HLO HCE HLE HNE HNO
      generalize vs 2 = v2 at *
      generalize vs 3 = v3 at *
      obtain ⟨p8, k', hb8, ho', hf', hK'⟩ := hI
      obtain ⟨a3, c3, rfl, -⟩ := id ho'.sl
      have HKP : Hid (p.heap[D]? = some (.deferred (some []))) := Lib.hid (hK'.heap ((hb8.block D (Array.getElem?_eq_some_iff.1 HK.out).1).trans HK.out) (fun e => by
        rcases HDS.out.row.2 with ⟨h1, _⟩ | ⟨g, cap, cur, h1, _, hg, _⟩
        · rw [h1] at e; simp [Value.ownBlock] at e
        · rw [h1] at e
          obtain rfl : g = D := by simpa [Value.ownBlock] using e
          rw [HK.out] at hg
          cases hg))
      have HOWN : Hid (p.ownsRow w.heap.size 61 3 (.slice a3 (es.length + n) c3) (diffR (treeL ta) (treeL tb)).length (ecells (diffR (treeL ta) (treeL tb)))) := Lib.hid (by
        have h := Own.owns (base := w.heap.size) ho' (fun j hj => by
          rcases hf' j hj with h | h
          · exact HOW.out.2 j h
          · have := HDS.out.b.size; omega)
        rw [HFIN.out, List.length_append, List.length_map, HN.out, ecells_app]
        exact h)
      have HBP : Hid (Below w.heap.size w p) := Lib.hid (HDS.out.b.trans ((hb8.mono HDS.out.b.size).trans (hK'.below (by have := hb8.size; have := HDS.out.b.size; omega) (fun j hj e => by have := HOW.out.2 j e; omega))))
      clear ho' hf' hK' hb8 HOW
      go_wp2_with fail
      gi_wp2
      refine ⟨by simp, .inl ⟨_, _, rfl, run_takeDeferred HKP.out, ?_⟩⟩
      exact ⟨_, results_tmp rfl _ _ _, _, rfl, ownsRow_putObj HOWN.out _ HKP.out rfl, HBP.out.trans (belowK_b (w := w) (Nat.le_refl _) p D _ _ (by omega) HKP.out rfl rfl)⟩
  case stop => rintro D c pre W hD hSp hx hK; exact hx.elim
end Go.Proofs.Ytfgmhidgkemfoaa

/-
  Texts V2, V3, V4, one behind the other.
-/
import Derived.WalkKit
import Derived.WalkSpells
import Derived.WalkLawsBesides
import Derived.Deep.QuietTactic
import Derived.BigQuiet
import Derived.Deep.WholeRow
import Derived.StillTailTactics
import Derived.Laws.CopyOwn
import Derived.Deep.DeepCutAuto
import Derived.Laws.AppendOwnNone
import Derived.Lib.AppendZerosOnto
import Derived.Deep.RegionWith
import Derived.Deep.DrawnRows
import Derived.Deep.MidRow
import Derived.Deep.RegionHeld3
import Derived.Lib.Hide
import Derived.Laws.AppendOwn
import Derived.Laws.OwnMore
import Derived.Deep.AppendSrc
import GoSem.Claim
import Derived.Orders
import Derived.Tactics
import Derived.Maps.RangeRun
import Derived.Maps.Range
import Derived.Maps.OwnOps
import Derived.Maps.RangeWalk
import Derived.Deep.Cut
import Derived.Carry
import Derived.Laws.BytesString
import Derived.ProofKit
import Derived.OpenShut
import Derived.Deep.Slices
import Derived.Deep.Fields
import Derived.JoinedCond
import Derived.Deep.Matrix
import Derived.Deep.Grids
import Derived.Laws.ShiftsVarLaws
import Derived.Laws.BitsAllLaws
import Derived.Laws.IdiomStrings
import Derived.Lib.BufferMore
import Derived.Laws.ResultCell
import Derived.Deep.CutBlock
import Derived.OwnWalk
import Derived.Test.YthffegfcgmhppaaDoorRows
import Derived.Test.YthffegfcgmhppaaDoorZV507
import Derived.Test.YthffegfcgmhppaaDoorZV508
namespace Go.Proofs.YthffegfcgmhppaaDoor
open Go.RowKit
set_option linter.unusedSimpArgs false
set_option linter.unusedVariables false
theorem Bs.dg {D : Nat → Prop} {w : World} {a : Option Addr} {n c : Nat} {l : List UInt8} (h : Bs D w a n c l) : Dg.Bs w a n c l := by
  obtain ⟨h1, -, h2, h3, h4, h5⟩ := h
  refine ⟨h1, h2, h3, h4, fun hn => ?_⟩
  obtain ⟨b, off, -, ha, hr⟩ := h5 hn
  refine ⟨b, off, ha, fun i hi => ?_⟩
  have hil : i < l.length := by omega
  refine hr i _ ?_
  unfold Dg.byteAt Dg.bi
  simp [vals, hil]
theorem bs_hash {w : World} {g : Nat} {l : List UInt8} {t : TypeId} (h : w.heap[g]? = some (.cells (Dg.bcells l) t (0, 0))) (hl : l.length = 32) : Bs (fun b => b = g) w (some ⟨g, 0, none⟩) 32 32 l := by
  refine ⟨hl, by rw [vals_len, hl], Nat.le_refl _, by unfold maxLen; omega, (fun h => by cases h), fun _ => ⟨g, 0, rfl, rfl, fun i v hv => ?_⟩⟩
  rw [Nat.zero_add, cell_of_row w g i _ _ _ h]
  have hi : i < l.length := by have := (List.getElem?_eq_some_iff.1 hv).1; rwa [vals_len] at this
  rw [Dg.bcells_get l i hi, ← hv]
  simp [vals, hi, Dg.bi]
def sealB (b : List UInt8) : List UInt8 := encT b ++ encT (Dg.Hv b)
theorem sealB_len (b : List UInt8) (h : b.length ≤ 1000) : (sealB b).length ≤ b.length + 52 := by
  have h1 := encU_len10 b.length (by omega)
  have h2 := encU_len10 (Dg.Hv b).length (by rw [Dg.Hv_len]; omega)
  have h3 := Dg.Hv_len b
  unfold sealB encT
  simp only [List.length_append]
  omega
set_option maxRecDepth 100000 in
set_option maxHeartbeats 2000000 in
theorem sealed_any (D : Nat → Prop) (a : Option Addr) (n c : Nat) (l : List UInt8) (w : World) (hT : Dg.Tabs w) (hB : Bs D w a n c l) (hn : n ≤ 1000) :
    Calls Tryd.prog 10 #[.slice a n c] w fun e w' => ∃ v, e = .returned v ∧ Made w v (sealB l) w' := by
  have HS := Lib.hid (Dg.sum_any a n c l w hT hB.dg (by omega))
  have HB := Lib.hid hB
  have HLL := Lib.hid hB.1
  have hlh := Dg.Hv_len l
  obtain ⟨H, hH⟩ : ∃ H, H = Dg.Hv l := ⟨_, rfl⟩
  rw [← hH] at HS hlh
  have HH := Lib.hid hH
  have HLH := Lib.hid hlh
  clear hT hB hH hlh
  go_enter Tryd.func10, Tryd.ntmps10
  go_upto_region 2 with (first
    | (go_at_call 19; refine HS.out.mono ?_; rintro e w1 ⟨rfl, hb1⟩; have HB1 := Lib.hid hb1; clear hb1 HS)
    | (refine wpList_store_row rfl 51 (.tmp 3) (.tmp 6) rfl w1.heap.size _ rfl rfl 51 _ (heap_new rfl) (by rw [Dg.bcells_size, HLH.out]; exact Dg.size32b) (by rw [Dg.bcells_size, HLH.out]; rfl) (Dg.bcells_one _) ?_))
  obtain ⟨w2, hw2⟩ : ∃ w2, w2 = w1.alloc (.cells #[.int .u8 0, .int .u8 0, .int .u8 0, .int .u8 0, .int .u8 0, .int .u8 0, .int .u8 0, .int .u8 0, .int .u8 0, .int .u8 0, .int .u8 0, .int .u8 0, .int .u8 0, .int .u8 0, .int .u8 0, .int .u8 0, .int .u8 0, .int .u8 0, .int .u8 0, .int .u8 0, .int .u8 0, .int .u8 0, .int .u8 0, .int .u8 0, .int .u8 0, .int .u8 0, .int .u8 0, .int .u8 0, .int .u8 0, .int .u8 0, .int .u8 0, .int .u8 0] 51) := ⟨_, rfl⟩
  obtain ⟨gh, hgh⟩ : ∃ gh, gh = w1.heap.size := ⟨_, rfl⟩
  rw [← hw2, ← hgh]
  obtain ⟨w3, hw3⟩ : ∃ w3, w3 = w2.setRow gh (Dg.bcells H) := ⟨_, rfl⟩
  rw [← hw3]
  have hb13 : Below w.heap.size w w3 := by
    rw [hw3]
    exact Dg.Below_setRow ((HB1.out).alloc HB1.out.size _ |> fun h => by rw [← hw2] at h; exact h) (by rw [hgh]; exact HB1.out.size) _
  have hg3 : w3.heap[gh]? = some (.cells (Dg.bcells H) 51 (0, 0)) := by
    rw [hw3]
    exact setRow_heap _ _ _ _ _ _ (by rw [hw2]; exact heap_new hgh)
  have hgw : w.heap.size ≤ gh := by rw [hgh]; exact HB1.out.size
  have HB3 := Lib.hid hb13
  have HG3 := Lib.hid hg3
  have HGW := Lib.hid hgw
  clear hw2 hgh hw3 hb13 hg3 hgw HB1
  go_upto_region 3 with fail
  obtain ⟨w4, hw4⟩ : ∃ w4, w4 = w3.alloc (.cells #[.slice none 0 0] 66) := ⟨_, rfl⟩
  obtain ⟨gw, hgw⟩ : ∃ gw, gw = w3.heap.size := ⟨_, rfl⟩
  have hW : Wr w4 gw none [] := by rw [hw4, hgw]; exact Wr.new w3
  have hb4 : Below w.heap.size w w4 := by rw [hw4]; exact HB3.out.alloc HB3.out.size _
  have hg4 : w4.heap[gh]? = some (.cells (Dg.bcells H) 51 (0, 0)) := by rw [hw4]; exact heap_old HG3.out
  have hne : w.heap.size ≤ gw ∧ gh < gw := by rw [hgw]; exact ⟨HB3.out.size, heap_lt HG3.out⟩
  have hlt : gh < w4.heap.size := heap_lt hg4
  rw [← hw4, ← hgw]
  have r4 := run_str (HB.out.kept (Kept.of_below (fun _ => False) hb4) (fun _ _ _ h => h))
  have HW := Lib.hid hW
  have HB4 := Lib.hid hb4
  have HG4 := Lib.hid hg4
  have HNE := Lib.hid hne
  clear hw4 hgw hW hb4 hg4 hne hlt HB3 HG3
  obtain ⟨SB, hSB⟩ : ∃ SB : ByteArray, SB = ⟨l.toArray⟩ := ⟨_, rfl⟩
  obtain ⟨SH, hSH⟩ : ∃ SH : ByteArray, SH = ⟨H.toArray⟩ := ⟨_, rfl⟩
  rw [← hSB] at r4
  have HSB : Hid (SB.data.toList = l ∧ SB.size ≤ 1000) := Lib.hid (by rw [hSB]; exact ⟨by simp, by show l.toArray.size ≤ 1000; rw [List.size_toArray, HLL.out]; exact hn⟩)
  have HSH : Hid (SH.data.toList = H ∧ SH.size ≤ 1000) := Lib.hid (by rw [hSH]; exact ⟨by simp, by show H.toArray.size ≤ 1000; rw [List.size_toArray, HLH.out]; omega⟩)
  have HSHE := Lib.hid hSH
  clear hSB hSH
  go_upto_region 4 with (go_at_call 24; refine (wtext_any gw none [] SB w4 HW.out (by simp) (by have := HSB.out.2; omega)).mono ?_; rintro e w5 ⟨rfl, k5, hw5, hl5⟩; rw [HSB.out.1, List.nil_append] at hw5; have HW5 := Lib.hid hw5; have HL5 := Lib.hid hl5; have hk5 : w5.heap[gh]? = some (.cells (Dg.bcells H) 51 (0, 0)) := hl5.kept.heap HG4.out (by have := HNE.out.2; rintro (e | e) <;> first | omega | cases e); have r5 := run_str (bs_hash hk5 HLH.out); rw [← HSHE.out] at r5; have hg5 : gh < w5.heap.size := heap_lt hk5; clear hw5 hl5 hk5 r4 HW)
  go_wp2_with (first
    | (go_at_call 24; refine (wtext_any gw k5 (encT l) SH w5 HW5.out (by have h1 := encU_len10 l.length (by have := HLL.out; omega); unfold encT; rw [List.length_append]; have := HLL.out; omega) (by have := HSH.out.2; omega)).mono ?_; rintro e w6 ⟨rfl, k6, hw6, hl6⟩; rw [HSH.out.1] at hw6; have HW6 := Lib.hid hw6; have HL6 := Lib.hid (HL5.out.trans hl6); clear hw6 hl6 r5 hg5 HW5 HL5)
    | (go_at_call 25; refine (done_any gw k6 (encT l ++ encT H) w6 HW6.out (by have h1 := encU_len10 l.length (by have := HLL.out; omega); have h2 := encU_len10 H.length (by have := HLH.out; omega); unfold encT; simp only [List.length_append]; have := HLL.out; have := HLH.out; omega)).mono ?_; rintro e w7 ⟨v7, rfl, hm7⟩; obtain ⟨a7, c7, rfl, -⟩ := id hm7.bs; have HM7 := Lib.hid hm7; clear hm7))
  go_ret
  refine ⟨.slice a7 ((encT l).length + (encT H).length) c7, rfl, ?_⟩
  have hb6 : Below w.heap.size w w6 := HB4.out.trans (HL6.out.kept.below HB4.out.size (fun j hj => by have := HNE.out.1; rintro (e | e) <;> first | omega | cases e))
  have hfin := HM7.out.base hb6
  unfold sealB
  rw [← HH.out]
  rw [← List.length_append]
  exact hfin
end Go.Proofs.YthffegfcgmhppaaDoor
namespace Go.Proofs.YthffegfcgmhppaaDoor
open Go.ChangeShapes Go.WideShapes Go.ChangeAt Go.RowKit
set_option linter.unusedSimpArgs false
set_option linter.unusedVariables false
theorem run_strB (w : World) (l : List UInt8) (hl : l.length ≤ 1000000) : ∃ C w2, (convert 9 34 (.string ⟨l.toArray⟩)).run Tryd.prog w = .ok (.slice (some ⟨w.heap.size, 0, none⟩) l.length C) w2 ∧ l.length ≤ C ∧ C ≤ 9223372036854775807 ∧ Below w.heap.size w w2 ∧ Bs (fun b => b = w.heap.size) w2 (some ⟨w.heap.size, 0, none⟩) l.length C l := by
  have hT : (⟨l.toArray⟩ : ByteArray).size = l.length := by show l.toArray.size = _; simp
  have hrun := run_bytes_of_string (P := Tryd.prog) w 9 34 5 ⟨l.toArray⟩ str_under Tryd.underlying34 u8_under
  have hG := grownCap_ge w (⟨l.toArray⟩ : ByteArray).size 0 5
  have hG2 := grownCap_le_maxLen w (⟨l.toArray⟩ : ByteArray).size 0 5 (by rw [hT]; unfold maxLen; omega)
  generalize grownCap w (⟨l.toArray⟩ : ByteArray).size 0 5 = C at *
  rw [hT] at hrun hG
  refine ⟨C, _, hrun, hG, by unfold maxLen at hG2; omega, (Below.refl _ _).drew.alloc (Nat.le_refl _) _, rfl, by simp [vals], hG, hG2, (fun h => by cases h), fun hp => ⟨w.heap.size, 0, rfl, rfl, fun i v hv => ?_⟩⟩
  have hi : i < l.length := by have := (List.getElem?_eq_some_iff.1 hv).1; rwa [vals_len] at this
  rw [Nat.zero_add]
  have hg : ((w.drew.alloc (.cells (bytesRow ⟨l.toArray⟩ C) 5 ((bytesRow ⟨l.toArray⟩ C).size, (bytesRow ⟨l.toArray⟩ C).size + 1)))).heap[w.heap.size]? = some (.cells (bytesRow ⟨l.toArray⟩ C) 5 ((bytesRow ⟨l.toArray⟩ C).size, (bytesRow ⟨l.toArray⟩ C).size + 1)) := heap_new rfl
  rw [cell_of_row _ _ i _ _ _ hg, ← hv]
  unfold bytesRow
  rw [Array.getElem?_append_left (by simp; exact hi)]
  simp [vals, hi]
section
variable {H : Type} {enc : TypeId × Value → H} {W : World} {base : Nat} {held : Bool}
set_option maxRecDepth 100000 in
theorem open_rows {base0 : Nat} {v : Value} {d : DataW H} {p : List MemPlace} (hval : Value.okWide Tryd.prog W .any base0 22 v) (h : DataW.Trod enc Tryd.prog W base (fun _ => true) held 22 v d p) :
    ∃ a n c rs, v = .slice a n c ∧ RdR (Old W) W a n c rs := by
  obtain ⟨a1, n1, c1, rfl⟩ := okWide_slice Tryd.underlying22 hval
  obtain ⟨fuel, hf⟩ := h
  rcases Go.Deep.open_int_rows Tryd.underlying22 Tryd.underlying34 u8_under (by kernel_rfl) cells1b hf with ⟨hcs, hx⟩ | ⟨a, n', c', A, L, C, Z, hcs, _, hl, hm, hx, hr⟩
  · simp [Value.cells] at hcs
    obtain ⟨rfl, rfl, rfl⟩ := hcs
    exact ⟨none, 0, 0, [], rfl, rfl, Nat.le_refl _, by omega, fun j hj => absurd hj (by simp)⟩
  · simp [Value.cells] at hcs
    obtain ⟨rfl, rfl, rfl⟩ := hcs
    have hlen : ∀ r, r < n1 → (((Z r).take (L r)).map fun n => UInt8.ofNat n.toNat).length = L r := fun r hrn => by
      obtain ⟨_, r1, r2, r3, _⟩ := hr r (by omega)
      simp
      omega
    have hbs : ∀ r, r < n1 → Bs (Old W) W (A r) (L r) (C r) (((Z r).take (L r)).map fun n => UInt8.ofNat n.toNat) := fun r hrn => by
      obtain ⟨_, r1, r2, r3, r4, r5, r6⟩ := hr r (by omega)
      refine ⟨hlen r hrn, ?_⟩
      cases hA : A r with
      | none =>
        have := r5 hA
        have e0 : L r = 0 := by omega
        rw [e0]
        exact ⟨by simp [vals], Nat.zero_le _, by omega, (fun _ => this), fun h => absurd h (by omega)⟩
      | some a' =>
        have hc := (r6 a' hA).2
        refine Sl.of_cells (by decide) (by rw [vals_len, hlen r hrn, Nat.mul_one]) r1 r2 fun j u hu => ?_
        have hj : j < L r := by
          have := (List.getElem?_eq_some_iff.1 hu).1
          rwa [vals_len, hlen r hrn] at this
        have hjz : j < (Z r).length := by omega
        rw [hc j (by omega)]
        have hwf := r4 ((Z r)[j]'hjz) (List.getElem_mem _)
        have hb := bounds_u8 hwf
        rw [← hu]
        have e1 : (((Z r)[j].toNat % 256 : Nat) : Int) = (Z r)[j] := by omega
        simp [vals, List.getD, hjz, hj, UInt8.toNat_ofNat', e1]
    have hspot : ∃ b off, a = ⟨b, off, none⟩ ∨ n1 = 0 := by
      by_cases hn : n1 = 0
      · exact ⟨0, 0, .inr hn⟩
      · obtain ⟨ab, ao, spot⟩ := a
        have : spot = none := by simpa [Addr.add] using World.cell?_spot (hr 0 (by omega)).1
        subst this
        exact ⟨ab, ao, .inl rfl⟩
    refine ⟨some a, n1, c1, (List.range n1).map fun r => ((Z r).take (L r)).map fun n => UInt8.ofNat n.toNat, rfl, by simp, hl, hm, fun j hj => ?_⟩
    have hjn : j < n1 := by simpa using hj
    obtain ⟨b, off, rfl | h0⟩ := hspot
    · have hcell := (hr j (by omega)).1
      rw [Addr.add_mid] at hcell
      have hblt : b < W.heap.size := block_lt_of_cell hcell
      simp only [List.getElem_map, List.getElem_range]
      exact ⟨b, off, A j, C j, hblt, rfl, hblt, by rw [hcell, hlen j hjn], by rw [hlen j hjn]; exact hbs j hjn⟩
    · omega
end
set_option maxRecDepth 100000 in
set_option maxHeartbeats 1000000 in
theorem wpList_racc2 {w0 w : World} {L : List Obj} (h : Lv w0 w L) {i j : Nat} (hij : i ≠ j) {v : Value} {rs : List (List UInt8)} {a : Option Addr} {n c : Nat} {l : List UInt8} (hi : L[i]? = some (recsO v rs)) (hj : L[j]? = some (bytesO (.slice a n c) l)) {ops : Array Oper} {rest : List Oper} {o : Oper} {t : Act} {Q : Exit → Act → World → Prop} (hgd : o.guard = none) (s x : Operand)
    (ho : o.op = .call { callee := .builtin .append, args := #[s, x], argTypes := #[22, 22] }) (hs : t.eval s = v) (hx : Src Tryd.prog 1 22 (t.eval x) 1 [.slice a n c] w) (hb : rs.length ≤ 1000000)
    (K : ∀ a' c' w', Lv w0 w' ((L.set i (recsO (.slice a' (rs.length + 1) c') (rs ++ [l]))).set j noO) → (∃ D, Bs D w' a n c l) → wpList Tryd.prog ops Q rest (t.put o.dst (.slice a' (rs.length + 1) c')) w') : wpList Tryd.prog ops Q (o :: rest) t w := by
  obtain ⟨i0, ji, jz0, jz1, jz2⟩ := info_parts info32'
  have hL := h.join hij hi hj
  have hil : i < L.length := (List.getElem?_eq_some_iff.1 hi).1
  have hg : ((L.set i (pairO (recsO v rs) (bytesO (.slice a n c) l))).set j noO)[i]? = some (pairO (recsO v rs) (bytesO (.slice a n c) l)) := by
    rw [List.getElem?_set_ne (fun e => hij e.symm), List.getElem?_set_self hil]
  obtain ⟨B, ⟨B1, B2, ⟨k, Bf, ⟨ys, h1, h2⟩, h3, h4⟩, ⟨a2, c2, e2, hb2⟩, h5, h6, h7⟩, hlt, _, hset⟩ := hL.get hg
  have hn : l.length = n := by injection e2 with _ e _; exact e.symm
  rw [hn] at e2 hb2
  cases e2
  refine wpList_append_rw w hgd s x _ _ ho 34 i0 (.slice none 0 0) 24 Tryd.underlying22 ji jz0 jz1 jz2 rfl k v rs.length ys hs h1 1 _ hx (by unfold maxLen; omega) (by omega) ?_
  intro k' v' w' g1 g2 g3
  obtain ⟨a', c', rfl, -, -⟩ := g1.shape
  have hkB : ∀ x, k = some x → B x := fun x hx => h6 x (h3 x hx).1
  have hgr : ∀ y, Bf y ∨ (B2 y ∧ y < w.heap.size) → k' ≠ some y := by
    intro y hy e
    rcases g2 y e with e | e
    · rcases hy with hy | hy
      · exact (h3 y e).2 hy
      · exact h5 y (h3 y e).1 hy.1
    · rcases hy with hy | hy
      · have := (hlt y (h6 y (h4 y hy))).2; omega
      · omega
  have key := hset w' (recsO (.slice a' (rs.length + 1) c') (rs ++ [l])) (fun y => k' = some y ∨ Bf y ∨ (B2 y ∧ y < w.heap.size)) ⟨k', fun y => Bf y ∨ (B2 y ∧ y < w.heap.size), ⟨ys ++ [.slice a n c], by rw [List.length_append]; exact g1, fun q hq => ?_⟩, fun y hy => ⟨.inl hy, fun hb => hgr y hb hy⟩, fun y hy => .inr hy⟩ (g3.mono (fun y _ hy => hkB y hy)) ?_ ?_
  · have e3 : (((L.set i (pairO (recsO v rs) (bytesO (.slice a n c) l))).set j noO).set i (recsO (.slice a' (rs.length + 1) c') (rs ++ [l]))) = (L.set i (recsO (.slice a' (rs.length + 1) c') (rs ++ [l]))).set j noO := by
      rw [List.set_comm _ _ (fun e => hij e.symm), List.set_set]
    rw [e3] at key
    exact K a' c' w' key ⟨_, hb2.small.kept g3 (fun y _ hy e => h5 y (h3 y e).1 hy.1)⟩
  · have hyl : ys.length = rs.length := h1.1
    by_cases e : q < rs.length
    · obtain ⟨a4, c4, e4, e5⟩ := h2 q e
      simp only [List.getElem_append_left e]
      exact ⟨a4, c4, by rw [List.getElem?_append_left (by omega)]; exact e4, (e5.kept g3 (fun y _ hy e => (h3 y e).2 hy)).dom (fun y hy => .inl hy)⟩
    · have hq2 : q = rs.length := by rw [List.length_append, List.length_singleton] at hq; omega
      have e6 : (rs ++ [l])[q]'hq = l := by rw [List.getElem_append_right (by omega)]; simp
      refine ⟨a, c, ?_, ?_⟩
      · rw [List.getElem?_append_right (by omega), show q - ys.length = 0 by omega, e6, hn]; rfl
      · rw [e6, hn]
        exact (hb2.small.kept g3 (fun y _ hy e => h5 y (h3 y e).1 hy.1)).dom (fun y hy => .inr hy)
  · rintro y (hy | hy | hy)
    · exact (g2 y hy).imp (fun e => hkB y e) id
    · exact .inl (h6 y (h4 y hy))
    · exact .inl (h7 y hy.1)
  · rintro y (hy | hy | hy)
    · exact g1.lt y hy
    · exact Nat.lt_of_lt_of_le (hlt y (h6 y (h4 y hy))).2 g3.size
    · exact Nat.lt_of_lt_of_le hy.2 g3.size
end Go.Proofs.YthffegfcgmhppaaDoor
namespace Go.Proofs.YthffegfcgmhppaaDoor
open Go.RowKit
set_option linter.unusedSimpArgs false
set_option linter.unusedVariables false
def DofE13 : List (Option Tmp) := [some 68, some 69, some 70, some 71, some 72, some 73, some 74, some 14]
def LofE13 : List (List Nat) := [[], [0], [1], [2], [], [4], [3, 5], [6]]
def DofE18 : List (Option Tmp) := [some 117, some 118, some 119, some 120, some 121, some 122, some 123, some 124, some 125, some 116, some 126, some 127, some 15, some 16]
def LofE18 : List (List Nat) := [[], [0], [1], [2], [], [4], [5], [6], [3, 7], [8], [9], [9], [10], [11]]
def DofE17 : List (Option Tmp) := [some 104, some 105, some 106, some 107, some 108, some 109, some 110, some 111, some 112, some 113, some 114, some 115]
def LofE17 : List (List Nat) := [[], [0], [1], [2], [], [], [5], [6], [7], [8], [4, 9], [3, 10]]
def DofE6 : List (Option Tmp) := [some 26, some 27, some 28, some 29, some 30, some 31, some 32]
def LofE6 : List (List Nat) := [[], [0], [1], [2], [], [4], [3, 5]]
/-- between two rounds: the log has the sealed bytes -/
structure Seals (DS n : Nat) (m : LM) (d : DM) (bs : List (List UInt8)) : Prop where
  past : Past 1 DS n m d false
  recs : m.recs = bs.map sealB
  small : ∀ b ∈ bs, b.length ≤ 60
def SL (gp g gl n : Nat) (v : Value) (m : LM) (d : DM) (bs : List (List UInt8)) : List Obj := [recsO v bs, pastO gp g gl n (.slice none 0 0) 0 false, logO gl g m, diskO g d]
theorem Seals.len {DS n : Nat} {m : LM} {d : DM} {bs : List (List UInt8)} (h : Seals DS n m d bs) : m.recs.length = bs.length := by rw [h.recs, List.length_map]
theorem Seals.bd {DS n : Nat} {m : LM} {d : DM} {bs : List (List UInt8)} (h : Seals DS n m d bs) (hon : d.on = true) : m.n ≤ 4096 ∧ m.tak ≤ 1000000 ∧ m.recs.length ≤ 100000 := by
  have h1 := h.past.bd
  have h2 := h.past.n_
  have h3 := h.past.n4
  have h4 := (h.past.live hon).tak
  exact ⟨by omega, by omega, h1.1⟩
set_option maxRecDepth 100000 in
set_option maxHeartbeats 32000000 in
theorem walsealed_any (la : Option Addr) (ln lc : Nat) (rs : List (List UInt8)) (ba : Option Addr) (bn bc : Nat) (bl : List Bool) (fu : Int) (ta : Option Addr) (tn tc : Nat) (tl : List Int) (w : World) (hT : Dg.Tabs w) (hR : RdR (Old w) w la ln lc rs) (hB : Bls (Old w) w ba bn bc bl) (u1 : -9223372036854775808 ≤ fu) (u2 : fu ≤ 9223372036854775807) (hI : Is (Old w) w ta tn tc tl) (hl64 : Ok64 tl) :
    Calls Tryd.prog 3 #[.slice la ln lc, .slice ba bn bc, .int .i64 fu, .slice ta tn tc] w fun e w' => e = .returned (.bool true) ∧ Below w.heap.size w w' := by
  obtain ⟨n, hn⟩ : ∃ n, n = bgN 11 := ⟨_, rfl⟩
  have hnb := bgN_bd 11
  have HBG := Lib.hid (begin_lv (Lv.refl w) 11 (by omega) (by omega))
  rw [← hn] at hnb HBG
  obtain ⟨f1, f2, f3, f4, f5, f6⟩ := bg_fine n hnb.1 hnb.2
  obtain ⟨KF, hK, hK2⟩ := around_nat fu 60 (by omega)
  have HAR : Hid (∀ u, Calls Tryd.prog 6 #[.int .i64 fu, .int .i64 60] u fun e w' => e = .returned (.int .i64 (KF : Int)) ∧ u = w') := Lib.hid (fun u => by rw [← hK]; exact around_any fu 60 u u1 u2 (by omega) (by omega))
  obtain ⟨DS, hDS⟩ : ∃ DS, DS = n + 2 := ⟨_, rfl⟩
  have hw2 : IntKind.i64.wrap ((n : Int) + 2) = (DS : Int) := by rw [i64_id _ (by omega) (by omega)]; omega
  have HS0 : Hid (Seals DS n (mFresh 1 n) ((bgD n).setFuse (KF : Int)) []) := Lib.hid ⟨by rw [hDS]; exact (begin_past n hnb.1 hnb.2).fused f3 _ (by omega) false, rfl, fun b hb => by cases hb⟩
  have HDS : Hid (1 ≤ DS ∧ DS ≤ 4096) := Lib.hid (by omega)
  have HNB := Lib.hid hnb
  have HT2 := hT.2.2
  have HTA : Hid (∀ u, Below w.heap.size w u → Dg.Tabs u) := Lib.hid (fun u hu => hT.below hu HT2)
  have HTN : Hid (∀ u, Below w.heap.size w u → Is (Old w) u ta tn tc tl) := Lib.hid (fun u hu => hI.kept (Kept.of_below (fun x => w.heap.size ≤ x) hu) (fun x hx ho h => by have : x < w.heap.size := ho; omega))
  have H64 := Lib.hid hl64
  have HTO : Hid (∀ u L, Lv w u L → Calls Tryd.prog 14 #[.slice ta tn tc, .int .i64 (DS : Int)] u fun x w' => ∃ v ts, x = .returned v ∧ Lv w w' (tornO v ts :: L)) := Lib.hid (fun u L hl => (torn_any (Old w) ta tn tc tl DS u (HTN.out u hl.args) H64.out HDS.out.1 HDS.out.2).mono (fun e w' ⟨v, ts, he, _, hlv⟩ => ⟨v, ts, he, hl.onto hlv⟩))
  have HR := Lib.hid hR
  have HRL := Lib.hid hR.1
  have HB := Lib.hid hB
  have HBL := Lib.hid hB.1
  have hlc : ln ≤ lc := hR.2.1
  have hlm : lc ≤ 9223372036854775807 := hR.2.2.1
  have hbc : bn ≤ bc := hB.2.2.1
  have hbm : bc ≤ 9223372036854775807 := hB.2.2.2.1
  clear hT hR hB hI hl64 hn hnb f1 f2 f3 f4 f5 f6 hK hDS HT2
  go_enter Tryd.func3, Tryd.ntmps3
  go_upto_region 6 with (go_at_call 4; refine HBG.out.mono ?_; rintro e w1 ⟨gp, g, gl, rfl, hl⟩; have HL1 := Lib.hid hl; clear hl HBG)
  have HLa := Lib.hid HL1.out.recs0
  clear HL1
  obtain ⟨LST, hLST⟩ : ∃ LST, LST = SL gp g gl n (.slice none 0 0) (mFresh 1 n) (bgD n) [] := ⟨_, rfl⟩
  have HL7 : Hid (Lv w w1 LST) := Lib.hid (by rw [hLST]; exact HLa.out)
  have HPC : Hid (∀ u, Lv w u LST → u.cell? ⟨gp, 0, none⟩ = some (.pointer (some ⟨g, 0, none⟩)) ∧ u.cell? ⟨gp, 1, none⟩ = some (.pointer (some ⟨gl, 0, none⟩)) ∧ u.cell? ⟨gp, 2, none⟩ = some (.int .i64 (n : Int))) := Lib.hid (fun u hl => by rw [hLST] at hl; have := hl.pastF (i := 1) rfl; exact ⟨this.2.1, this.2.2.1, this.2.2.2.1⟩)
  have HLST := Lib.hid hLST
  clear hLST HLa
  refine Roll.region_x 6 186 DofE6 LofE6 [(2, .int .i64 fu), (9, .pointer (some ⟨gp, 0, none⟩))] 5 [true, true, true, true, true, false] (fun p => Lv w p LST) (fun vv p => Lv w p LST) (fun p => p.cell? ⟨gp, 0, none⟩ = some (.pointer (some ⟨g, 0, none⟩)) ∧ p.cell? ⟨gp, 1, none⟩ = some (.pointer (some ⟨gl, 0, none⟩)) ∧ p.cell? ⟨gp, 2, none⟩ = some (.int .i64 (n : Int))) (fun _ _ => True) [fun vv p => (vv 0) = .pointer (some ⟨gp, 0, none⟩), fun vv p => (vv 1) = .pointer (some ⟨gp, 0, none⟩), fun vv p => (vv 2) = .pointer (some ⟨gp, 0, none⟩), fun vv p => (vv 3) = .pointer (some ⟨g, 0, none⟩), fun vv p => (vv 4) = .int .i64 fu, fun vv p => (vv 5) = .int .i64 (KF : Int)] (by kernel_rfl) (by kernel_rfl) rfl ⟨rfl, rfl, trivial⟩ (HL7.out.below (Below.refl _ _).drew) (by decide) (by kernel_rfl) (fun p hp => HPC.out p hp) (fun u p hp => HPC.out p hp) (fun _ => trivial) ?_ ?_ ?_
  · exact ⟨fun _ _ _ _ h => h, fun _ _ _ _ h => h, fun _ _ _ _ h => h, fun _ _ _ _ h => h, fun _ _ _ _ h => h, fun _ _ _ _ h => h, trivial⟩
  · intro b0 hN hlv
    refine ⟨?_, ?_, ?_, ?_, ?_, ?_, trivial⟩
    · intro vs p hI0 hp
      have hI := Roll.inw_pure (by decide) rfl hI0
      clear hI0
      have e9 : (Roll.putD DofE6 vs [] b0).eval (.tmp 9) = .pointer (some ⟨gp, 0, none⟩) := (Roll.eval_old rfl).trans (hlv.at 1 (9, .pointer (some ⟨gp, 0, none⟩)) rfl)
      clear hp hlv hN
      unfold Roll.Goes
      simp only [LofE6, List.getD_cons_zero, List.getD_cons_succ]
      generalize Roll.putD DofE6 vs [] b0 = a1 at *
      refine Roll.goes_val (w' := p) (.pointer (some ⟨gp, 0, none⟩)) rfl ?_ ⟨(Roll.outw_pure (by decide) rfl), rfl⟩
      (have ec : ∀ x, a1.eval (.const x) = x := fun _ => rfl); (have ef : ∀ x, a1.eval (.func x) = .func (.func x) #[] #[] := fun _ => rfl); generalize a1.eval = ρ at *
      skip
      go_simp <;> (intros; first | (exfalso; omega) | rfl)
    · intro vs p hI0 hp
      have hI := Roll.inw_pure (by decide) rfl hI0
      clear hI0
      have h0 : (vs 0) = .pointer (some ⟨gp, 0, none⟩) := hp 0 (by simp [LofE6])
      have e26 : (Roll.putD DofE6 vs [0] b0).eval (.tmp 26) = .pointer (some ⟨gp, 0, none⟩) := (Roll.eval_new 0 rfl (by decide) (by decide) (by omega)).trans h0
      clear hp hlv hN
      unfold Roll.Goes
      simp only [LofE6, List.getD_cons_zero, List.getD_cons_succ]
      generalize Roll.putD DofE6 vs [0] b0 = a1 at *
      refine Roll.goes_val (w' := p) (.pointer (some ⟨gp, 0, none⟩)) rfl ?_ ⟨(Roll.outw_pure (by decide) rfl), rfl⟩
      (have ec : ∀ x, a1.eval (.const x) = x := fun _ => rfl); (have ef : ∀ x, a1.eval (.func x) = .func (.func x) #[] #[] := fun _ => rfl); generalize a1.eval = ρ at *
      clear h0
      go_simp <;> (intros; first | (exfalso; omega) | rfl)
    · intro vs p hI0 hp
      have hI := Roll.inw_pure (by decide) rfl hI0
      clear hI0
      have h1 : (vs 1) = .pointer (some ⟨gp, 0, none⟩) := hp 1 (by simp [LofE6])
      have e27 : (Roll.putD DofE6 vs [1] b0).eval (.tmp 27) = .pointer (some ⟨gp, 0, none⟩) := (Roll.eval_new 1 rfl (by decide) (by decide) (by omega)).trans h1
      clear hp hlv hN
      unfold Roll.Goes
      simp only [LofE6, List.getD_cons_zero, List.getD_cons_succ]
      generalize Roll.putD DofE6 vs [1] b0 = a1 at *
      refine Roll.goes_val (w' := p) (.pointer (some ⟨gp, 0, none⟩)) rfl ?_ ⟨(Roll.outw_pure (by decide) rfl), rfl⟩
      (have ec : ∀ x, a1.eval (.const x) = x := fun _ => rfl); (have ef : ∀ x, a1.eval (.func x) = .func (.func x) #[] #[] := fun _ => rfl); generalize a1.eval = ρ at *
      clear h1
      go_simp <;> (intros; first | (exfalso; omega) | rfl)
    · intro vs p hI0 hp
      have hI := Roll.inw_pure (by decide) rfl hI0
      clear hI0
      have h2 : (vs 2) = .pointer (some ⟨gp, 0, none⟩) := hp 2 (by simp [LofE6])
      have e28 : (Roll.putD DofE6 vs [2] b0).eval (.tmp 28) = .pointer (some ⟨gp, 0, none⟩) := (Roll.eval_new 2 rfl (by decide) (by decide) (by omega)).trans h2
      clear hp hlv hN
      unfold Roll.Goes
      simp only [LofE6, List.getD_cons_zero, List.getD_cons_succ]
      generalize Roll.putD DofE6 vs [2] b0 = a1 at *
      have cf := hI.1
      refine Roll.goes_val (w' := p) (.pointer (some ⟨g, 0, none⟩)) rfl ?_ ⟨(Roll.outw_pure (by decide) rfl), rfl⟩
      (have ec : ∀ x, a1.eval (.const x) = x := fun _ => rfl); (have ef : ∀ x, a1.eval (.func x) = .func (.func x) #[] #[] := fun _ => rfl); generalize a1.eval = ρ at *
      go_simp <;> (intros; first | (exfalso; omega) | rfl)
    · intro vs p hI0 hp
      have hI := Roll.inw_pure (by decide) rfl hI0
      clear hI0
      have e2 : (Roll.putD DofE6 vs [] b0).eval (.tmp 2) = .int .i64 fu := (Roll.eval_old rfl).trans (hlv.at 0 (2, .int .i64 fu) rfl)
      clear hp hlv hN
      unfold Roll.Goes
      simp only [LofE6, List.getD_cons_zero, List.getD_cons_succ]
      generalize Roll.putD DofE6 vs [] b0 = a1 at *
      refine Roll.goes_val (w' := p) (.int .i64 fu) rfl ?_ ⟨(Roll.outw_pure (by decide) rfl), rfl⟩
      (have ec : ∀ x, a1.eval (.const x) = x := fun _ => rfl); (have ef : ∀ x, a1.eval (.func x) = .func (.func x) #[] #[] := fun _ => rfl); generalize a1.eval = ρ at *
      skip
      go_simp <;> (intros; first | (exfalso; omega) | rfl)
    · intro vs p hI0 hp
      have hI := Roll.inw_k0 rfl hI0
      clear hI0
      have h4 : (vs 4) = .int .i64 fu := hp 4 (by simp [LofE6])
      have e30 : (Roll.putD DofE6 vs [4] b0).eval (.tmp 30) = .int .i64 fu := (Roll.eval_new 4 rfl (by decide) (by decide) (by omega)).trans h4
      clear hp hlv hN
      unfold Roll.Goes
      simp only [LofE6, List.getD_cons_zero, List.getD_cons_succ]
      generalize Roll.putD DofE6 vs [4] b0 = a1 at *
      refine Roll.goes_call 6 #[.int .i64 fu, .int .i64 60] p rfl (by have ec : ∀ x, a1.eval (.const x) = x := fun _ => rfl; have ef : ∀ x, a1.eval (.func x) = .func (.func x) #[] #[] := fun _ => rfl; generalize a1.eval = ρ at *; go_simp) ?_
      refine (HAR.out p).mono ?_
      rintro y p2 ⟨rfl, rfl⟩
      exact ⟨_, rfl, Roll.outw_k0 rfl hI trivial, rfl⟩
  · intro vs p hI hR
    have h0 : (vs 0) = .pointer (some ⟨gp, 0, none⟩) := hR 0 (by omega)
    have h1 : (vs 1) = .pointer (some ⟨gp, 0, none⟩) := hR 1 (by omega)
    have h2 : (vs 2) = .pointer (some ⟨gp, 0, none⟩) := hR 2 (by omega)
    have h3 : (vs 3) = .pointer (some ⟨g, 0, none⟩) := hR 3 (by omega)
    have h4 : (vs 4) = .int .i64 fu := hR 4 (by omega)
    have h5 : (vs 5) = .int .i64 (KF : Int) := hR 5 (by omega)
    clear hR
    simp only [List.range_succ, List.range_zero, List.nil_append, List.cons_append, Roll.putD, Act.put, List.getD_cons_zero, List.getD_cons_succ, List.setIfInBounds_toArray, List.set_cons_zero, List.set_cons_succ, List.drop_succ_cons, List.drop_zero, DofE6]
    simp only [h0, h1, h2, h3, h4, h5]
    clear h0 h1 h2 h3 h4 h5
    have HL8 := Lib.hid hI
    clear hI HL7
    go_upto_region 7 with (have x1 := HL8.out; go_at_call 5; rw [HLST.out] at x1; refine (fuse_lv x1 (i := 3) (d := bgD n) rfl (KF : Int) (by omega) (by omega)).mono ?_; rintro e w3 ⟨rfl, hl3⟩; have HL3 : Hid (Lv w w3 (SL gp g gl n (.slice none 0 0) (mFresh 1 n) ((bgD n).setFuse (KF : Int)) [])) := Lib.hid hl3; clear hl3 x1 HL8)
    clear HPC HLST
    go_upto_block 0 with fail
    go_cut [10, 11] from 23 (fun u10 u11 wx => ∃ (v : Value) (bs : List (List UInt8)) (m : LM) (d : DM), v = u10 ∧ u11 = .int .i64 (m.syn : Int) ∧ Seals DS n m d bs ∧ Lv w wx (SL gp g gl n v m d bs))
    case first =>
      go_wp2_with fail
      go_loopw [10, 11, 12, 13, 14] (fun u10 u11 t u13 u14 wr => ∃ (i : Nat) (v : Value) (bs : List (List UInt8)) (m : LM) (d : DM), i ≤ 12 ∧ v = u10 ∧ u11 = .int .i64 (m.syn : Int) ∧ t = .int .i64 (i : Int) ∧ Seals DS n m d bs ∧ Lv w wr (SL gp g gl n v m d bs)) (fun _ _ t _ _ _ => 12 - (intOf t).toNat)
      case atStart => exact ⟨0, _, [], mFresh 1 n, _, Nat.zero_le _, rfl, rfl, rfl, HS0.out, HL3.out⟩
      case round =>
        clear HL3 HS0
        obtain ⟨i, v0, bs, m, d, hi, hv0, rfl, rfl, hS, hL⟩ := hrel
        subst hv0
        obtain ⟨D1, a1x, c1x, hv1, hrd1⟩ := hL.recsR (i := 0) rfl
        subst hv1
        have ha1c := hrd1.2.1
        have ha1m := hrd1.2.2.1
        clear hrd1
        have q0 := (hL.pastF (i := 1) rfl).2.1
        have HS := Lib.hid hS
        have HL := Lib.hid hL
        obtain ⟨bl2, hbl2⟩ : ∃ bl2, bl2 = bs.length := ⟨_, rfl⟩
        rw [← hbl2] at HL ha1c ⊢
        have HBL2 := Lib.hid hbl2
        clear hS hL hbl2
        by_cases hia : i < ln
        · have hia2 : (i : Int) < (ln : Int) := by omega
          by_cases hi20 : i < 12
          · have hi202 : (i : Int) < 12 := by omega
            by_cases hon : d.on = true
            · have hwi : IntKind.i64.wrap ((i : Int) + 1) = (i : Int) + 1 := i64_id _ (by omega) (by omega)
              have him : i < rs.length := by rw [HRL.out]; exact hia
              have HON := Lib.hid hon
              have HBD := Lib.hid (HS.out.bd hon)
              obtain ⟨gb, off, b2, cb, -, rfl, hgb, hcell, hbs⟩ := (HR.out.below HL.out.args).2.2.2 i him
              obtain ⟨B, hB⟩ : ∃ B, B = (rs[i]'him).take 60 := ⟨_, rfl⟩
              have HFW : Hid (∀ u, Below wr.heap.size wr u → Calls Tryd.prog 8 #[.slice b2 (rs[i]'him).length cb, .int .i64 60] u fun e w' => ∃ v, e = .returned v ∧ Made u v B w') := Lib.hid (fun u hu => by rw [hB]; exact few_any _ b2 _ cb 60 _ u (hbs.kept (Kept.of_below (fun _ => False) hu) (fun _ _ _ h => h)) (by omega))
              have hcb := hbs.2.2.1
              have hcbm : cb ≤ 9223372036854775807 := hbs.2.2.2.1
              obtain ⟨bl3, hbl3⟩ : ∃ bl3, bl3 = (rs[i]'him).length := ⟨_, rfl⟩
              rw [← hbl3] at hcell HFW hcb
              have hBs : B.length ≤ 60 := by rw [hB, List.length_take]; omega
              have HBS := Lib.hid hBs
              obtain ⟨K, hKK⟩ : ∃ K, K = B.length := ⟨_, rfl⟩
              have HKK := Lib.hid hKK
              obtain ⟨SB, hSB⟩ : ∃ SB, SB = sealB B := ⟨_, rfl⟩
              obtain ⟨SK, hSK⟩ : ∃ SK, SK = SB.length := ⟨_, rfl⟩
              have HSL : Hid (SB.length = SK) := Lib.hid hSK.symm
              have hSKb : SK ≤ 200 := by have := sealB_len B (by omega); rw [hSK, hSB]; omega
              have HSBE := Lib.hid hSB
              have HSE : Hid (∀ (u : World) (a2 : Option Addr) {c2 : Nat} {DB : Nat → Prop}, Below w.heap.size w u → Bs DB u a2 K c2 B → Calls Tryd.prog 10 #[.slice a2 K c2] u fun e w' => ∃ v, e = .returned v ∧ Made u v SB w') := Lib.hid (fun u a2 c2 DB hu hb => by rw [hSB]; exact sealed_any DB a2 K c2 B u (HTA.out u hu) hb (by omega))
              obtain ⟨R, hR⟩ : ∃ R, R = roomZ m.n m.tak := ⟨_, rfl⟩
              have hRb := roomZ_bd m.n m.tak
              rw [← hR] at hRb
              have hRb1 := hRb.1
              have hRb2 := hRb.2
              have HRM : Hid (roomZ m.n m.tak = R) := Lib.hid hR.symm
              clear hbs hB hbl3 hKK hSB hSK hR hRb hBs him hon hia
              go_upto_region 11 with (first
                | (go_at_call 7; refine (on_lv HL.out (i := 3) (d := d) rfl).mono ?_; rintro e w3 ⟨rfl, rfl⟩; rw [HON.out])
                | (have x1 := HL.out; go_at_call 8; refine (HFW.out _ (Below.refl _ _)).mono ?_; rintro e w3 ⟨v3, rfl, hm⟩; have hl3 := x1.made hm; obtain ⟨a2, c2, rfl, hbb⟩ := hm.bs; rw [← HKK.out] at hbb hl3 ⊢; have HL3 := Lib.hid hl3; have HBB := Lib.hid hbb; have hc2 := hbb.2.2.1; have hc2m := hbb.2.2.2.1; have q3 := (hl3.pastF (i := 2) rfl).2.2.1; clear hm hl3 hbb x1 HL HFW))
              by_cases hRS : R < (SK : Int)
              · go_wp2_with (first
                  | (have x1 := HL3.out; go_at_call 9; refine (room_lv x1 (i := 3) (m := m) rfl HBD.out.1 HBD.out.2.1).mono ?_; rintro e w4 ⟨rfl, hb⟩; rw [HRM.out]; have HL4 := Lib.hid (x1.below hb); have HBB4 := Lib.hid (HBB.out.kept (Kept.of_below (fun _ => False) hb) (fun _ _ _ h => h)); clear hb x1 HL3 HBB)
                  | (have x1 := HL4.out; go_at_call 10; refine (HSE.out _ _ x1.args HBB4.out).mono ?_; rintro e w5 ⟨v5, rfl, hm⟩; have hl5 := x1.made hm; obtain ⟨a5, c5, rfl, hb5⟩ := hm.bs; rw [HSL.out] at hb5 hl5 ⊢; have HL5 := Lib.hid hl5.tail.tail; clear hm hl5 hb5 x1 HL4))
                go_meet
                exact ⟨_, bs, m, d, rfl, rfl, HS.out, HL5.out⟩
              · have hRS2 : (SK : Int) ≤ R := by omega
                have HAE : Hid (appE m true SK = 0) := Lib.hid (by unfold appE; rw [if_neg (by omega), if_neg (by rw [HRM.out]; omega)]; rfl)
                go_upto_region 12 with (first
                  | (have x1 := HL3.out; go_at_call 9; refine (room_lv x1 (i := 3) (m := m) rfl HBD.out.1 HBD.out.2.1).mono ?_; rintro e w4 ⟨rfl, hb⟩; rw [HRM.out]; have HL4 := Lib.hid (x1.below hb); have HBB4 := Lib.hid (HBB.out.kept (Kept.of_below (fun _ => False) hb) (fun _ _ _ h => h)); clear hb x1 HL3 HBB)
                  | (have x1 := HL4.out; go_at_call 10; refine (HSE.out _ _ x1.args HBB4.out).mono ?_; rintro e w5 ⟨v5, rfl, hm⟩; have hl5 := x1.made hm; obtain ⟨a5, c5, rfl, hb5⟩ := hm.bs; rw [HSL.out] at hb5 hl5 ⊢; have HL5 := Lib.hid hl5.tail; have HL6 : Hid (Lv w (w5.alloc (.cells #[.slice a2 K c2] 34)) (bytesO (.slice a2 K c2) B :: SL gp g gl n (.slice a1x bl2 c1x) m d bs)) := Lib.hid (hl5.tail.below ((Below.refl _ _).alloc (Nat.le_refl _) _)); have HSRC : Hid (Src Tryd.prog 1 22 (.slice (some ⟨w5.heap.size, 0, none⟩) 1 1) 1 [.slice a2 K c2] (w5.alloc (.cells #[.slice a2 K c2] 34))) := Lib.hid (src_one Tryd.underlying22 (heap_new rfl)); clear hm hl5 hb5 x1 HL4))
                go_upto_region 13 with (at_builtin; refine wpList_racc2 HL6.out (i := 1) (j := 0) (rs := bs) (by omega) rfl rfl rfl (.tmp 64) (.tmp 66) rfl rfl HSRC.out (by have := HS.out.len; have := HBD.out.2.2; omega) ?_; clear HL6 HSRC HL5; intro a7 c7 w7 hl7 hbx7; rw [← HBL2.out] at hl7 ⊢; have HL7b : Hid (Lv w w7 (SL gp g gl n (.slice a7 (bl2 + 1) c7) m d (bs ++ [B]))) := Lib.hid hl7.tail; have HBX := Lib.hid hbx7; clear hl7 hbx7)
                obtain ⟨DB, hdb⟩ := HBX.out
                obtain ⟨D7, a7y, c7y, hv7, hrd7⟩ := HL7b.out.recsR (i := 0) rfl
                injection hv7 with ev1 ev2 ev3
                have hc7 : bl2 + 1 ≤ c7 := by rw [ev2, ev3]; exact hrd7.2.1
                have hc7m : c7 ≤ 9223372036854775807 := by rw [ev3]; exact hrd7.2.2.1
                obtain ⟨LST, hLST⟩ : ∃ LST, LST = SL gp g gl n (.slice a7 (bl2 + 1) c7) m d (bs ++ [B]) := ⟨_, rfl⟩
                have HL7 : Hid (Lv w w7 LST ∧ Bs DB w7 a2 K c2 B) := Lib.hid ⟨by rw [hLST]; exact HL7b.out, hdb⟩
                have HPC : Hid (∀ u, Lv w u LST → u.cell? ⟨gp, 0, none⟩ = some (.pointer (some ⟨g, 0, none⟩)) ∧ u.cell? ⟨gp, 1, none⟩ = some (.pointer (some ⟨gl, 0, none⟩)) ∧ u.cell? ⟨gp, 2, none⟩ = some (.int .i64 (n : Int))) := Lib.hid (fun u hl => by rw [hLST] at hl; have := hl.pastF (i := 1) rfl; exact ⟨this.2.1, this.2.2.1, this.2.2.2.1⟩)
                have HLST := Lib.hid hLST
                clear hLST HL7b HBX hdb ev1 ev2 ev3 hrd7
                refine Roll.region_x 6 186 DofE13 LofE13 [(9, .pointer (some ⟨gp, 0, none⟩)), (13, .slice a2 K c2)] 5 [true, true, true, true, true, false] (fun p => Lv w p LST ∧ Bs DB p a2 K c2 B) (fun vv p => ∃ a3 c3, vv = .slice a3 SK c3 ∧ Lv w p (bytesO (.slice a3 SK c3) SB :: LST)) (fun p => p.cell? ⟨gp, 0, none⟩ = some (.pointer (some ⟨g, 0, none⟩)) ∧ p.cell? ⟨gp, 1, none⟩ = some (.pointer (some ⟨gl, 0, none⟩)) ∧ p.cell? ⟨gp, 2, none⟩ = some (.int .i64 (n : Int))) (fun _ _ => True) [fun vv p => (vv 0) = .pointer (some ⟨gp, 0, none⟩), fun vv p => (vv 1) = .pointer (some ⟨gp, 0, none⟩), fun vv p => (vv 2) = .pointer (some ⟨gp, 1, none⟩), fun vv p => (vv 3) = .pointer (some ⟨gl, 0, none⟩), fun vv p => (vv 4) = .slice a2 K c2, fun vv p => ∃ x, (vv 5) = x] (by kernel_rfl) (by kernel_rfl) rfl ⟨rfl, rfl, trivial⟩ (⟨HL7.out.1.below (Below.refl _ _).drew, HL7.out.2.kept (Kept.of_below (fun _ => False) (Below.refl _ _).drew) (fun _ _ _ h => h)⟩) (by decide) (by kernel_rfl) (fun p hp => HPC.out p hp.1) (fun u p hp => by obtain ⟨a3, c3, -, hl⟩ := hp; exact HPC.out p hl.tail) (fun _ => trivial) ?_ ?_ ?_
                · exact ⟨fun _ _ _ _ h => h, fun _ _ _ _ h => h, fun _ _ _ _ h => h, fun _ _ _ _ h => h, fun _ _ _ _ h => h, fun _ _ _ _ h => h, trivial⟩
                · intro b0 hN hlv
                  refine ⟨?_, ?_, ?_, ?_, ?_, ?_, trivial⟩
                  · intro vs p hI0 hp
                    have hI := Roll.inw_pure (by decide) rfl hI0
                    clear hI0
                    have e9 : (Roll.putD DofE13 vs [] b0).eval (.tmp 9) = .pointer (some ⟨gp, 0, none⟩) := (Roll.eval_old rfl).trans (hlv.at 0 (9, .pointer (some ⟨gp, 0, none⟩)) rfl)
                    clear hp hlv hN
                    unfold Roll.Goes
                    simp only [LofE13, List.getD_cons_zero, List.getD_cons_succ]
                    generalize Roll.putD DofE13 vs [] b0 = a1 at *
                    refine Roll.goes_val (w' := p) (.pointer (some ⟨gp, 0, none⟩)) rfl ?_ ⟨(Roll.outw_pure (by decide) rfl), rfl⟩
                    (have ec : ∀ x, a1.eval (.const x) = x := fun _ => rfl); (have ef : ∀ x, a1.eval (.func x) = .func (.func x) #[] #[] := fun _ => rfl); generalize a1.eval = ρ at *
                    skip
                    go_simp <;> (intros; first | (exfalso; omega) | rfl)
                  · intro vs p hI0 hp
                    have hI := Roll.inw_pure (by decide) rfl hI0
                    clear hI0
                    have h0 : (vs 0) = .pointer (some ⟨gp, 0, none⟩) := hp 0 (by simp [LofE13])
                    have e68 : (Roll.putD DofE13 vs [0] b0).eval (.tmp 68) = .pointer (some ⟨gp, 0, none⟩) := (Roll.eval_new 0 rfl (by decide) (by decide) (by omega)).trans h0
                    clear hp hlv hN
                    unfold Roll.Goes
                    simp only [LofE13, List.getD_cons_zero, List.getD_cons_succ]
                    generalize Roll.putD DofE13 vs [0] b0 = a1 at *
                    refine Roll.goes_val (w' := p) (.pointer (some ⟨gp, 0, none⟩)) rfl ?_ ⟨(Roll.outw_pure (by decide) rfl), rfl⟩
                    (have ec : ∀ x, a1.eval (.const x) = x := fun _ => rfl); (have ef : ∀ x, a1.eval (.func x) = .func (.func x) #[] #[] := fun _ => rfl); generalize a1.eval = ρ at *
                    clear h0
                    go_simp <;> (intros; first | (exfalso; omega) | rfl)
                  · intro vs p hI0 hp
                    have hI := Roll.inw_pure (by decide) rfl hI0
                    clear hI0
                    have h1 : (vs 1) = .pointer (some ⟨gp, 0, none⟩) := hp 1 (by simp [LofE13])
                    have e69 : (Roll.putD DofE13 vs [1] b0).eval (.tmp 69) = .pointer (some ⟨gp, 0, none⟩) := (Roll.eval_new 1 rfl (by decide) (by decide) (by omega)).trans h1
                    clear hp hlv hN
                    unfold Roll.Goes
                    simp only [LofE13, List.getD_cons_zero, List.getD_cons_succ]
                    generalize Roll.putD DofE13 vs [1] b0 = a1 at *
                    refine Roll.goes_val (w' := p) (.pointer (some ⟨gp, 1, none⟩)) rfl ?_ ⟨(Roll.outw_pure (by decide) rfl), rfl⟩
                    (have ec : ∀ x, a1.eval (.const x) = x := fun _ => rfl); (have ef : ∀ x, a1.eval (.func x) = .func (.func x) #[] #[] := fun _ => rfl); generalize a1.eval = ρ at *
                    clear h1
                    go_simp <;> (intros; first | (exfalso; omega) | rfl)
                  · intro vs p hI0 hp
                    have hI := Roll.inw_pure (by decide) rfl hI0
                    clear hI0
                    have h2 : (vs 2) = .pointer (some ⟨gp, 1, none⟩) := hp 2 (by simp [LofE13])
                    have e70 : (Roll.putD DofE13 vs [2] b0).eval (.tmp 70) = .pointer (some ⟨gp, 1, none⟩) := (Roll.eval_new 2 rfl (by decide) (by decide) (by omega)).trans h2
                    clear hp hlv hN
                    unfold Roll.Goes
                    simp only [LofE13, List.getD_cons_zero, List.getD_cons_succ]
                    generalize Roll.putD DofE13 vs [2] b0 = a1 at *
                    have cf := hI.2.1
                    refine Roll.goes_val (w' := p) (.pointer (some ⟨gl, 0, none⟩)) rfl ?_ ⟨(Roll.outw_pure (by decide) rfl), rfl⟩
                    (have ec : ∀ x, a1.eval (.const x) = x := fun _ => rfl); (have ef : ∀ x, a1.eval (.func x) = .func (.func x) #[] #[] := fun _ => rfl); generalize a1.eval = ρ at *
                    go_simp <;> (intros; first | (exfalso; omega) | rfl)
                  · intro vs p hI0 hp
                    have hI := Roll.inw_pure (by decide) rfl hI0
                    clear hI0
                    have e13 : (Roll.putD DofE13 vs [] b0).eval (.tmp 13) = .slice a2 K c2 := (Roll.eval_old rfl).trans (hlv.at 1 (13, .slice a2 K c2) rfl)
                    clear hp hlv hN
                    unfold Roll.Goes
                    simp only [LofE13, List.getD_cons_zero, List.getD_cons_succ]
                    generalize Roll.putD DofE13 vs [] b0 = a1 at *
                    refine Roll.goes_val (w' := p) (.slice a2 K c2) rfl ?_ ⟨(Roll.outw_pure (by decide) rfl), rfl⟩
                    (have ec : ∀ x, a1.eval (.const x) = x := fun _ => rfl); (have ef : ∀ x, a1.eval (.func x) = .func (.func x) #[] #[] := fun _ => rfl); generalize a1.eval = ρ at *
                    skip
                    go_simp <;> (intros; first | (exfalso; omega) | rfl)
                  · intro vs p hI0 hp
                    have hI := Roll.inw_k0 rfl hI0
                    clear hI0
                    have h4 : (vs 4) = .slice a2 K c2 := hp 4 (by simp [LofE13])
                    have e72 : (Roll.putD DofE13 vs [4] b0).eval (.tmp 72) = .slice a2 K c2 := (Roll.eval_new 4 rfl (by decide) (by decide) (by omega)).trans h4
                    clear hp hlv hN
                    unfold Roll.Goes
                    simp only [LofE13, List.getD_cons_zero, List.getD_cons_succ]
                    generalize Roll.putD DofE13 vs [4] b0 = a1 at *
                    refine Roll.goes_call 10 #[.slice a2 K c2] p rfl (by have ec : ∀ x, a1.eval (.const x) = x := fun _ => rfl; have ef : ∀ x, a1.eval (.func x) = .func (.func x) #[] #[] := fun _ => rfl; generalize a1.eval = ρ at *; go_simp) ?_
                    refine (HSE.out p _ hI.1.args hI.2).mono ?_
                    rintro y p2 ⟨v, rfl, hm⟩
                    have hl := hI.1.made hm
                    obtain ⟨a3, c3, rfl, hb3⟩ := hm.bs
                    rw [HSL.out] at hl
                    exact ⟨_, rfl, Roll.outw_k0 rfl ⟨a3, c3, by rw [HSL.out]; rfl, hl⟩ trivial, _, rfl⟩
                · intro vs p hI hR
                  have h0 : (vs 0) = .pointer (some ⟨gp, 0, none⟩) := hR 0 (by omega)
                  have h1 : (vs 1) = .pointer (some ⟨gp, 0, none⟩) := hR 1 (by omega)
                  have h2 : (vs 2) = .pointer (some ⟨gp, 1, none⟩) := hR 2 (by omega)
                  have h3 : (vs 3) = .pointer (some ⟨gl, 0, none⟩) := hR 3 (by omega)
                  have h4 : (vs 4) = .slice a2 K c2 := hR 4 (by omega)
                  have h5 : ∃ x, (vs 5) = x := hR 5 (by omega)
                  clear hR
                  simp only [List.range_succ, List.range_zero, List.nil_append, List.cons_append, Roll.putD, Act.put, List.getD_cons_zero, List.getD_cons_succ, List.setIfInBounds_toArray, List.set_cons_zero, List.set_cons_succ, List.drop_succ_cons, List.drop_zero, DofE13]
                  simp only [h0, h1, h2, h3, h4]
                  clear h0 h1 h2 h3 h4
                  clear h5
                  generalize vs 5 = v5x at *
                  obtain ⟨a3, c3, rfl, hl9⟩ := hI
                  rw [HLST.out] at hl9
                  have HL9 := Lib.hid hl9
                  have HAP := Lib.hid (HS.out.past.append HON.out SB (by rw [HSL.out]; exact HAE.out))
                  have HS2 : Hid (Seals DS n (appM m true SB) d (bs ++ [B])) := Lib.hid ⟨HAP.out.1, by rw [HAP.out.2.1, HS.out.recs, List.map_append, HSBE.out]; rfl, fun b hb => by
                    rcases List.mem_append.1 hb with hb | hb
                    · exact HS.out.small b hb
                    · rw [List.mem_singleton.1 hb]; exact HBS.out⟩
                  have HSY2 : Hid ((appM m true SB).syn = m.syn) := Lib.hid HAP.out.2.2
                  clear hl9 HL7 HPC HLST HAP
                  go_upto_region 14 with (have x1 := HL9.out; go_at_call 11; obtain ⟨BX, ⟨ax, cx, hvx, hbx⟩, -, -, -⟩ := HL9.out.get (i := 0) rfl; rw [HSL.out] at hvx hbx; cases hvx; refine (append_lv x1 (i := 3) (j := 4) (m := m) (d := d) rfl rfl hbx HBD.out.1 HBD.out.2.1 (by omega) HBD.out.2.2).mono ?_; rintro e w8 ⟨rfl, hl8⟩; rw [HON.out] at hl8 ⊢; rw [HAE.out]; have HL10 : Hid (Lv w w8 (SL gp g gl n (.slice a7 (bl2 + 1) c7) (appM m true SB) d (bs ++ [B]))) := Lib.hid hl8.tail; clear hl8 hbx x1 HL9)
                  have HM2 := Lib.hid HS2.out.past.fit
                  obtain ⟨m2, hm2⟩ : ∃ m2, m2 = appM m true SB := ⟨_, rfl⟩
                  rw [← hm2] at HS2 HSY2 HL10
                  have q8 := (HL10.out.pastF (i := 1) rfl).2.2.1
                  clear hm2
                  by_cases hib : i < bn
                  · have hib2 : (i : Int) < (bn : Int) := by omega
                    have him2 : i < bl.length := by rw [HBL.out]; exact hib
                    obtain ⟨bo, hbo⟩ : ∃ bo, bo = bl[i]'him2 := ⟨_, rfl⟩
                    obtain ⟨bb2, off2, -, hbs2, rfl, hcell2⟩ := (HB.out.kept (Kept.of_below (fun _ => False) HL10.out.args) (fun _ _ _ h => h)).cells (by omega)
                    have cc2 := hcell2 i him2
                    rw [← hbo] at cc2
                    clear hcell2 hbo him2 hib
                    cases bo with
                    | true =>
                      have HSYN := Lib.hid (HS2.out.past.sync HON.out)
                      have HSC : Hid (∀ u, Lv w u (SL gp g gl n (.slice a7 (bl2 + 1) c7) m2 d (bs ++ [B])) → Calls Tryd.prog 12 #[.pointer (some ⟨gl, 0, none⟩)] u fun x w' => x = .returned (.int .i64 (syncR m2 d).1) ∧ Lv w w' (SL gp g gl n (.slice a7 (bl2 + 1) c7) (syncR m2 d).2.1 (syncR m2 d).2.2 (bs ++ [B]))) := Lib.hid (fun u hl => HS2.out.past.sync_lv HON.out hl (i := 2) (j := 3) rfl rfl (by omega))
                      obtain ⟨Q, hQ⟩ : ∃ Q, Q = syncR m2 d := ⟨_, rfl⟩
                      rw [← hQ] at HSYN HSC
                      clear hQ
                      rcases HSYN.out with ⟨e1, e2, e3, e4⟩ | ⟨e1, e2, e3, e4⟩
                      · rw [e1] at HSC
                        have HS3 : Hid (Seals DS n Q.2.1 Q.2.2 (bs ++ [B])) := Lib.hid ⟨e2, e3.trans HS2.out.recs, HS2.out.small⟩
                        have HSY3 : Hid (Q.2.1.syn = bl2 + 1) := Lib.hid (by rw [e4, HS2.out.len, List.length_append, List.length_singleton, ← HBL2.out])
                        clear e1 e2 e3 e4 HSYN
                        go_wp2_with (have x1 := HL10.out; go_at_call 12; refine (HSC.out _ x1).mono ?_; rintro e w9 ⟨rfl, hl9⟩; have HL11 := Lib.hid hl9; clear hl9 x1 HL10)
                        go_roundw
                        case rel => exact ⟨i + 1, _, bs ++ [B], Q.2.1, Q.2.2, by omega, rfl, by rw [HSY3.out]; rfl, by go_num, HS3.out, HL11.out⟩
                        case measure => simp [intOf]; omega
                      · rw [e1] at HSC
                        have HS3 : Hid (Seals DS n m2 Q.2.2 (bs ++ [B])) := Lib.hid ⟨e4, HS2.out.recs, HS2.out.small⟩
                        have HE2 := Lib.hid e2
                        clear e1 e2 e3 e4 HSYN
                        go_wp2_with (have x1 := HL10.out; go_at_call 12; refine (HSC.out _ x1).mono ?_; rintro e w9 ⟨rfl, hl9⟩; rw [HE2.out] at hl9; have HL11 := Lib.hid hl9; clear hl9 x1 HL10)
                        go_roundw
                        case rel => exact ⟨i + 1, _, bs ++ [B], m2, Q.2.2, by omega, rfl, by rw [HSY2.out], by go_num, HS3.out, HL11.out⟩
                        case measure => simp [intOf]; omega
                    | false =>
                      go_wp2_with fail
                      go_roundw
                      case rel => exact ⟨i + 1, _, bs ++ [B], m2, d, by omega, rfl, by rw [HSY2.out], by go_num, HS2.out, HL10.out⟩
                      case measure => simp [intOf]; omega
                  · have hib2 : (bn : Int) ≤ (i : Int) := by omega
                    clear hib
                    go_wp2_with fail
                    go_roundw
                    case rel => exact ⟨i + 1, _, bs ++ [B], m2, d, by omega, rfl, by rw [HSY2.out], by go_num, HS2.out, HL10.out⟩
                    case measure => simp [intOf]; omega
            · have hon2 : d.on = false := by simpa using hon
              have HON := Lib.hid hon2
              clear hon hon2
              go_wp2_with (go_at_call 7; refine (on_lv HL.out (i := 3) (d := d) rfl).mono ?_; rintro e w3 ⟨rfl, rfl⟩; rw [HON.out])
              go_meet
              exact ⟨_, bs, m, d, rfl, rfl, HS.out, HL.out⟩
          · have hi202 : (12 : Int) ≤ (i : Int) := by omega
            go_wp2_with fail
            go_meet
            exact ⟨_, bs, m, d, rfl, rfl, HS.out, HL.out⟩
        · have hia2 : (ln : Int) ≤ (i : Int) := by omega
          go_wp2_with fail
          go_meet
          exact ⟨_, bs, m, d, rfl, rfl, HS.out, HL.out⟩
    case rest =>
      obtain ⟨v0, bs, m, d, hv0, rfl, hS, hL⟩ := hcut
      subst hv0
      clear HL3 HS0 HR HRL HB HBL hlc hlm hbc hbm HAR
      rename World => w4
      obtain ⟨D1, a1x, c1x, hv1, hrd1⟩ := hL.recsR (i := 0) rfl
      subst hv1
      have ha1c := hrd1.2.1
      have ha1m := hrd1.2.2.1
      clear hrd1
      have q0 := (hL.pastF (i := 1) rfl).2.1
      have HS := Lib.hid hS
      have HL := Lib.hid hL
      obtain ⟨bl2, hbl2⟩ : ∃ bl2, bl2 = bs.length := ⟨_, rfl⟩
      rw [← hbl2] at HL ha1c ⊢
      have HBL2 := Lib.hid hbl2
      obtain ⟨sy, hsy⟩ : ∃ sy, sy = m.syn := ⟨_, rfl⟩
      rw [← hsy]
      have HSYN := Lib.hid hsy
      clear hS hL hbl2 hsy
      go_upto_region 17 with (have x1 := HL.out; go_at_call 5; refine (fuse_lv x1 (i := 3) (d := d) rfl 0 (by omega) (by omega)).mono ?_; rintro e w6 ⟨rfl, hl6⟩; have HL6 : Hid (Lv w w6 (SL gp g gl n (.slice a1x bl2 c1x) m (d.setFuse 0) bs)) := Lib.hid hl6; clear hl6 x1 HL)
      obtain ⟨LST, hLST⟩ : ∃ LST, LST = SL gp g gl n (.slice a1x bl2 c1x) m (d.setFuse 0) bs := ⟨_, rfl⟩
      have HL7 : Hid (Lv w w6 LST) := Lib.hid (by rw [hLST]; exact HL6.out)
      have HPC : Hid (∀ u, Lv w u LST → u.cell? ⟨gp, 0, none⟩ = some (.pointer (some ⟨g, 0, none⟩)) ∧ u.cell? ⟨gp, 1, none⟩ = some (.pointer (some ⟨gl, 0, none⟩)) ∧ u.cell? ⟨gp, 2, none⟩ = some (.int .i64 (n : Int))) := Lib.hid (fun u hl => by rw [hLST] at hl; have := hl.pastF (i := 1) rfl; exact ⟨this.2.1, this.2.2.1, this.2.2.2.1⟩)
      have HLST := Lib.hid hLST
      clear hLST HL6 q0
      refine Roll.region_x 11 186 DofE17 LofE17 [(3, .slice ta tn tc), (9, .pointer (some ⟨gp, 0, none⟩))] 10 [true, true, true, true, true, true, true, true, true, true, false] (fun p => Lv w p LST) (fun vv p => ∃ ts, Lv w p (tornO vv ts :: LST)) (fun p => p.cell? ⟨gp, 0, none⟩ = some (.pointer (some ⟨g, 0, none⟩)) ∧ p.cell? ⟨gp, 1, none⟩ = some (.pointer (some ⟨gl, 0, none⟩)) ∧ p.cell? ⟨gp, 2, none⟩ = some (.int .i64 (n : Int))) (fun _ _ => True) [fun vv p => (vv 0) = .pointer (some ⟨gp, 0, none⟩), fun vv p => (vv 1) = .pointer (some ⟨gp, 0, none⟩), fun vv p => (vv 2) = .pointer (some ⟨gp, 0, none⟩), fun vv p => (vv 3) = .pointer (some ⟨g, 0, none⟩), fun vv p => (vv 4) = .slice ta tn tc, fun vv p => (vv 5) = .pointer (some ⟨gp, 0, none⟩), fun vv p => (vv 6) = .pointer (some ⟨gp, 0, none⟩), fun vv p => (vv 7) = .pointer (some ⟨gp, 2, none⟩), fun vv p => (vv 8) = .int .i64 (n : Int), fun vv p => (vv 9) = .int .i64 ((DS : Nat) : Int), fun vv p => ∃ x, (vv 10) = x] (by kernel_rfl) (by kernel_rfl) rfl ⟨rfl, rfl, trivial⟩ (HL7.out.below (Below.refl _ _).drew) (by decide) (by kernel_rfl) (fun p hp => HPC.out p hp) (fun u p hp => by obtain ⟨ts, hl⟩ := hp; exact HPC.out p hl.tail) (fun _ => trivial) ?_ ?_ ?_
      · exact ⟨fun _ _ _ _ h => h, fun _ _ _ _ h => h, fun _ _ _ _ h => h, fun _ _ _ _ h => h, fun _ _ _ _ h => h, fun _ _ _ _ h => h, fun _ _ _ _ h => h, fun _ _ _ _ h => h, fun _ _ _ _ h => h, fun _ _ _ _ h => h, fun _ _ _ _ h => h, trivial⟩
      · intro b0 hN hlv
        refine ⟨?_, ?_, ?_, ?_, ?_, ?_, ?_, ?_, ?_, ?_, ?_, trivial⟩
        · intro vs p hI0 hp
          have hI := Roll.inw_pure (by decide) rfl hI0
          clear hI0
          have e9 : (Roll.putD DofE17 vs [] b0).eval (.tmp 9) = .pointer (some ⟨gp, 0, none⟩) := (Roll.eval_old rfl).trans (hlv.at 1 (9, .pointer (some ⟨gp, 0, none⟩)) rfl)
          clear hp hlv hN
          unfold Roll.Goes
          simp only [LofE17, List.getD_cons_zero, List.getD_cons_succ]
          generalize Roll.putD DofE17 vs [] b0 = a1 at *
          refine Roll.goes_val (w' := p) (.pointer (some ⟨gp, 0, none⟩)) rfl ?_ ⟨(Roll.outw_pure (by decide) rfl), rfl⟩
          (have ec : ∀ x, a1.eval (.const x) = x := fun _ => rfl); (have ef : ∀ x, a1.eval (.func x) = .func (.func x) #[] #[] := fun _ => rfl); generalize a1.eval = ρ at *
          skip
          go_simp <;> (intros; first | (exfalso; omega) | rfl)
        · intro vs p hI0 hp
          have hI := Roll.inw_pure (by decide) rfl hI0
          clear hI0
          have h0 : (vs 0) = .pointer (some ⟨gp, 0, none⟩) := hp 0 (by simp [LofE17])
          have e104 : (Roll.putD DofE17 vs [0] b0).eval (.tmp 104) = .pointer (some ⟨gp, 0, none⟩) := (Roll.eval_new 0 rfl (by decide) (by decide) (by omega)).trans h0
          clear hp hlv hN
          unfold Roll.Goes
          simp only [LofE17, List.getD_cons_zero, List.getD_cons_succ]
          generalize Roll.putD DofE17 vs [0] b0 = a1 at *
          refine Roll.goes_val (w' := p) (.pointer (some ⟨gp, 0, none⟩)) rfl ?_ ⟨(Roll.outw_pure (by decide) rfl), rfl⟩
          (have ec : ∀ x, a1.eval (.const x) = x := fun _ => rfl); (have ef : ∀ x, a1.eval (.func x) = .func (.func x) #[] #[] := fun _ => rfl); generalize a1.eval = ρ at *
          clear h0
          go_simp <;> (intros; first | (exfalso; omega) | rfl)
        · intro vs p hI0 hp
          have hI := Roll.inw_pure (by decide) rfl hI0
          clear hI0
          have h1 : (vs 1) = .pointer (some ⟨gp, 0, none⟩) := hp 1 (by simp [LofE17])
          have e105 : (Roll.putD DofE17 vs [1] b0).eval (.tmp 105) = .pointer (some ⟨gp, 0, none⟩) := (Roll.eval_new 1 rfl (by decide) (by decide) (by omega)).trans h1
          clear hp hlv hN
          unfold Roll.Goes
          simp only [LofE17, List.getD_cons_zero, List.getD_cons_succ]
          generalize Roll.putD DofE17 vs [1] b0 = a1 at *
          refine Roll.goes_val (w' := p) (.pointer (some ⟨gp, 0, none⟩)) rfl ?_ ⟨(Roll.outw_pure (by decide) rfl), rfl⟩
          (have ec : ∀ x, a1.eval (.const x) = x := fun _ => rfl); (have ef : ∀ x, a1.eval (.func x) = .func (.func x) #[] #[] := fun _ => rfl); generalize a1.eval = ρ at *
          clear h1
          go_simp <;> (intros; first | (exfalso; omega) | rfl)
        · intro vs p hI0 hp
          have hI := Roll.inw_pure (by decide) rfl hI0
          clear hI0
          have h2 : (vs 2) = .pointer (some ⟨gp, 0, none⟩) := hp 2 (by simp [LofE17])
          have e106 : (Roll.putD DofE17 vs [2] b0).eval (.tmp 106) = .pointer (some ⟨gp, 0, none⟩) := (Roll.eval_new 2 rfl (by decide) (by decide) (by omega)).trans h2
          clear hp hlv hN
          unfold Roll.Goes
          simp only [LofE17, List.getD_cons_zero, List.getD_cons_succ]
          generalize Roll.putD DofE17 vs [2] b0 = a1 at *
          have cf := hI.1
          refine Roll.goes_val (w' := p) (.pointer (some ⟨g, 0, none⟩)) rfl ?_ ⟨(Roll.outw_pure (by decide) rfl), rfl⟩
          (have ec : ∀ x, a1.eval (.const x) = x := fun _ => rfl); (have ef : ∀ x, a1.eval (.func x) = .func (.func x) #[] #[] := fun _ => rfl); generalize a1.eval = ρ at *
          go_simp <;> (intros; first | (exfalso; omega) | rfl)
        · intro vs p hI0 hp
          have hI := Roll.inw_pure (by decide) rfl hI0
          clear hI0
          have e3 : (Roll.putD DofE17 vs [] b0).eval (.tmp 3) = .slice ta tn tc := (Roll.eval_old rfl).trans (hlv.at 0 (3, .slice ta tn tc) rfl)
          clear hp hlv hN
          unfold Roll.Goes
          simp only [LofE17, List.getD_cons_zero, List.getD_cons_succ]
          generalize Roll.putD DofE17 vs [] b0 = a1 at *
          refine Roll.goes_val (w' := p) (.slice ta tn tc) rfl ?_ ⟨(Roll.outw_pure (by decide) rfl), rfl⟩
          (have ec : ∀ x, a1.eval (.const x) = x := fun _ => rfl); (have ef : ∀ x, a1.eval (.func x) = .func (.func x) #[] #[] := fun _ => rfl); generalize a1.eval = ρ at *
          skip
          go_simp <;> (intros; first | (exfalso; omega) | rfl)
        · intro vs p hI0 hp
          have hI := Roll.inw_pure (by decide) rfl hI0
          clear hI0
          have e9 : (Roll.putD DofE17 vs [] b0).eval (.tmp 9) = .pointer (some ⟨gp, 0, none⟩) := (Roll.eval_old rfl).trans (hlv.at 1 (9, .pointer (some ⟨gp, 0, none⟩)) rfl)
          clear hp hlv hN
          unfold Roll.Goes
          simp only [LofE17, List.getD_cons_zero, List.getD_cons_succ]
          generalize Roll.putD DofE17 vs [] b0 = a1 at *
          refine Roll.goes_val (w' := p) (.pointer (some ⟨gp, 0, none⟩)) rfl ?_ ⟨(Roll.outw_pure (by decide) rfl), rfl⟩
          (have ec : ∀ x, a1.eval (.const x) = x := fun _ => rfl); (have ef : ∀ x, a1.eval (.func x) = .func (.func x) #[] #[] := fun _ => rfl); generalize a1.eval = ρ at *
          skip
          go_simp <;> (intros; first | (exfalso; omega) | rfl)
        · intro vs p hI0 hp
          have hI := Roll.inw_pure (by decide) rfl hI0
          clear hI0
          have h5 : (vs 5) = .pointer (some ⟨gp, 0, none⟩) := hp 5 (by simp [LofE17])
          have e109 : (Roll.putD DofE17 vs [5] b0).eval (.tmp 109) = .pointer (some ⟨gp, 0, none⟩) := (Roll.eval_new 5 rfl (by decide) (by decide) (by omega)).trans h5
          clear hp hlv hN
          unfold Roll.Goes
          simp only [LofE17, List.getD_cons_zero, List.getD_cons_succ]
          generalize Roll.putD DofE17 vs [5] b0 = a1 at *
          refine Roll.goes_val (w' := p) (.pointer (some ⟨gp, 0, none⟩)) rfl ?_ ⟨(Roll.outw_pure (by decide) rfl), rfl⟩
          (have ec : ∀ x, a1.eval (.const x) = x := fun _ => rfl); (have ef : ∀ x, a1.eval (.func x) = .func (.func x) #[] #[] := fun _ => rfl); generalize a1.eval = ρ at *
          clear h5
          go_simp <;> (intros; first | (exfalso; omega) | rfl)
        · intro vs p hI0 hp
          have hI := Roll.inw_pure (by decide) rfl hI0
          clear hI0
          have h6 : (vs 6) = .pointer (some ⟨gp, 0, none⟩) := hp 6 (by simp [LofE17])
          have e110 : (Roll.putD DofE17 vs [6] b0).eval (.tmp 110) = .pointer (some ⟨gp, 0, none⟩) := (Roll.eval_new 6 rfl (by decide) (by decide) (by omega)).trans h6
          clear hp hlv hN
          unfold Roll.Goes
          simp only [LofE17, List.getD_cons_zero, List.getD_cons_succ]
          generalize Roll.putD DofE17 vs [6] b0 = a1 at *
          refine Roll.goes_val (w' := p) (.pointer (some ⟨gp, 2, none⟩)) rfl ?_ ⟨(Roll.outw_pure (by decide) rfl), rfl⟩
          (have ec : ∀ x, a1.eval (.const x) = x := fun _ => rfl); (have ef : ∀ x, a1.eval (.func x) = .func (.func x) #[] #[] := fun _ => rfl); generalize a1.eval = ρ at *
          clear h6
          go_simp <;> (intros; first | (exfalso; omega) | rfl)
        · intro vs p hI0 hp
          have hI := Roll.inw_pure (by decide) rfl hI0
          clear hI0
          have h7 : (vs 7) = .pointer (some ⟨gp, 2, none⟩) := hp 7 (by simp [LofE17])
          have e111 : (Roll.putD DofE17 vs [7] b0).eval (.tmp 111) = .pointer (some ⟨gp, 2, none⟩) := (Roll.eval_new 7 rfl (by decide) (by decide) (by omega)).trans h7
          clear hp hlv hN
          unfold Roll.Goes
          simp only [LofE17, List.getD_cons_zero, List.getD_cons_succ]
          generalize Roll.putD DofE17 vs [7] b0 = a1 at *
          have cf := hI.2.2
          refine Roll.goes_val (w' := p) (.int .i64 (n : Int)) rfl ?_ ⟨(Roll.outw_pure (by decide) rfl), rfl⟩
          (have ec : ∀ x, a1.eval (.const x) = x := fun _ => rfl); (have ef : ∀ x, a1.eval (.func x) = .func (.func x) #[] #[] := fun _ => rfl); generalize a1.eval = ρ at *
          go_simp <;> (intros; first | (exfalso; omega) | rfl)
        · intro vs p hI0 hp
          have hI := Roll.inw_pure (by decide) rfl hI0
          clear hI0
          have h8 : (vs 8) = .int .i64 (n : Int) := hp 8 (by simp [LofE17])
          have e112 : (Roll.putD DofE17 vs [8] b0).eval (.tmp 112) = .int .i64 (n : Int) := (Roll.eval_new 8 rfl (by decide) (by decide) (by omega)).trans h8
          clear hp hlv hN
          unfold Roll.Goes
          simp only [LofE17, List.getD_cons_zero, List.getD_cons_succ]
          generalize Roll.putD DofE17 vs [8] b0 = a1 at *
          refine Roll.goes_val (w' := p) (.int .i64 ((DS : Nat) : Int)) rfl ?_ ⟨(Roll.outw_pure (by decide) rfl), rfl⟩
          (have ec : ∀ x, a1.eval (.const x) = x := fun _ => rfl); (have ef : ∀ x, a1.eval (.func x) = .func (.func x) #[] #[] := fun _ => rfl); generalize a1.eval = ρ at *
          clear h8
          go_simp <;> (intros; first | (exfalso; omega) | rfl)
        · intro vs p hI0 hp
          have hI := Roll.inw_k0 rfl hI0
          clear hI0
          have h4 : (vs 4) = .slice ta tn tc := hp 4 (by simp [LofE17])
          have h9 : (vs 9) = .int .i64 ((DS : Nat) : Int) := hp 9 (by simp [LofE17])
          have e108 : (Roll.putD DofE17 vs [4, 9] b0).eval (.tmp 108) = .slice ta tn tc := (Roll.eval_new 4 rfl (by decide) (by decide) (by omega)).trans h4
          have e113 : (Roll.putD DofE17 vs [4, 9] b0).eval (.tmp 113) = .int .i64 ((DS : Nat) : Int) := (Roll.eval_new 9 rfl (by decide) (by decide) (by omega)).trans h9
          clear hp hlv hN
          unfold Roll.Goes
          simp only [LofE17, List.getD_cons_zero, List.getD_cons_succ]
          generalize Roll.putD DofE17 vs [4, 9] b0 = a1 at *
          refine Roll.goes_call 14 #[.slice ta tn tc, .int .i64 ((DS : Nat) : Int)] p rfl (by have ec : ∀ x, a1.eval (.const x) = x := fun _ => rfl; have ef : ∀ x, a1.eval (.func x) = .func (.func x) #[] #[] := fun _ => rfl; generalize a1.eval = ρ at *; go_simp) ?_
          refine (HTO.out p _ hI).mono ?_
          rintro y p2 ⟨v, ts, rfl, hl⟩
          exact ⟨_, rfl, Roll.outw_k0 rfl ⟨ts, hl⟩ trivial, _, rfl⟩
      · intro vs p hI hR
        have h0 : (vs 0) = .pointer (some ⟨gp, 0, none⟩) := hR 0 (by omega)
        have h1 : (vs 1) = .pointer (some ⟨gp, 0, none⟩) := hR 1 (by omega)
        have h2 : (vs 2) = .pointer (some ⟨gp, 0, none⟩) := hR 2 (by omega)
        have h3 : (vs 3) = .pointer (some ⟨g, 0, none⟩) := hR 3 (by omega)
        have h4 : (vs 4) = .slice ta tn tc := hR 4 (by omega)
        have h5 : (vs 5) = .pointer (some ⟨gp, 0, none⟩) := hR 5 (by omega)
        have h6 : (vs 6) = .pointer (some ⟨gp, 0, none⟩) := hR 6 (by omega)
        have h7 : (vs 7) = .pointer (some ⟨gp, 2, none⟩) := hR 7 (by omega)
        have h8 : (vs 8) = .int .i64 (n : Int) := hR 8 (by omega)
        have h9 : (vs 9) = .int .i64 ((DS : Nat) : Int) := hR 9 (by omega)
        have h10 : ∃ x, (vs 10) = x := hR 10 (by omega)
        clear hR
        simp only [List.range_succ, List.range_zero, List.nil_append, List.cons_append, Roll.putD, Act.put, List.getD_cons_zero, List.getD_cons_succ, List.setIfInBounds_toArray, List.set_cons_zero, List.set_cons_succ, List.drop_succ_cons, List.drop_zero, DofE17]
        simp only [h0, h1, h2, h3, h4, h5, h6, h7, h8, h9]
        clear h0 h1 h2 h3 h4 h5 h6 h7 h8 h9
        clear h10
        generalize vs 10 = v10 at *
        obtain ⟨ts, hl⟩ := hI
        rw [HLST.out] at hl
        have HLT := Lib.hid hl
        clear hl HL7 HTO HPC HLST
        go_upto_region 18 with (have x1 := HLT.out; go_at_call 13; obtain ⟨BT, ⟨ta2, tc2, htv, hTS⟩, -, -, -⟩ := HLT.out.get (i := 0) (o := tornO v10 ts) rfl; subst htv; refine (restart_lv x1 (i := 4) (d := d.setFuse 0) rfl hTS (.inr ⟨0, _, by omega, rfl, rfl⟩)).mono ?_; rintro e w7 ⟨rfl, hl7⟩; have HL8 : Hid (Lv w w7 (SL gp g gl n (.slice a1x bl2 c1x) m (cutD d ts) bs)) := Lib.hid hl7.tail; clear hl7 hTS x1 HLT)
        obtain ⟨r3, e3, gs, hga, hcs⟩ := HS.out.past.crash ts
        have hcs2 : m.syn ≤ gs.length ∧ gs.length ≤ m.recs.length ∧ gs = m.recs.take gs.length := hcs.resolve_right (fun h => by cases h.1)
        have HGA := Lib.hid hga
        have hgl : gs.length ≤ 100000 ∧ ∀ q ∈ gs, q.length ≤ 1000000 := by
          have h1 := hga.en
          have h2 := hga.room
          have h3 := HNB.out.2
          obtain ⟨b1, b2, b3⟩ := lenB_facts gs
          exact ⟨by omega, fun q hq => by have := b1 q hq; omega⟩
        have HGL := Lib.hid hgl
        obtain ⟨rn, hrn⟩ : ∃ rn, rn = gs.length := ⟨_, rfl⟩
        have HRN := Lib.hid hrn
        have hgc : (sy : Int) ≤ (rn : Int) ∧ (rn : Int) ≤ (bl2 : Int) := by
          have h1 := HS.out.len
          have h2 := HSYN.out
          have h3 := HBL2.out
          omega
        have HGS : Hid (gs = (bs.map sealB).take rn) := Lib.hid (by rw [hrn, ← HS.out.recs]; exact hcs2.2.2)
        have HSM := Lib.hid HS.out.small
        have hgc1 := hgc.1
        have hgc2 := hgc.2
        have hgd1 : decide (rn < sy) = false := decide_eq_false (by omega)
        have hgd2 : decide (bl2 < rn) = false := decide_eq_false (by omega)
        clear hga hcs hcs2 hgl hrn hgc
        obtain ⟨LST, hLST⟩ : ∃ LST, LST = SL gp g gl n (.slice a1x bl2 c1x) m (cutD d ts) bs := ⟨_, rfl⟩
        have HL7 : Hid (Lv w w7 LST) := Lib.hid (by rw [hLST]; exact HL8.out)
        obtain ⟨MO, hMO⟩ : ∃ MO, MO = mOpen 1 n r3 gs := ⟨_, rfl⟩
        have HOP : Hid (∀ u, Lv w u LST → Calls Tryd.prog 15 #[.pointer (some ⟨g, 0, none⟩), .int .i64 1, .int .i64 (n : Int)] u fun x w' => ∃ gk, x = .returned (.tuple #[.pointer (some ⟨gk, 0, none⟩), .int .i64 0]) ∧ Lv w w' (logO gk g MO :: LST)) := Lib.hid (fun u hl => by rw [hLST] at hl ⊢; rw [hMO]; exact open_ga hl (j := 3) rfl HGA.out (show 1 ≤ 4096 by omega) HNB.out.1 (show n ≤ 200 by have := HNB.out.2; omega) (cutD_on _ _))
        have HPC : Hid (∀ u, Lv w u LST → u.cell? ⟨gp, 0, none⟩ = some (.pointer (some ⟨g, 0, none⟩)) ∧ u.cell? ⟨gp, 2, none⟩ = some (.int .i64 (n : Int))) := Lib.hid (fun u hl => by rw [hLST] at hl; have := hl.pastF (i := 1) rfl; exact ⟨this.2.1, this.2.2.2.1⟩)
        have HLST := Lib.hid hLST
        have HMO := Lib.hid hMO
        clear hLST hMO HL8
        refine Roll.region_v 14 186 DofE18 LofE18 [(9, .pointer (some ⟨gp, 0, none⟩))] 8 [true, true, true, false, true, true, true, false, false, true, true, true, true, true] (fun p => Lv w p LST) (fun vv p => ∃ gk, vv = .tuple #[.pointer (some ⟨gk, 0, none⟩), .int .i64 0] ∧ Lv w p (logO gk g MO :: LST)) (fun p => True) (fun _ _ => True) [fun vv p => (vv 0) = .pointer (some ⟨gp, 0, none⟩), fun vv p => (vv 1) = .pointer (some ⟨gp, 0, none⟩), fun vv p => (vv 2) = .pointer (some ⟨gp, 0, none⟩), fun vv p => (vv 3) = .pointer (some ⟨g, 0, none⟩), fun vv p => (vv 4) = .pointer (some ⟨gp, 0, none⟩), fun vv p => (vv 5) = .pointer (some ⟨gp, 0, none⟩), fun vv p => (vv 6) = .pointer (some ⟨gp, 2, none⟩), fun vv p => (vv 7) = .int .i64 (n : Int), fun vv p => ∃ gk, (vv 8) = .tuple #[.pointer (some ⟨gk, 0, none⟩), .int .i64 0], fun vv p => ∃ gk, (vv 8) = .tuple #[.pointer (some ⟨gk, 0, none⟩), .int .i64 0] ∧ (vv 9) = .tuple #[.pointer (some ⟨gk, 0, none⟩), .int .i64 0], fun vv p => ∃ gk, (vv 9) = .tuple #[.pointer (some ⟨gk, 0, none⟩), .int .i64 0] ∧ (vv 10) = .pointer (some ⟨gk, 0, none⟩), fun vv p => (vv 11) = .int .i64 0, fun vv p => ∃ gk, (vv 10) = .pointer (some ⟨gk, 0, none⟩) ∧ (vv 12) = .pointer (some ⟨gk, 0, none⟩), fun vv p => (vv 13) = .int .i64 0] (by kernel_rfl) (by kernel_rfl) rfl ⟨rfl, trivial⟩ (HL7.out.below (Below.refl _ _).drew) (by decide) (by kernel_rfl) (fun _ _ => trivial) (fun _ _ _ => trivial) (fun _ => trivial) ?_ ?_ ?_
        · exact ⟨fun _ _ _ _ h => h, fun _ _ _ _ h => h, fun _ _ _ _ h => h, fun _ _ _ _ h => h, fun _ _ _ _ h => h, fun _ _ _ _ h => h, fun _ _ _ _ h => h, fun _ _ _ _ h => h, fun _ _ _ _ h => h, fun _ _ _ _ h => h, fun _ _ _ _ h => h, fun _ _ _ _ h => h, fun _ _ _ _ h => h, fun _ _ _ _ h => h, trivial⟩
        · intro b0 hN hlv
          refine ⟨?_, ?_, ?_, ?_, ?_, ?_, ?_, ?_, ?_, ?_, ?_, ?_, ?_, ?_, trivial⟩
          · intro vs p hI0 hp
            have hI := Roll.inw_pure (by decide) rfl hI0
            clear hI0
            have e9 : (Roll.putD DofE18 vs [] b0).eval (.tmp 9) = .pointer (some ⟨gp, 0, none⟩) := (Roll.eval_old rfl).trans (hlv.at 0 (9, .pointer (some ⟨gp, 0, none⟩)) rfl)
            clear hp hlv hN
            unfold Roll.Goes
            simp only [LofE18, List.getD_cons_zero, List.getD_cons_succ]
            generalize Roll.putD DofE18 vs [] b0 = a1 at *
            refine Roll.goes_val (w' := p) (.pointer (some ⟨gp, 0, none⟩)) rfl ?_ ⟨(Roll.outw_pure (by decide) rfl), rfl⟩
            (have ec : ∀ x, a1.eval (.const x) = x := fun _ => rfl); (have ef : ∀ x, a1.eval (.func x) = .func (.func x) #[] #[] := fun _ => rfl); generalize a1.eval = ρ at *
            skip
            go_simp <;> (intros; first | (exfalso; omega) | rfl)
          · intro vs p hI0 hp
            have hI := Roll.inw_pure (by decide) rfl hI0
            clear hI0
            have h0 : (vs 0) = .pointer (some ⟨gp, 0, none⟩) := hp 0 (by simp [LofE18])
            have e117 : (Roll.putD DofE18 vs [0] b0).eval (.tmp 117) = .pointer (some ⟨gp, 0, none⟩) := (Roll.eval_new 0 rfl (by decide) (by decide) (by omega)).trans h0
            clear hp hlv hN
            unfold Roll.Goes
            simp only [LofE18, List.getD_cons_zero, List.getD_cons_succ]
            generalize Roll.putD DofE18 vs [0] b0 = a1 at *
            refine Roll.goes_val (w' := p) (.pointer (some ⟨gp, 0, none⟩)) rfl ?_ ⟨(Roll.outw_pure (by decide) rfl), rfl⟩
            (have ec : ∀ x, a1.eval (.const x) = x := fun _ => rfl); (have ef : ∀ x, a1.eval (.func x) = .func (.func x) #[] #[] := fun _ => rfl); generalize a1.eval = ρ at *
            clear h0
            go_simp <;> (intros; first | (exfalso; omega) | rfl)
          · intro vs p hI0 hp
            have hI := Roll.inw_pure (by decide) rfl hI0
            clear hI0
            have h1 : (vs 1) = .pointer (some ⟨gp, 0, none⟩) := hp 1 (by simp [LofE18])
            have e118 : (Roll.putD DofE18 vs [1] b0).eval (.tmp 118) = .pointer (some ⟨gp, 0, none⟩) := (Roll.eval_new 1 rfl (by decide) (by decide) (by omega)).trans h1
            clear hp hlv hN
            unfold Roll.Goes
            simp only [LofE18, List.getD_cons_zero, List.getD_cons_succ]
            generalize Roll.putD DofE18 vs [1] b0 = a1 at *
            refine Roll.goes_val (w' := p) (.pointer (some ⟨gp, 0, none⟩)) rfl ?_ ⟨(Roll.outw_pure (by decide) rfl), rfl⟩
            (have ec : ∀ x, a1.eval (.const x) = x := fun _ => rfl); (have ef : ∀ x, a1.eval (.func x) = .func (.func x) #[] #[] := fun _ => rfl); generalize a1.eval = ρ at *
            clear h1
            go_simp <;> (intros; first | (exfalso; omega) | rfl)
          · intro vs p hI0 hp
            have hI := Roll.inw_pre (by decide) rfl hI0
            clear hI0
            have h2 : (vs 2) = .pointer (some ⟨gp, 0, none⟩) := hp 2 (by simp [LofE18])
            have e119 : (Roll.putD DofE18 vs [2] b0).eval (.tmp 119) = .pointer (some ⟨gp, 0, none⟩) := (Roll.eval_new 2 rfl (by decide) (by decide) (by omega)).trans h2
            clear hp hlv hN
            unfold Roll.Goes
            simp only [LofE18, List.getD_cons_zero, List.getD_cons_succ]
            generalize Roll.putD DofE18 vs [2] b0 = a1 at *
            have cf := (HPC.out p hI).1
            refine Roll.goes_val (w' := p) (.pointer (some ⟨g, 0, none⟩)) rfl ?_ ⟨Roll.outw_pre (by decide) rfl hI trivial, rfl⟩
            (have ec : ∀ x, a1.eval (.const x) = x := fun _ => rfl); (have ef : ∀ x, a1.eval (.func x) = .func (.func x) #[] #[] := fun _ => rfl); generalize a1.eval = ρ at *
            go_simp <;> (intros; first | (exfalso; omega) | rfl)
          · intro vs p hI0 hp
            have hI := Roll.inw_pure (by decide) rfl hI0
            clear hI0
            have e9 : (Roll.putD DofE18 vs [] b0).eval (.tmp 9) = .pointer (some ⟨gp, 0, none⟩) := (Roll.eval_old rfl).trans (hlv.at 0 (9, .pointer (some ⟨gp, 0, none⟩)) rfl)
            clear hp hlv hN
            unfold Roll.Goes
            simp only [LofE18, List.getD_cons_zero, List.getD_cons_succ]
            generalize Roll.putD DofE18 vs [] b0 = a1 at *
            refine Roll.goes_val (w' := p) (.pointer (some ⟨gp, 0, none⟩)) rfl ?_ ⟨(Roll.outw_pure (by decide) rfl), rfl⟩
            (have ec : ∀ x, a1.eval (.const x) = x := fun _ => rfl); (have ef : ∀ x, a1.eval (.func x) = .func (.func x) #[] #[] := fun _ => rfl); generalize a1.eval = ρ at *
            skip
            go_simp <;> (intros; first | (exfalso; omega) | rfl)
          · intro vs p hI0 hp
            have hI := Roll.inw_pure (by decide) rfl hI0
            clear hI0
            have h4 : (vs 4) = .pointer (some ⟨gp, 0, none⟩) := hp 4 (by simp [LofE18])
            have e121 : (Roll.putD DofE18 vs [4] b0).eval (.tmp 121) = .pointer (some ⟨gp, 0, none⟩) := (Roll.eval_new 4 rfl (by decide) (by decide) (by omega)).trans h4
            clear hp hlv hN
            unfold Roll.Goes
            simp only [LofE18, List.getD_cons_zero, List.getD_cons_succ]
            generalize Roll.putD DofE18 vs [4] b0 = a1 at *
            refine Roll.goes_val (w' := p) (.pointer (some ⟨gp, 0, none⟩)) rfl ?_ ⟨(Roll.outw_pure (by decide) rfl), rfl⟩
            (have ec : ∀ x, a1.eval (.const x) = x := fun _ => rfl); (have ef : ∀ x, a1.eval (.func x) = .func (.func x) #[] #[] := fun _ => rfl); generalize a1.eval = ρ at *
            clear h4
            go_simp <;> (intros; first | (exfalso; omega) | rfl)
          · intro vs p hI0 hp
            have hI := Roll.inw_pure (by decide) rfl hI0
            clear hI0
            have h5 : (vs 5) = .pointer (some ⟨gp, 0, none⟩) := hp 5 (by simp [LofE18])
            have e122 : (Roll.putD DofE18 vs [5] b0).eval (.tmp 122) = .pointer (some ⟨gp, 0, none⟩) := (Roll.eval_new 5 rfl (by decide) (by decide) (by omega)).trans h5
            clear hp hlv hN
            unfold Roll.Goes
            simp only [LofE18, List.getD_cons_zero, List.getD_cons_succ]
            generalize Roll.putD DofE18 vs [5] b0 = a1 at *
            refine Roll.goes_val (w' := p) (.pointer (some ⟨gp, 2, none⟩)) rfl ?_ ⟨(Roll.outw_pure (by decide) rfl), rfl⟩
            (have ec : ∀ x, a1.eval (.const x) = x := fun _ => rfl); (have ef : ∀ x, a1.eval (.func x) = .func (.func x) #[] #[] := fun _ => rfl); generalize a1.eval = ρ at *
            clear h5
            go_simp <;> (intros; first | (exfalso; omega) | rfl)
          · intro vs p hI0 hp
            have hI := Roll.inw_pre (by decide) rfl hI0
            clear hI0
            have h6 : (vs 6) = .pointer (some ⟨gp, 2, none⟩) := hp 6 (by simp [LofE18])
            have e123 : (Roll.putD DofE18 vs [6] b0).eval (.tmp 123) = .pointer (some ⟨gp, 2, none⟩) := (Roll.eval_new 6 rfl (by decide) (by decide) (by omega)).trans h6
            clear hp hlv hN
            unfold Roll.Goes
            simp only [LofE18, List.getD_cons_zero, List.getD_cons_succ]
            generalize Roll.putD DofE18 vs [6] b0 = a1 at *
            have cf := (HPC.out p hI).2
            refine Roll.goes_val (w' := p) (.int .i64 (n : Int)) rfl ?_ ⟨Roll.outw_pre (by decide) rfl hI trivial, rfl⟩
            (have ec : ∀ x, a1.eval (.const x) = x := fun _ => rfl); (have ef : ∀ x, a1.eval (.func x) = .func (.func x) #[] #[] := fun _ => rfl); generalize a1.eval = ρ at *
            go_simp <;> (intros; first | (exfalso; omega) | rfl)
          · intro vs p hI0 hp
            have hI := Roll.inw_k0 rfl hI0
            clear hI0
            have h3 : (vs 3) = .pointer (some ⟨g, 0, none⟩) := hp 3 (by simp [LofE18])
            have h7 : (vs 7) = .int .i64 (n : Int) := hp 7 (by simp [LofE18])
            have e120 : (Roll.putD DofE18 vs [3, 7] b0).eval (.tmp 120) = .pointer (some ⟨g, 0, none⟩) := (Roll.eval_new 3 rfl (by decide) (by decide) (by omega)).trans h3
            have e124 : (Roll.putD DofE18 vs [3, 7] b0).eval (.tmp 124) = .int .i64 (n : Int) := (Roll.eval_new 7 rfl (by decide) (by decide) (by omega)).trans h7
            clear hp hlv hN
            unfold Roll.Goes
            simp only [LofE18, List.getD_cons_zero, List.getD_cons_succ]
            generalize Roll.putD DofE18 vs [3, 7] b0 = a1 at *
            refine Roll.goes_call 15 #[.pointer (some ⟨g, 0, none⟩), .int .i64 1, .int .i64 (n : Int)] p rfl (by have ec : ∀ x, a1.eval (.const x) = x := fun _ => rfl; have ef : ∀ x, a1.eval (.func x) = .func (.func x) #[] #[] := fun _ => rfl; generalize a1.eval = ρ at *; go_simp) ?_
            refine (HOP.out p hI).mono ?_
            rintro y p2 ⟨gk, rfl, hl⟩
            exact ⟨_, rfl, Roll.outw_k0 rfl ⟨gk, rfl, hl⟩ trivial, gk, rfl⟩
          · intro vs p hI0 hp
            have hI := Roll.inw_pure (by decide) rfl hI0
            clear hI0
            have h8 : ∃ gk, (vs 8) = .tuple #[.pointer (some ⟨gk, 0, none⟩), .int .i64 0] := hp 8 (by simp [LofE18])
            have e125 : (Roll.putD DofE18 vs [8] b0).eval (.tmp 125) = vs 8 := (Roll.eval_new 8 rfl (by decide) (by decide) (by omega))
            clear hp hlv hN
            unfold Roll.Goes
            simp only [LofE18, List.getD_cons_zero, List.getD_cons_succ]
            generalize Roll.putD DofE18 vs [8] b0 = a1 at *
            obtain ⟨gk, hv⟩ := h8
            rw [hv] at e125
            refine Roll.goes_val (w' := p) (.tuple #[.pointer (some ⟨gk, 0, none⟩), .int .i64 0]) rfl ?_ ⟨(Roll.outw_pure (by decide) rfl), gk, hv, rfl⟩
            (have ec : ∀ x, a1.eval (.const x) = x := fun _ => rfl); (have ef : ∀ x, a1.eval (.func x) = .func (.func x) #[] #[] := fun _ => rfl); generalize a1.eval = ρ at *
            go_simp <;> (intros; first | (exfalso; omega) | rfl)
          · intro vs p hI0 hp
            have hI := Roll.inw_pure (by decide) rfl hI0
            clear hI0
            have h9 : ∃ gk, (vs 8) = .tuple #[.pointer (some ⟨gk, 0, none⟩), .int .i64 0] ∧ (vs 9) = .tuple #[.pointer (some ⟨gk, 0, none⟩), .int .i64 0] := hp 9 (by simp [LofE18])
            have e116 : (Roll.putD DofE18 vs [9] b0).eval (.tmp 116) = vs 9 := (Roll.eval_new 9 rfl (by decide) (by decide) (by omega))
            clear hp hlv hN
            unfold Roll.Goes
            simp only [LofE18, List.getD_cons_zero, List.getD_cons_succ]
            generalize Roll.putD DofE18 vs [9] b0 = a1 at *
            obtain ⟨gk, -, hv⟩ := h9
            rw [hv] at e116
            refine Roll.goes_val (w' := p) (.pointer (some ⟨gk, 0, none⟩)) rfl ?_ ⟨(Roll.outw_pure (by decide) rfl), gk, hv, rfl⟩
            (have ec : ∀ x, a1.eval (.const x) = x := fun _ => rfl); (have ef : ∀ x, a1.eval (.func x) = .func (.func x) #[] #[] := fun _ => rfl); generalize a1.eval = ρ at *
            go_simp <;> (intros; first | (exfalso; omega) | rfl)
          · intro vs p hI0 hp
            have hI := Roll.inw_pure (by decide) rfl hI0
            clear hI0
            have h9 : ∃ gk, (vs 8) = .tuple #[.pointer (some ⟨gk, 0, none⟩), .int .i64 0] ∧ (vs 9) = .tuple #[.pointer (some ⟨gk, 0, none⟩), .int .i64 0] := hp 9 (by simp [LofE18])
            have e116 : (Roll.putD DofE18 vs [9] b0).eval (.tmp 116) = vs 9 := (Roll.eval_new 9 rfl (by decide) (by decide) (by omega))
            clear hp hlv hN
            unfold Roll.Goes
            simp only [LofE18, List.getD_cons_zero, List.getD_cons_succ]
            generalize Roll.putD DofE18 vs [9] b0 = a1 at *
            obtain ⟨gk, -, hv⟩ := h9
            rw [hv] at e116
            refine Roll.goes_val (w' := p) (.int .i64 0) rfl ?_ ⟨(Roll.outw_pure (by decide) rfl), rfl⟩
            (have ec : ∀ x, a1.eval (.const x) = x := fun _ => rfl); (have ef : ∀ x, a1.eval (.func x) = .func (.func x) #[] #[] := fun _ => rfl); generalize a1.eval = ρ at *
            go_simp <;> (intros; first | (exfalso; omega) | rfl)
          · intro vs p hI0 hp
            have hI := Roll.inw_pure (by decide) rfl hI0
            clear hI0
            have h10 : ∃ gk, (vs 9) = .tuple #[.pointer (some ⟨gk, 0, none⟩), .int .i64 0] ∧ (vs 10) = .pointer (some ⟨gk, 0, none⟩) := hp 10 (by simp [LofE18])
            have e126 : (Roll.putD DofE18 vs [10] b0).eval (.tmp 126) = vs 10 := (Roll.eval_new 10 rfl (by decide) (by decide) (by omega))
            clear hp hlv hN
            unfold Roll.Goes
            simp only [LofE18, List.getD_cons_zero, List.getD_cons_succ]
            generalize Roll.putD DofE18 vs [10] b0 = a1 at *
            obtain ⟨gk, -, hv⟩ := h10
            rw [hv] at e126
            refine Roll.goes_val (w' := p) (.pointer (some ⟨gk, 0, none⟩)) rfl ?_ ⟨(Roll.outw_pure (by decide) rfl), gk, hv, rfl⟩
            (have ec : ∀ x, a1.eval (.const x) = x := fun _ => rfl); (have ef : ∀ x, a1.eval (.func x) = .func (.func x) #[] #[] := fun _ => rfl); generalize a1.eval = ρ at *
            go_simp <;> (intros; first | (exfalso; omega) | rfl)
          · intro vs p hI0 hp
            have hI := Roll.inw_pure (by decide) rfl hI0
            clear hI0
            have h11 : (vs 11) = .int .i64 0 := hp 11 (by simp [LofE18])
            have e127 : (Roll.putD DofE18 vs [11] b0).eval (.tmp 127) = .int .i64 0 := (Roll.eval_new 11 rfl (by decide) (by decide) (by omega)).trans h11
            clear hp hlv hN
            unfold Roll.Goes
            simp only [LofE18, List.getD_cons_zero, List.getD_cons_succ]
            generalize Roll.putD DofE18 vs [11] b0 = a1 at *
            refine Roll.goes_val (w' := p) (.int .i64 0) rfl ?_ ⟨(Roll.outw_pure (by decide) rfl), rfl⟩
            (have ec : ∀ x, a1.eval (.const x) = x := fun _ => rfl); (have ef : ∀ x, a1.eval (.func x) = .func (.func x) #[] #[] := fun _ => rfl); generalize a1.eval = ρ at *
            clear h11
            go_simp <;> (intros; first | (exfalso; omega) | rfl)
        · intro vs p hI hR
          have h0 : (vs 0) = .pointer (some ⟨gp, 0, none⟩) := hR 0 (by omega)
          have h1 : (vs 1) = .pointer (some ⟨gp, 0, none⟩) := hR 1 (by omega)
          have h2 : (vs 2) = .pointer (some ⟨gp, 0, none⟩) := hR 2 (by omega)
          have h3 : (vs 3) = .pointer (some ⟨g, 0, none⟩) := hR 3 (by omega)
          have h4 : (vs 4) = .pointer (some ⟨gp, 0, none⟩) := hR 4 (by omega)
          have h5 : (vs 5) = .pointer (some ⟨gp, 0, none⟩) := hR 5 (by omega)
          have h6 : (vs 6) = .pointer (some ⟨gp, 2, none⟩) := hR 6 (by omega)
          have h7 : (vs 7) = .int .i64 (n : Int) := hR 7 (by omega)
          have h8 : ∃ gk, (vs 8) = .tuple #[.pointer (some ⟨gk, 0, none⟩), .int .i64 0] := hR 8 (by omega)
          have h9 : ∃ gk, (vs 8) = .tuple #[.pointer (some ⟨gk, 0, none⟩), .int .i64 0] ∧ (vs 9) = .tuple #[.pointer (some ⟨gk, 0, none⟩), .int .i64 0] := hR 9 (by omega)
          have h10 : ∃ gk, (vs 9) = .tuple #[.pointer (some ⟨gk, 0, none⟩), .int .i64 0] ∧ (vs 10) = .pointer (some ⟨gk, 0, none⟩) := hR 10 (by omega)
          have h11 : (vs 11) = .int .i64 0 := hR 11 (by omega)
          have h12 : ∃ gk, (vs 10) = .pointer (some ⟨gk, 0, none⟩) ∧ (vs 12) = .pointer (some ⟨gk, 0, none⟩) := hR 12 (by omega)
          have h13 : (vs 13) = .int .i64 0 := hR 13 (by omega)
          clear hR
          simp only [List.range_succ, List.range_zero, List.nil_append, List.cons_append, Roll.putD, Act.put, List.getD_cons_zero, List.getD_cons_succ, List.setIfInBounds_toArray, List.set_cons_zero, List.set_cons_succ, List.drop_succ_cons, List.drop_zero, DofE18]
          simp only [h0, h1, h2, h3, h4, h5, h6, h7, h11, h13]
          clear h0 h1 h2 h3 h4 h5 h6 h7 h11 h13
          clear h8
          generalize vs 8 = v8 at *; generalize vs 9 = v9 at *; generalize vs 10 = v10 at *; generalize vs 12 = v12 at *
          obtain ⟨gk, rfl, hl8⟩ := hI
          obtain ⟨g9, e8, rfl⟩ := h9
          obtain rfl : g9 = gk := by simpa using e8.symm
          obtain ⟨g10, e9, rfl⟩ := h10
          obtain rfl : g10 = g9 := by simpa using e9.symm
          obtain ⟨g12, e10, rfl⟩ := h12
          obtain rfl : g12 = g10 := by simpa using e10.symm
          clear e8 e9 e10
          have HL9 : Hid (Lv w p (logO g12 g (mOpen 1 n r3 gs) :: SL gp g gl n (.slice a1x bl2 c1x) m (cutD d ts) bs)) := Lib.hid (by rw [← HMO.out, ← HLST.out]; exact hl8)
          clear hl8 HL7 HOP HPC HLST HMO
          go_upto_region 24 with (have x1 := HL9.out; go_at_call 16; refine (records_lv x1 (ii := 0) (m := mOpen 1 n r3 gs) rfl HGL.out.1 HGL.out.2).mono ?_; rintro e w10 ⟨ra, rc, rfl, hl10⟩; rw [show (mOpen 1 n r3 gs).recs.length = gs.length from rfl, ← HRN.out] at hl10 ⊢; have hr10 := (hl10.recsR (i := 0) rfl).choose_spec.choose_spec.choose_spec; have HL10 : Hid (Lv w w10 (recsO (.slice ra rn rc) gs :: logO g12 g (mOpen 1 n r3 gs) :: SL gp g gl n (.slice a1x bl2 c1x) m (cutD d ts) bs)) := Lib.hid hl10; clear hl10 hr10 x1 HL9)
          obtain ⟨D8, a8, c8, hv8, hrd8⟩ := HL10.out.recsR (i := 0) rfl
          rw [← HRN.out] at hv8 hrd8
          injection hv8 with ev1 ev2 hv8c
          have hrc : rn ≤ rc := by rw [hv8c]; exact hrd8.2.1
          have hrcm : rc ≤ 9223372036854775807 := by rw [hv8c]; exact hrd8.2.2.1
          clear hrd8 ev1 ev2 hv8c
          go_wp2_with fail
          go_loopw [18, 19, 20, 21, 22] (fun t u19 u20 u21 u22 wr => ∃ i : Nat, i ≤ rn ∧ t = .int .i64 (i : Int) ∧ Lv w wr (recsO (.slice ra rn rc) gs :: logO g12 g (mOpen 1 n r3 gs) :: SL gp g gl n (.slice a1x bl2 c1x) m (cutD d ts) bs)) (fun t _ _ _ _ _ => rn - (intOf t).toNat)
          case atStart => exact ⟨0, Nat.zero_le _, rfl, HL10.out⟩
          case round =>
            clear HL10
            obtain ⟨i, hi, rfl, hL⟩ := hrel
            have HL := Lib.hid hL
            by_cases hia : i < rn
            · have hia2 : (i : Int) < (rn : Int) := by omega
              have hib2 : (i : Int) < (bl2 : Int) := by omega
              have hwi : IntKind.i64.wrap ((i : Int) + 1) = (i : Int) + 1 := i64_id _ (by omega) (by omega)
              have hig : i < gs.length := by rw [← HRN.out]; exact hia
              have hibs : i < bs.length := by rw [← HBL2.out]; omega
              obtain ⟨bi, hbi⟩ : ∃ bi, bi = bs[i]'hibs := ⟨_, rfl⟩
              have hgi : gs[i]'hig = sealB bi := by
                have e := HGS.out
                have e2 : gs[i]? = ((bs.map sealB).take rn)[i]? := by rw [← e]
                rw [List.getElem?_eq_getElem hig, List.getElem?_take, if_pos hia, List.getElem?_map, List.getElem?_eq_getElem hibs] at e2
                rw [hbi]
                simpa using e2
              have hbl : bi.length ≤ 60 := HSM.out bi (by rw [hbi]; exact List.getElem_mem _)
              obtain ⟨D8, a8, c8, hv8, hrd8⟩ := hL.recsR (i := 0) rfl
              rw [← HRN.out] at hv8 hrd8
              cases hv8
              obtain ⟨gx, ox, bx, cbx, -, hax, hgx, hcx, hbx⟩ := hrd8.2.2.2 i hig
              rw [hgi] at hcx hbx
              obtain ⟨D9, a9, c9, hv9, hrd9⟩ := hL.recsR (i := 2) rfl
              rw [← HBL2.out] at hv9 hrd9
              cases hv9
              obtain ⟨gy, oy, byy, cby, -, hay, hgy, hcy, hby⟩ := hrd9.2.2.2 i hibs
              rw [← hbi] at hcy hby
              subst hax hay
              obtain ⟨S, hS⟩ : ∃ S, S = sealB bi := ⟨_, rfl⟩
              obtain ⟨H, hH⟩ : ∃ H, H = Dg.Hv bi := ⟨_, rfl⟩
              obtain ⟨TH, hTH⟩ : ∃ TH, TH = encT H := ⟨_, rfl⟩
              obtain ⟨SBi, hSB⟩ : ∃ SBi : ByteArray, SBi = ⟨bi.toArray⟩ := ⟨_, rfl⟩
              obtain ⟨SHi, hSH⟩ : ∃ SHi : ByteArray, SHi = ⟨H.toArray⟩ := ⟨_, rfl⟩
              have hHl : H.length = 32 := by rw [hH]; exact Dg.Hv_len _
              have hSl : S.length ≤ 200 := by have := sealB_len bi (by omega); rw [hS]; omega
              have hTl : TH.length ≤ 100 := by have h1 := encU_len10 H.length (by omega); rw [hTH]; unfold encT; rw [List.length_append]; omega
              have HR1 : Hid (∀ (u : World) (gr : Nat) (k : Option Nat), Rd u gr k S 0 → Calls Tryd.prog 18 #[.pointer (some ⟨gr, 0, none⟩), .int .i64 100] u fun x w' => x = .returned (.string SBi) ∧ Reads gr k u TH 0 w') := Lib.hid (fun u gr k hr => by
                have := rtext_any gr k S 0 100 u hr (by omega) (by omega) (by omega)
                have e : rText ⟨S, 0⟩ 100 = (bi, ⟨TH, 0⟩) := by rw [hS, hTH, hH]; exact rText_enc bi (encT (Dg.Hv bi)) 100 (by omega) (by omega)
                rw [e] at this
                rw [hSB]
                exact this)
              have HR2 : Hid (∀ (u : World) (gr : Nat) (k : Option Nat), Rd u gr k TH 0 → Calls Tryd.prog 18 #[.pointer (some ⟨gr, 0, none⟩), .int .i64 32] u fun x w' => x = .returned (.string SHi) ∧ Reads gr k u [] 0 w') := Lib.hid (fun u gr k hr => by
                have := rtext_any gr k TH 0 32 u hr (by omega) (by omega) (by omega)
                have e : rText ⟨TH, 0⟩ 32 = (H, ⟨[], 0⟩) := by have := rText_enc H [] 32 (by omega) (by omega); rw [List.append_nil] at this; rw [hTH]; exact this
                rw [e] at this
                rw [hSH]
                exact this)
              have HCV : Hid (∀ u : World, ∃ C w2, (convert 9 34 (.string SBi)).run Tryd.prog u = .ok (.slice (some ⟨u.heap.size, 0, none⟩) bi.length C) w2 ∧ bi.length ≤ C ∧ C ≤ 9223372036854775807 ∧ Below u.heap.size u w2 ∧ Bs (fun b => b = u.heap.size) w2 (some ⟨u.heap.size, 0, none⟩) bi.length C bi) := Lib.hid (fun u => by rw [hSB]; exact run_strB u bi (by omega))
              have HSUM : Hid (∀ (u : World) (a : Option Addr) (c : Nat) (D : Nat → Prop), Below w.heap.size w u → Bs D u a bi.length c bi → Calls Tryd.prog 19 #[.slice a bi.length c] u fun e w' => e = .returned (.agg (Dg.bcells H)) ∧ Below u.heap.size u w') := Lib.hid (fun u a c D hu hb => by rw [hH]; exact Dg.sum_any a _ c bi u (HTA.out u hu) hb.dg (by omega))
              have HAC : Hid (∀ u, Below wr.heap.size wr u → u.cell? ⟨gy, oy + i, none⟩ = some (.slice byy bi.length cby) ∧ (convert 34 9 (.slice byy bi.length cby)).run Tryd.prog u = .ok (.string SBi) u) := Lib.hid (fun u hu => ⟨(hu.cell (p := ⟨gy, oy + i, none⟩) hgy).trans hcy, by rw [hSB]; exact run_str (hby.kept (Kept.of_below (fun _ => False) hu) (fun _ _ _ h => h))⟩)
              have HHS : Hid (∀ (u : World) (g7 : Nat), u.heap[g7]? = some (.cells (Dg.bcells H) 51 (0, 0)) → (convert 34 9 (.slice (some ⟨g7, 0, none⟩) 32 32)).run Tryd.prog u = .ok (.string SHi) u) := Lib.hid (fun u g7 h => by rw [hSH]; exact run_str (bs_hash h hHl))
              have HHL := Lib.hid hHl
              have HBX := Lib.hid hbx
              have hcbx := hbx.2.2.1
              have hcbxm := hbx.2.2.2.1
              have hcby := hby.2.2.1
              have hcbym := hby.2.2.2.1
              rw [← hS] at hcx HBX hcbx
              obtain ⟨Sl, hSll⟩ : ∃ Sl, Sl = S.length := ⟨_, rfl⟩
              rw [← hSll] at hcx HBX hcbx hSl
              obtain ⟨K, hK⟩ : ∃ K, K = bi.length := ⟨_, rfl⟩
              rw [← hK] at HCV HSUM HAC hcby hbl
              clear hL hbi hgi hbx hby hcy hrd8 hrd9 hS hH hTH hSB hSH hHl hTl hSll hK hig hibs hia hgx hgy
              go_upto_region 32 with (first
                | (go_at_call 17; refine (newReader_any _ bx Sl cbx S _ HBX.out (by omega)).mono ?_; rintro e w3 ⟨gr, rfl, k, hr3, hge, hkk, hb3⟩; have HRD3 := Lib.hid hr3; have HB3 := Lib.hid hb3; have HGE := Lib.hid hge; have HKK := Lib.hid hkk; clear hr3 hge hkk hb3 HBX)
                | (have x1 := HRD3.out; go_at_call 18; refine (HR1.out _ gr k x1).mono ?_; rintro e w4 ⟨rfl, hr4, hk4⟩; have HRD4 := Lib.hid hr4; have HB4 := Lib.hid (HB3.out.trans (hk4.below HB3.out.size (fun j hj e => by have := HGE.out; omega))); have HZ4 := Lib.hid hk4.size; clear hr4 hk4 x1 HRD3)
                | (have x1 := HRD4.out; go_at_call 18; refine (HR2.out _ gr k x1).mono ?_; rintro e w5 ⟨rfl, hr5, hk5⟩; have HRD5 := Lib.hid hr5; have hb5 : Below wr.heap.size wr w5 := HB4.out.trans (hk5.below HB4.out.size (fun j hj e => by have := HGE.out; omega)); have HB5 := Lib.hid hb5; have HZ5 := Lib.hid (Nat.le_trans HZ4.out hk5.size); clear hr5 hk5 hb5 x1 HRD4))
              obtain ⟨C6, w6, rc6, hC6, hC6m, hb6, hbs6⟩ := HCV.out w5
              have HB6 := Lib.hid hb6
              have HBS6 := Lib.hid hbs6
              have HB56 := Lib.hid (HB5.out.trans (hb6.mono HB5.out.size))
              have HB0 := Lib.hid (HL.out.args.trans (HB56.out.mono HL.out.args.size))
              clear hb6 hbs6 HCV
              go_upto_region 33 with (first
                | fail
                | (go_at_call 19; refine (HSUM.out w6 _ _ _ HB0.out HBS6.out).mono ?_; rintro e w7 ⟨rfl, hb7⟩; have HB7 := Lib.hid hb7; clear hb7)
                | (refine wpList_store_row rfl 51 (.tmp 22) (.tmp 166) rfl w7.heap.size _ rfl rfl 51 _ (heap_new rfl) (by rw [Dg.bcells_size, HHL.out]; exact Dg.size32b) (by rw [Dg.bcells_size, HHL.out]; rfl) (Dg.bcells_one _) ?_))
              obtain ⟨w7b, hw7b⟩ : ∃ w7b, w7b = w7.alloc (.cells #[.int .u8 0, .int .u8 0, .int .u8 0, .int .u8 0, .int .u8 0, .int .u8 0, .int .u8 0, .int .u8 0, .int .u8 0, .int .u8 0, .int .u8 0, .int .u8 0, .int .u8 0, .int .u8 0, .int .u8 0, .int .u8 0, .int .u8 0, .int .u8 0, .int .u8 0, .int .u8 0, .int .u8 0, .int .u8 0, .int .u8 0, .int .u8 0, .int .u8 0, .int .u8 0, .int .u8 0, .int .u8 0, .int .u8 0, .int .u8 0, .int .u8 0, .int .u8 0] 51) := ⟨_, rfl⟩
              obtain ⟨g7, hg7⟩ : ∃ g7, g7 = w7.heap.size := ⟨_, rfl⟩
              rw [← hw7b, ← hg7]
              obtain ⟨w8, hw8⟩ : ∃ w8, w8 = w7b.setRow g7 (Dg.bcells H) := ⟨_, rfl⟩
              rw [← hw8]
              have hb57 : Below w5.heap.size w5 w7 := HB6.out.trans (HB7.out.mono HB6.out.size)
              have hb58 : Below w5.heap.size w5 w8 := by
                rw [hw8]
                exact Dg.Below_setRow (by rw [hw7b]; exact hb57.alloc hb57.size _) (by rw [hg7]; exact hb57.size) _
              have hg8 : w8.heap[g7]? = some (.cells (Dg.bcells H) 51 (0, 0)) := by
                rw [hw8]
                exact setRow_heap _ _ _ _ _ _ (by rw [hw7b]; exact heap_new hg7)
              have hrd8 : Rd w8 gr k [] 0 := HRD5.out.kept (Kept.of_below (fun _ => False) hb58) (fun h => h) (fun _ _ h => h)
              have hb8 : Below wr.heap.size wr w8 := HB5.out.trans (hb58.mono HB5.out.size)
              have hac8 := HAC.out w8 hb8
              have ca8 := hac8.1
              have ra8 := hac8.2
              have rh8 := HHS.out w8 g7 hg8
              have hgl8 : g7 < w8.heap.size := heap_lt hg8
              have HRD8 := Lib.hid hrd8
              have HL8 := Lib.hid (HL.out.below hb8)
              clear hw7b hg7 hw8 hb57 hb58 hg8 hrd8 hb8 hac8 rc6 HB6 HBS6 HB7 HB0 HB56 HSUM HAC HHS hC6 hC6m HRD5
              go_wp2_with (go_at_call 20; refine (end_any gr k [] 0 w8 HRD8.out).mono ?_; rintro e w9 ⟨rfl, rfl⟩; rw [show ((endE 0 ([] : List UInt8).length : Nat) : Int) = 0 from rfl])
              go_roundw
              case rel => exact ⟨i + 1, by omega, by go_num, HL8.out⟩
              case measure => simp [intOf]; omega
            · obtain rfl : i = rn := by omega
              clear hL
              go_wp2_with (have x1 := HL.out; go_at_call 21; refine (lives4_any _).mono ?_; rintro e w13 ⟨rfl, hb⟩; have HZ := Lib.hid (x1.args.trans (hb.mono x1.args.size)); clear hb x1 HL)
              go_ret
              exact ⟨rfl, HZ.out⟩
end Go.Proofs.YthffegfcgmhppaaDoor

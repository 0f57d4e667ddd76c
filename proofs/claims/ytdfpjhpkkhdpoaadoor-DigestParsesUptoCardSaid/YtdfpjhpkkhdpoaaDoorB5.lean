/-
  Walks over the digest seat: Hex.
-/
import Derived.Test.YtdfpjhpkkhdpoaaDoorB4
import Derived.Laws.IdiomStrings
import Derived.Laws.BytesArg
import Derived.Deep.RegionLaw
import Derived.WalkSmall
namespace Go.Proofs.YtdfpjhpkkhdpoaaDoor
open Go.RowKit
theorem u8_under : Tryd.prog.underlying 5 = some (.int .u8) := Tryd.underlying5
theorem str_under : Tryd.prog.underlying 9 = some .string := Tryd.underlying9
/-- string(b) -/
theorem run_str {w : World} {a : Option Addr} {n c : Nat} {l : List UInt8} (h : Bs w a n c l) :
    (convert 22 9 (.slice a n c)).run Tryd.prog w = .ok (.string ⟨l.toArray⟩) w := by
  obtain ⟨h1, h2, h3, h4, h5⟩ := h
  subst h1
  cases a with
  | none =>
    have := h4 rfl
    have hl : l = [] := List.eq_nil_of_length_eq_zero (by omega)
    subst hl
    exact run_convert_bytes_nil w 22 5 Tryd.underlying22 u8_under _ _ _ str_under
  | some ad =>
    refine run_convert_bytes_back w 22 9 5 ad c l Tryd.underlying22 u8_under str_under (fun j hj => ?_)
    obtain ⟨b, off, ha, hc⟩ := h5 (by omega)
    obtain rfl : ad = ⟨b, off, none⟩ := Option.some.inj ha
    rw [Addr.add_mid, hc j hj]
    simp [byteAt, hj, bi]
/-- the hexadecimal digits -/
def DG : List UInt8 := [48, 49, 50, 51, 52, 53, 54, 55, 56, 57, 97, 98, 99, 100, 101, 102]
def dg (n : Nat) : UInt8 := byteAt DG n
def hx (b : UInt8) : List UInt8 := [dg (b.toNat / 16), dg (b.toNat % 16)]
def hexOf (l : List UInt8) : List UInt8 := l.flatMap hx
theorem hexOf_len (l : List UInt8) : (hexOf l).length = 2 * l.length := by
  induction l with
  | nil => rfl
  | cons b r ih => simp only [hexOf, List.flatMap_cons, List.length_append, List.length_cons] at ih ⊢; simp only [hx, List.length_cons, List.length_nil]; omega
def hexTo (l : List UInt8) (k : Nat) : List UInt8 := hexOf (l.take k)
theorem hexTo_succ (l : List UInt8) (k : Nat) (h : k < l.length) : hexTo l (k + 1) = hexTo l k ++ hx (byteAt l k) := by
  unfold hexTo hexOf
  rw [List.take_succ_eq_append_getElem h, List.flatMap_append]
  simp [byteAt, h]
theorem run_dg (w : World) (n : Nat) (hn : n < 16) : (Instr.index 9 (.string { data := #[48, 49, 50, 51, 52, 53, 54, 55, 56, 57, 97, 98, 99, 100, 101, 102] }) (.int .u8 (n : Int))).run Tryd.prog w = .ok (.int .u8 (bi (dg n))) w := by
  have h : n = 0 ∨ n = 1 ∨ n = 2 ∨ n = 3 ∨ n = 4 ∨ n = 5 ∨ n = 6 ∨ n = 7 ∨ n = 8 ∨ n = 9 ∨ n = 10 ∨ n = 11 ∨ n = 12 ∨ n = 13 ∨ n = 14 ∨ n = 15 := by omega
  clear hn
  rcases h with rfl | rfl | rfl | rfl | rfl | rfl | rfl | rfl | rfl | rfl | rfl | rfl | rfl | rfl | rfl | rfl
  all_goals (show _ = _; kernel_rfl)
theorem info5agg (w : World) : (isAgg 5).run Tryd.prog w = .ok false w := by kernel_rfl
theorem idx_bytes (t n : Nat) (h : Tryd.prog.underlying t = some (.array n 5)) (vs : List UInt8) (j : Nat) (hj : j < n) (hl : vs.length = n) (w : World) :
    (Instr.index t (.agg (bcells vs)) (.int .i64 (j : Int))).run Tryd.prog w = .ok (.int .u8 (bi (byteAt vs j))) w := by
  have hg := bcells_get vs j (by omega)
  have hz : (sizeOf 5).run Tryd.prog w = .ok 1 w := by kernel_rfl
  have hw : vs[j]'(by omega) = byteAt vs j := by simp [byteAt, show j < vs.length by omega]
  rw [hw] at hg
  simp [Instr.index, run_underlying h, asIntOf, part, hj, Sem.run_bind, hz, info5agg, Result.andThen, hg, go_sem]
theorem and15' : ∀ b : Fin 256, bits .and .u8 ((b.val : Nat) : Int) 15 = ((b.val : Nat) : Int) % 16 := by decide +kernel
theorem and15 (b : Nat) (h : b < 256) : bits .and .u8 (b : Int) 15 = (b : Int) % 16 := and15' ⟨b, h⟩
/-- append where there is room, as a step of a region that draws its order -/
theorem step_append_fits {ops : Array Oper} {o : Oper} {a : Act} {w : World} {K : Act → World → Prop} {Q : Exit → Act → World → Prop} {E : Prop}
    (hg : o.guard = none) (s x : Operand) (t : TypeId) (hop : o.op = Op.call { callee := Callee.builtin Builtin.append, args := #[s, x], argTypes := #[t, t] })
    (base : Nat) (e : TypeId) (i : TypeInfo) (size : Nat) (h1 : Tryd.prog.underlying t = some (.slice e)) (h2 : Tryd.prog.info? e = some i) (h4 : i.size = size)
    (g k cap : Nat) (xs : List Value) (hs : a.eval s = .slice (some ⟨g, 0, none⟩) k cap) (hown : w.ownsRow base e size (.slice (some ⟨g, 0, none⟩) k cap) k xs) (ad : Addr) (m c : Nat) (news : List Value) (hx : a.eval x = .slice (some ad) m c) (hn : news.length = m * size)
    (hc : ∀ j u, news[j]? = some u → w.cell? (ad.add j) = some u) (h1c : ∀ u ∈ news, u.oneCell' = true) (b1 : k + m ≤ cap)
    (hK : ∀ w', w'.ownsRow base e size (.slice (some ⟨g, 0, none⟩) (k + m) cap) (k + m) (xs ++ news) → w.grownBy w' (some g) → K (a.put o.dst (.slice (some ⟨g, 0, none⟩) (k + m) cap)) w') :
    if Region.wanted o (yielded ops a.tmps) = true then Oper.wp Tryd.prog o a w K Q else E := by
  have hw : Region.wanted o (yielded ops a.tmps) = true := by simp [Region.wanted, hg]
  rw [if_pos hw]
  obtain ⟨w', hrun, r1, r2⟩ := run_append_fits (P := Tryd.prog) w base t o.type e i size h1 h2 h4 g k cap xs hown ad m c news hn hc h1c b1
  unfold Oper.wp
  simp [execOp, hop, resolve, invoke, builtin, hs, hx, hrun, Result.andThen]
  exact hK _ r1 r2
def Z64 : Array Value := bcells (List.replicate 64 0)
theorem Z64_made : madeCells (Value.int .u8 0).cells 64 = Z64 := by kernel_rfl
set_option maxRecDepth 100000 in
set_option maxHeartbeats 1000000 in
theorem hex_any (x : List UInt8) (w : World) (hx : x.length = 32) :
    Calls Tryd.prog 29 #[.agg (bcells x)] w fun e w' => e = .returned (.string ⟨(hexOf x).toArray⟩) ∧ Below w.heap.size w w' := by
  obtain ⟨i0, hi, hz0, hz1, hz2⟩ := info_parts info5
  have hmk : ∀ w' : World, (Instr.makeSlice 22 (.int .i64 0) (.int .i64 64)).run Tryd.prog w' = .ok (.slice (some ⟨w'.heap.size, 0, none⟩) 0 64) (w'.alloc (.cells Z64 5)) := fun w' => by
    rw [run_make w' 22 5 i0 _ Tryd.underlying22 hi hz0 .i64 .i64 0 64 (by omega) (by omega) (by omega) (by omega), hz1, ← Z64_made]
    rfl
  have Hx := Lib.hid hx
  clear hx
  go_enter Tryd.func29, Tryd.ntmps29
  go_upto_region 2 with (fail)
  have own : ((w.alloc (.cells (bcells x) 24)).alloc (.cells Z64 5)).ownsRow w.heap.size 5 1 (.slice (some ⟨w.heap.size + 1, 0, none⟩) 0 64) 0 [] :=
    ⟨by simp, .inr ⟨w.heap.size + 1, 64, _, rfl, by omega, heap_new (by simp only [size_alloc1]), by omega, by decide, by simp [Z64, bcells_size], by simp⟩⟩
  have hg : ((w.alloc (.cells (bcells x) 24)).alloc (.cells Z64 5)).heap[w.heap.size]? = some (.cells (bcells x) 24 (0, 0)) := heap_old (heap_new rfl)
  have bel : Below w.heap.size w ((w.alloc (.cells (bcells x) 24)).alloc (.cells Z64 5)) := ((Below.refl _ _).alloc (Nat.le_refl _) _).alloc (by simp) _
  generalize ((w.alloc (.cells (bcells x) 24)).alloc (.cells Z64 5)) = w1 at *
  clear hmk
  have Own := Lib.hid own
  have Hg := Lib.hid hg
  have Bel := Lib.hid bel
  have Hi := Lib.hid (And.intro hi (And.intro hz0 (And.intro hz1 hz2)))
  clear own hg bel hi hz0 hz1 hz2
  go_wp2_with (refine wpList_load_row rfl 24 (.tmp 1) rfl w.heap.size rfl 24 _ (0, 0) _ Hg.out Tryd.underlying24 rfl (by rw [bcells_size, Hx.out]; exact size32b) ?_)
  go_loopw [3, 5, 8] (fun v _ i wr => ∃ k : Nat, k ≤ 32 ∧ i = .int .i64 k ∧ v = .slice (some ⟨w.heap.size + 1, 0, none⟩) (2 * k) 64 ∧
      wr.ownsRow w.heap.size 5 1 (.slice (some ⟨w.heap.size + 1, 0, none⟩) (2 * k) 64) (2 * k) (vals (hexTo x k)) ∧ Below w.heap.size w wr)
    (fun _ _ i _ => 32 - (intOf i).toNat)
  case atStart => exact ⟨0, by omega, rfl, rfl, Own.out, Bel.out⟩
  case round =>
    clear Own Hg Bel
    obtain ⟨k, hk, rfl, rfl, hown, hb⟩ := hrel
    have Hown := Lib.hid hown
    have HB := Lib.hid hb
    clear hown hb
    by_cases hlt : k < 32
    · have hix := idx_bytes 24 32 Tryd.underlying24 x k hlt Hx.out
      obtain ⟨B, hB⟩ : ∃ B, B = (byteAt x k).toNat := ⟨_, rfl⟩
      have hB2 : bi (byteAt x k) = (B : Int) := by rw [hB]; rfl
      have hB3 : B < 256 := by rw [hB]; exact UInt8.toNat_lt _
      rw [hB2] at hix
      have HBB := Lib.hid hB
      clear hB hB2
      have d1 : ∀ w, (Instr.index 9 (.string { data := #[48, 49, 50, 51, 52, 53, 54, 55, 56, 57, 97, 98, 99, 100, 101, 102] }) (.int .u8 ((B : Int) / 16))).run Tryd.prog w = .ok (.int .u8 (bi (dg (B / 16)))) w := fun w => run_dg w (B / 16) (by omega)
      have d2 : ∀ w, (Instr.index 9 (.string { data := #[48, 49, 50, 51, 52, 53, 54, 55, 56, 57, 97, 98, 99, 100, 101, 102] }) (.int .u8 ((B : Int) % 16))).run Tryd.prog w = .ok (.int .u8 (bi (dg (B % 16)))) w := fun w => run_dg w (B % 16) (by omega)
      have d3 := and15 B hB3
      go_upto_region 5 with (fail)
      have Hown2 : Hid (wr.drew.ownsRow w.heap.size 5 1 (.slice (some ⟨w.heap.size + 1, 0, none⟩) (2 * k) 64) (2 * k) (vals (hexTo x k))) := Lib.hid (show wr.ownsRow w.heap.size 5 1 (.slice (some ⟨w.heap.size + 1, 0, none⟩) (2 * k) 64) (2 * k) (vals (hexTo x k)) from Hown.out)
      have HB2 : Hid (Below w.heap.size w wr) := HB
      clear Hown HB
      have Hd := Lib.hid hB3
      clear hB3
      go_region_law (refine step_append_fits rfl (.tmp 11) (.tmp 18) 22 rfl w.heap.size 5 i0 1 Tryd.underlying22 Hi.out.1 Hi.out.2.2.1 (w.heap.size + 1) (2 * k) 64 _ rfl (Hown2.out.alloc _) ⟨wr.heap.size, 0, none⟩ 2 2 [.int .u8 (bi (dg (B / 16))), .int .u8 (bi (dg (B % 16)))] rfl rfl (Go.cell_two_new wr _ _ _) (by simp [Value.oneCell']) (by omega) ?_; intro w5 hown5 hgrow)
      all_goals
        have R : w5.ownsRow w.heap.size 5 1 (.slice (some ⟨w.heap.size + 1, 0, none⟩) (2 * (k + 1)) 64) (2 * (k + 1)) (vals (hexTo x (k + 1))) := by
          rw [hexTo_succ x k (by rw [Hx.out]; exact hlt), vals_app, show 2 * (k + 1) = 2 * k + 2 by omega]
          unfold hx
          rw [← HBB.out]
          exact hown5
        have B5 : Below w.heap.size w w5 := (HB2.out.alloc HB2.out.size _).drew.grown hgrow (by have := HB2.out.size; simp; omega) (fun r hr => by cases hr; omega)
        clear hgrow hown5
        have HR := Lib.hid R
        have HB5 := Lib.hid B5
        clear R B5
        go_wp2
        go_roundw
        case rel => exact ⟨k + 1, by omega, by go_num, rfl, HR.out, HB5.out⟩
        case measure => simp [intOf]; omega
    · obtain rfl : k = 32 := by omega
      obtain ⟨oa, oc, ov, hBs⟩ := Bs_of_own (l := hexTo x 32) (by rw [hexTo, List.take_of_length_le (by rw [Hx.out]; exact Nat.le_refl _), hexOf_len, Hx.out]; have := Hown.out; rw [hexTo, List.take_of_length_le (by rw [Hx.out]; exact Nat.le_refl _)] at this; exact this)
      have e32 : hexTo x 32 = hexOf x := by rw [hexTo, List.take_of_length_le (by rw [Hx.out]; exact Nat.le_refl _)]
      have hconv : (convert 22 9 (.slice (some ⟨w.heap.size + 1, 0, none⟩) 64 64)).run Tryd.prog wr = .ok (.string ⟨(hexOf x).toArray⟩) wr := by
        have := run_str hBs
        rw [← ov, e32] at this
        exact this
      clear hBs ov
      go_wp2
      go_ret
      exact ⟨rfl, HB.out⟩
end Go.Proofs.YtdfpjhpkkhdpoaaDoor

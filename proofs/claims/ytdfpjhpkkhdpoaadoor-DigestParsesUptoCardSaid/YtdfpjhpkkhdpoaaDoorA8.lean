/-
  Walks over the digest seat: full blocks.
-/
import Derived.Test.YtdfpjhpkkhdpoaaDoorA7
import Derived.Deep.RegionWith
import Derived.Deep.DrawnRows
import Derived.Deep.MidRow
namespace Go.Proofs.YtdfpjhpkkhdpoaaDoor
open Go.RowKit
/-- the chaining values after k blocks of l -/
def absTo (hs : List (BitVec 32)) (l : List UInt8) : Nat → List (BitVec 32)
  | 0 => hs
  | k + 1 => mixW (absTo hs l k) (wordsOf ((l.drop (64 * k)).take 64))
theorem mixW_len (hs ws : List (BitVec 32)) (h : hs.length = 8) : (mixW hs ws).length = 8 := by simp [mixW, h, V8.list]
theorem absTo_len (hs : List (BitVec 32)) (l : List UInt8) (h : hs.length = 8) (k : Nat) : (absTo hs l k).length = 8 := by
  induction k with
  | zero => exact h
  | succ k ih => exact mixW_len _ _ ih
def absH (hs : List (BitVec 32)) (l : List UInt8) : List (BitVec 32) := absTo hs l (l.length / 64)
def absR (l : List UInt8) : List UInt8 := l.drop (64 * (l.length / 64))
/-- words as values -/
def wvals (l : List (BitVec 32)) : List Value := l.map fun x => Value.int .u32 (wi x)
theorem wvals_arr (l : List (BitVec 32)) : (wvals l).toArray = wcells l := rfl
theorem wvals_len (l : List (BitVec 32)) : (wvals l).length = l.length := by simp [wvals]
theorem wvals_one (l : List (BitVec 32)) : ∀ v ∈ wvals l, v.oneCell' = true := by simp [wvals, Value.oneCell']
theorem range_below {w w' : World} {b o : Nat} {cs : List Value} (h : w.rangeAt b o cs) (hb : Below w.heap.size w w') : w'.rangeAt b o cs := fun j v hv => by
  have hc := h j v hv
  exact (hb.cell (p := ⟨b, o + j, none⟩) (block_lt_of_cell hc)).trans hc
theorem there_below {w w' : World} {b o n : Nat} (h : w.there b o n) (hb : Below w.heap.size w w') : w'.there b o n := fun j hj => by
  obtain ⟨h1, h2⟩ := h j hj
  obtain ⟨v, hv⟩ := Option.isSome_iff_exists.1 h1
  have hl := block_lt_of_cell hv
  exact ⟨by rw [hb.cell (p := ⟨b, o + j, none⟩) hl]; exact h1, by rw [hb.frozen (p := ⟨b, o + j, none⟩) hl]; exact h2⟩
theorem tabs_below {w w' : World} (h : Tabs w) (hb : Below w.heap.size w w') : Tabs w' := h.below hb h.2.2
/-- an array of eight words in a block: that it is there, and what it reads as -/
def Row8 (w : World) (g o : Nat) : Prop := ∃ l : List (BitVec 32), l.length = 8 ∧ w.rangeAt g o (wvals l) ∧ w.there g o 8
def row8 (w : World) (g o : Nat) : List (BitVec 32) := (List.range 8).map fun j => match w.cell? ⟨g, o + j, none⟩ with | some (.int _ n) => BitVec.ofInt 32 n | _ => 0
theorem row8_of {w : World} {g o : Nat} {l : List (BitVec 32)} (hl : l.length = 8) (h : w.rangeAt g o (wvals l)) : row8 w g o = l := by
  apply List.ext_getElem (by simp [row8, hl])
  intro j h1 h2
  have hc : w.cell? ⟨g, o + j, none⟩ = some (.int .u32 (wi l[j])) := h j _ (by simp [wvals, h2])
  simp [row8, hc, ofInt_wi]
theorem row8_len (w : World) (g o : Nat) : (row8 w g o).length = 8 := by simp [row8]
theorem row8_mk {w : World} {g o : Nat} {l : List (BitVec 32)} (hl : l.length = 8) (h : w.rangeAt g o (wvals l)) (ht : w.there g o 8) : Row8 w g o := ⟨l, hl, h, ht⟩
theorem Row8.range {w : World} {g o : Nat} (h : Row8 w g o) : w.rangeAt g o (wvals (row8 w g o)) := by
  obtain ⟨l, hl, h1, h2⟩ := h
  rw [row8_of hl h1]; exact h1
theorem Row8.thr {w : World} {g o : Nat} (h : Row8 w g o) : w.there g o 8 := by obtain ⟨l, hl, h1, h2⟩ := h; exact h2
theorem Row8.below {w w' : World} {g o : Nat} (h : Row8 w g o) (hb : Below w.heap.size w w') : Row8 w' g o ∧ row8 w' g o = row8 w g o := by
  have h1 := range_below h.range hb
  exact ⟨⟨_, row8_len _ _ _, h1, there_below h.thr hb⟩, row8_of (row8_len _ _ _) h1⟩
theorem Row8_drew (w : World) (g o : Nat) : Row8 w.drew g o ↔ Row8 w g o := by constructor <;> exact id
theorem row8_drew (w : World) (g o : Nat) : row8 w.drew g o = row8 w g o := rfl
theorem load8 (w : World) (g o : Nat) (h : Row8 w g o) : (Instr.loadAt 31 (.pointer (some ⟨g, o, none⟩))).run Tryd.prog w = .ok (.agg (wcells (row8 w g o))) w :=
  run_loadAt_mid w g o 31 (wvals (row8 w g o)) _ h.range Tryd.underlying31 rfl (by rw [wvals_len, row8_len]; exact size8w)
theorem store8 (w : World) (g o : Nat) (l : List (BitVec 32)) (hl : l.length = 8) (h : Row8 w g o) : (Instr.storeAt 31 (.pointer (some ⟨g, o, none⟩)) (.agg (wcells l))).run Tryd.prog w = .ok () (w.setCells g o (wvals l)) := by
  have := run_storeAt_mid (P := Tryd.prog) w g o 31 (wcells l) (by rw [wcells_size, hl]; exact h.thr) (by rw [wcells_size, hl]; exact size8w) (wcells_one l)
  exact this
/-- sixty-four bytes in a block -/
def Row64 (w : World) (g o : Nat) : Prop := ∃ l : List UInt8, l.length = 64 ∧ w.rangeAt g o (vals l)
def row64 (w : World) (g o : Nat) : List UInt8 := (List.range 64).map fun j => match w.cell? ⟨g, o + j, none⟩ with | some (.int _ n) => UInt8.ofNat n.toNat | _ => 0
theorem row64_of {w : World} {g o : Nat} {l : List UInt8} (hl : l.length = 64) (h : w.rangeAt g o (vals l)) : row64 w g o = l := by
  apply List.ext_getElem (by simp [row64, hl])
  intro j h1 h2
  have hc : w.cell? ⟨g, o + j, none⟩ = some (.int .u8 (bi l[j])) := h j _ (by simp [vals, h2])
  simp [row64, hc, bi]
theorem row64_len (w : World) (g o : Nat) : (row64 w g o).length = 64 := by simp [row64]
theorem Row64.range {w : World} {g o : Nat} (h : Row64 w g o) : w.rangeAt g o (vals (row64 w g o)) := by
  obtain ⟨l, hl, h1⟩ := h
  rw [row64_of hl h1]; exact h1
theorem Row64_drew (w : World) (g o : Nat) : Row64 w.drew g o ↔ Row64 w g o := by constructor <;> exact id
theorem row64_drew (w : World) (g o : Nat) : row64 w.drew g o = row64 w g o := rfl
theorem load64 (w : World) (g o : Nat) (h : Row64 w g o) : (Instr.loadAt 72 (.pointer (some ⟨g, o, none⟩))).run Tryd.prog w = .ok (.agg (bcells (row64 w g o))) w :=
  run_loadAt_mid w g o 72 (vals (row64 w g o)) _ h.range Tryd.underlying72 rfl (by rw [vals_len, row64_len]; exact size64b)
/-- the operations that load and store such arrays, by names that the walk does not lay open -/
def load8A (v : Value) : Sem Next := do pure (.value (← Instr.loadAt 31 v))
def store8A (v x : Value) : Sem Next := do Instr.storeAt 31 v x; pure .skip
def load64A (v : Value) : Sem Next := do pure (.value (← Instr.loadAt 72 v))
theorem exec_load8 (ρ : Operand → Value) (d : Option Tmp) (x : Operand) (ty : TypeId) (pos : String) (af : Array Edge) (gd : Option (Nat × Bool)) :
    execOp ρ { dst := d, op := .load 31 x, type := ty, pos := pos, after := af, guard := gd } = load8A (ρ x) := rfl
theorem exec_store8 (ρ : Operand → Value) (d : Option Tmp) (x y : Operand) (ty : TypeId) (pos : String) (af : Array Edge) (gd : Option (Nat × Bool)) :
    execOp ρ { dst := d, op := .store 31 x y, type := ty, pos := pos, after := af, guard := gd } = store8A (ρ x) (ρ y) := rfl
theorem exec_load64 (ρ : Operand → Value) (d : Option Tmp) (x : Operand) (ty : TypeId) (pos : String) (af : Array Edge) (gd : Option (Nat × Bool)) :
    execOp ρ { dst := d, op := .load 72 x, type := ty, pos := pos, after := af, guard := gd } = load64A (ρ x) := rfl
theorem run_load8 (w : World) (g o : Nat) (h : Row8 w g o) : (load8A (.pointer (some ⟨g, o, none⟩))).run Tryd.prog w = .ok (.value (.agg (wcells (row8 w g o)))) w := by
  unfold load8A
  simp only [Sem.run_bind, Sem.run_pure, load8 w g o h, Result.andThen_ok]
theorem run_store8 (w : World) (g o : Nat) (l : List (BitVec 32)) (hl : l.length = 8) (h : Row8 w g o) : (store8A (.pointer (some ⟨g, o, none⟩)) (.agg (wcells l))).run Tryd.prog w = .ok .skip (w.setCells g o (wvals l)) := by
  unfold store8A
  simp only [Sem.run_bind, Sem.run_pure, store8 w g o l hl h, Result.andThen_ok]
theorem run_load64 (w : World) (g o : Nat) (h : Row64 w g o) : (load64A (.pointer (some ⟨g, o, none⟩))).run Tryd.prog w = .ok (.value (.agg (bcells (row64 w g o)))) w := by
  unfold load64A
  simp only [Sem.run_bind, Sem.run_pure, load64 w g o h, Result.andThen_ok]
attribute [local go_sem ↓] exec_load8 exec_store8 exec_load64 Go.wp_at_zero Go.wp_at_succ
theorem arrayAt64 (a : Option Addr) (n c : Nat) (w : World) (h : 64 ≤ n) : (Instr.arrayAt 72 (.slice a n c)).run Tryd.prog w = .ok (.pointer a) w := by
  simp [Instr.arrayAt, run_underlying Tryd.underlying72, Sem.run_bind, Result.andThen, show ¬ n < 64 by omega]
attribute [local go_sem] arrayAt64 run_load8 run_store8 run_load64 Row8_drew row8_drew Row64_drew row64_drew
theorem Below_setCells {B : Nat} {a : World} {b : Nat} (hB : B ≤ b) : ∀ (vs : List Value) (o : Nat) (w : World), Below B a w → Below B a (w.setCells b o vs)
  | [], _, _, h => h
  | v :: r, o, w, h => Below_setCells hB r (o + 1) _ (h.setCell hB v)
theorem heap_setCells {b k : Nat} (hk : k ≠ b) : ∀ (vs : List Value) (o : Nat) (w : World), (w.setCells b o vs).heap[k]? = w.heap[k]?
  | [], _, _ => rfl
  | v :: r, o, w => (heap_setCells hk r (o + 1) _).trans (heap_setCell_other _ _ _ _ hk)
theorem abs_step {w0 wr w1 w2 : World} {o : Obj} {new : List (BitVec 32)} (HB : Below w0.heap.size w0 wr) (hb1 : Below wr.drew.heap.size wr.drew w1) (hb2 : Below w1.heap.size w1 w2) (r8 : Row8 w2 w0.heap.size 0) (hl : new.length = 8)
    (H1 : wr.heap[w0.heap.size + 1]? = some o) :
    (w2.setCells w0.heap.size 0 (wvals new)).rangeAt w0.heap.size 0 (wvals new) ∧ (w2.setCells w0.heap.size 0 (wvals new)).there w0.heap.size 0 8 ∧
      (w2.setCells w0.heap.size 0 (wvals new)).heap[w0.heap.size + 1]? = some o ∧ Below w0.heap.size w0 (w2.setCells w0.heap.size 0 (wvals new)) := by
  have s1 : w0.heap.size + 1 < wr.heap.size := heap_lt H1
  have s2 : wr.heap.size ≤ w1.heap.size := hb1.size
  refine ⟨World.rangeAt_setCells_same _ _ _ _ (by rw [wvals_len, hl]; exact r8.thr), World.there_setCells r8.thr _ _ _, ?_, ?_⟩
  · rw [heap_setCells (by omega), hb2.block _ (by omega), hb1.block _ s1]; exact H1
  · exact Below_setCells (Nat.le_refl _) _ _ _ ((HB.drew.trans (hb1.mono (by have := HB.size; exact this))).trans (hb2.mono (by have := HB.size; omega)))
theorem Bs_drop64 {w : World} {b off n c : Nat} {l : List UInt8} (h : Bs w (some ⟨b, off, none⟩) n c l) (hn : 64 ≤ n) (hc : 64 < c) : Bs w (some ⟨b, off + 64, none⟩) (n - 64) (c - 64) (l.drop 64) := by
  obtain ⟨h1, h2, h3, _, h5⟩ := h
  refine ⟨by rw [List.length_drop, h1], by omega, by omega, fun h => (by cases h), fun hp => ⟨b, off + 64, rfl, fun i hi => ?_⟩⟩
  obtain ⟨b', off', hab, hcell⟩ := h5 (by omega)
  cases hab
  rw [byteAt_drop, Nat.add_assoc]
  exact hcell (64 + i) (by omega)
set_option maxRecDepth 100000 in
set_option maxHeartbeats 400000 in
theorem absorb_any (hs : List (BitVec 32)) (a : Option Addr) (n c : Nat) (l : List UInt8) (w : World) (hT : Tabs w) (hh : hs.length = 8) (hB : Bs w a n c l) (hn : n ≤ 281474976710656) :
    Calls Tryd.prog 35 #[.agg (wcells hs), .slice a n c] w fun e w' => ∃ a' c', e = .returned (.tuple #[.agg (wcells (absH hs l)), .slice a' (absR l).length c']) ∧ Bs w' a' (absR l).length c' (absR l) ∧ Below w.heap.size w w' := by
  have HT := Lib.hid hT
  have Hh := Lib.hid hh
  have HBs := Lib.hid hB
  have hz := hT.2.2
  clear hT hh hB
  go_enter Tryd.func35, Tryd.ntmps35
  go_upto_region 1 with (fail)
  rw [zeros8]
  have h0 : ((w.alloc (.cells (wcells hs) 31)).alloc (.cells (wcells (List.replicate 8 0)) 31)).heap[w.heap.size]? = some (.cells (wcells hs) 31 (0, 0)) := heap_old (heap_new rfl)
  have h1 : ((w.alloc (.cells (wcells hs) 31)).alloc (.cells (wcells (List.replicate 8 0)) 31)).heap[w.heap.size + 1]? = some (.cells (wcells (List.replicate 8 0)) 31 (0, 0)) := heap_new (by simp only [size_alloc1])
  have hbel : Below w.heap.size w ((w.alloc (.cells (wcells hs) 31)).alloc (.cells (wcells (List.replicate 8 0)) 31)) := ((Below.refl _ _).alloc (Nat.le_refl _) _).alloc (by simp) _
  generalize ((w.alloc (.cells (wcells hs) 31)).alloc (.cells (wcells (List.replicate 8 0)) 31)) = w3 at *
  have H0 := Lib.hid h0
  have H1 := Lib.hid h1
  have HB := Lib.hid hbel
  clear h0 h1 hbel
  go_wp2
  go_loopw [1] (fun v wr => ∃ (k n' c' : Nat) (a' : Option Addr), v = .slice a' n' c' ∧ n' + 64 * k = n ∧ Bs w a' n' c' (l.drop (64 * k)) ∧
      wr.rangeAt w.heap.size 0 (wvals (absTo hs l k)) ∧ wr.there w.heap.size 0 8 ∧ wr.heap[w.heap.size + 1]? = some (.cells (wcells (List.replicate 8 0)) 31 (0, 0)) ∧ Below w.heap.size w wr)
    (fun v _ => match v with | .slice _ n' _ => n' | _ => 0)
  case atStart =>
    refine ⟨0, n, c, a, rfl, by omega, HBs.out, ?_, ?_, H1.out, HB.out⟩
    · intro j v hv
      have hj : (wvals hs)[j]? = some v := hv
      rw [Nat.zero_add, cell_of_row w3 _ j _ _ _ H0.out, ← wvals_arr, List.getElem?_toArray]
      exact hj
    · intro j hj
      rw [Nat.zero_add]
      exact ⟨by rw [cell_of_row w3 _ j _ _ _ H0.out, wcells_get hs j (by rw [Hh.out]; exact hj)]; rfl, frozen_of_row w3 _ j _ _ H0.out⟩
  case round =>
    clear H0 H1 HB
    have HBn := HBs.out.1
    clear HBs
    obtain ⟨k, n', c', a', rfl, hnk, hBs, hR, hTh, h1, hb⟩ := hrel
    have Hnk := Lib.hid hnk
    have HR := Lib.hid hR
    have HTh := Lib.hid hTh
    have H1 := Lib.hid h1
    have HB := Lib.hid hb
    have Hn := Lib.hid HBn
    by_cases hlt : 64 ≤ n'
    · obtain ⟨b, off, rfl, hc⟩ := hBs.2.2.2.2 (by omega)
      have hcap : c' ≤ 9223372036854775807 := hBs.2.2.1
      have hnc := hBs.2.1
      have hl := hBs.1
      have hrg : wr.rangeAt b off (vals ((l.drop (64 * k)).take 64)) := by
        intro j v hv
        obtain ⟨hj, rfl⟩ := vals_get _ _ _ hv
        rw [List.length_take] at hj
        rw [byteAt_take _ _ _ (by omega)]
        exact (hb.cell (p := ⟨b, off + j, none⟩) (block_lt_of_cell (hc j (by omega)))).trans (hc j (by omega))
      have hbl : ((l.drop (64 * k)).take 64).length = 64 := by rw [List.length_take]; omega
      obtain ⟨blk, hblk⟩ : ∃ blk, blk = (l.drop (64 * k)).take 64 := ⟨_, rfl⟩
      rw [← hblk] at hrg hbl
      have Hblk := Lib.hid hblk
      have hcur : (absTo hs l k).length = 8 := absTo_len hs l Hh.out k
      obtain ⟨cur, hcu⟩ : ∃ cur, cur = absTo hs l k := ⟨_, rfl⟩
      rw [← hcu] at hR hcur
      have Hcu := Lib.hid hcu
      have HBs := Lib.hid hBs
      have Hc := Lib.hid hc
      clear hblk hcu hnk h1 hb HBn hBs hc HR HTh hl
      have hT : Tabs wr := HT.out.below HB.out hz
      have r8 : Row8 wr w.heap.size 0 := row8_mk hcur hR hTh
      have e8 : row8 wr w.heap.size 0 = cur := row8_of hcur hR
      have r64 : Row64 wr b off := ⟨blk, hbl, hrg⟩
      have e64 : row64 wr b off = blk := row64_of hbl hrg
      clear hR hTh hrg
      go_wp2
      have ml : (mixW cur (wordsOf blk)).length = 8 := mixW_len _ _ hcur
      go_region_with (first | (go_at_call 44; refine (split_any blk _ hbl).mono ?_; rintro e w' ⟨rfl, hb1⟩; have r8a := (Row8.below (w := wr.drew) r8 hb1).1; have e8a := (Row8.below (w := wr.drew) r8 hb1).2.trans e8; have ta := tabs_below (w := wr.drew) hT hb1) | (go_at_call 43; refine (mix_any cur (wordsOf blk) _ (by assumption) hcur rfl).mono ?_; rintro e w' ⟨rfl, hb2⟩; have r8b := (Row8.below r8a hb2).1))
      all_goals
        have F := abs_step HB.out hb1 hb2 r8b ml H1.out
        have HF := Lib.hid F
        clear F hb1 hb2 r8a e8a ta r8b hT r8 e8 r64 e64
        generalize World.setCells _ _ _ _ = W5 at *
        have hstep : wvals (absTo hs l (k + 1)) = wvals (mixW cur (wordsOf blk)) := by rw [absTo, ← Hcu.out, ← Hblk.out]
        have Hstep := Lib.hid hstep
        clear hstep
        by_cases hc64 : c' = 64
        · subst hc64
          obtain rfl : n' = 64 := by omega
          go_wp2
          go_roundw
          case rel =>
            refine ⟨k + 1, 0, 0, _, rfl, by have := Hnk.out; omega, ?_, by rw [Hstep.out]; exact HF.out.1, HF.out.2.1, HF.out.2.2.1, HF.out.2.2.2⟩
            rw [List.drop_eq_nil_of_le (by have := Hnk.out; have := Hn.out; omega)]
            exact Bs_empty _ _ _ (Nat.zero_le _) (fun _ => rfl)
          case measure => simp
        · go_wp2
          go_roundw
          case rel =>
            refine ⟨k + 1, n' - 64, c' - 64, _, rfl, by have := Hnk.out; omega, ?_, by rw [Hstep.out]; exact HF.out.1, HF.out.2.1, HF.out.2.2.1, HF.out.2.2.2⟩
            have := Bs_drop64 HBs.out hlt (by omega)
            rw [List.drop_drop] at this
            exact this
          case measure => simp; omega
    · have hk1 : l.length / 64 = k := by have := Hn.out; have := Hnk.out; omega
      have hk2 : n' = (absR l).length := by
        unfold absR; rw [List.length_drop, hk1]; have := Hn.out; have := Hnk.out; omega
      have hcur : (absTo hs l k).length = 8 := absTo_len hs l Hh.out k
      have hrest : Bs w a' n' c' (absR l) := by unfold absR; rw [hk1]; exact hBs
      have hah : absH hs l = absTo hs l k := by unfold absH; rw [hk1]
      rw [← hah] at hR hcur
      have HR := Lib.hid hrest
      have Hk2 := Lib.hid hk2
      have HB := Lib.hid hb
      have r8 : Row8 wr w.heap.size 0 := row8_mk hcur hR hTh
      have e8 : row8 wr w.heap.size 0 = absH hs l := row8_of hcur hR
      have r9 : Row8 wr (w.heap.size + 1) 0 := by
        refine row8_mk (l := List.replicate 8 0) (by simp) ?_ ?_
        · intro j v hv
          rw [Nat.zero_add, cell_of_row wr _ j _ _ _ h1, ← wvals_arr, List.getElem?_toArray]
          exact hv
        · intro j hj
          rw [Nat.zero_add]
          exact ⟨by rw [cell_of_row wr _ j _ _ _ h1, wcells_get _ j (by simpa using hj)]; rfl, frozen_of_row wr _ j _ _ h1⟩
      have R9 := Lib.hid r9
      have Hcur := Lib.hid hcur
      clear hBs hR hTh h1 hb hk1 hk2 hrest hah hnk HBn Hn Hnk H1
      go_wp2
      have hld : (loadVar 31 ⟨w.heap.size + 1, 0, none⟩).run Tryd.prog (wr.setCells (w.heap.size + 1) 0 (wvals (absH hs l))) = .ok (.agg (wcells (absH hs l))) (wr.setCells (w.heap.size + 1) 0 (wvals (absH hs l))) :=
        run_loadVar_mid _ _ _ 31 (wvals (absH hs l)) _ (World.rangeAt_setCells_same _ _ _ _ (by rw [wvals_len, Hcur.out]; exact R9.out.thr)) Tryd.underlying31 rfl (by rw [wvals_len, Hcur.out]; exact size8w)
      have hfin : Below w.heap.size w (wr.setCells (w.heap.size + 1) 0 (wvals (absH hs l))) := Below_setCells (by omega) _ _ _ HB.out
      refine bodyPost_ret (v := .tuple #[.agg (wcells (absH hs l)), .slice a' n' c']) ?_ rfl ⟨a', c', by rw [Hk2.out], by rw [← Hk2.out]; exact HR.out.below hfin, hfin⟩
      rw [results_cell_tmp rfl]
      simp [asAddr, Result.andThen, hld]
end Go.Proofs.YtdfpjhpkkhdpoaaDoor

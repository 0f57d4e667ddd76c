/-
  Walks over the digest seat: Close, Sum.
-/
import Derived.Test.YtdfpjhpkkhdpoaaDoorB2
namespace Go.Proofs.YtdfpjhpkkhdpoaaDoor
open Go.RowKit
attribute [local go_sem ↓] exec_at_zero exec_at_succ Go.wp_at_zero Go.wp_at_succ
/-- the hash value of some bytes -/
def Hv (l : List UInt8) : List UInt8 := joinB (absH H8 (l ++ padB l.length))
theorem Hv_len (l : List UInt8) : (Hv l).length = 32 := joinB_len _
theorem padB_len (n : Nat) : (padB n).length ≤ 72 := by
  obtain ⟨p0, p1⟩ := padI_bd ((n : Int) + 1) 56
  simp only [padB, be8, List.length_append, List.length_cons, List.length_replicate, List.length_map, List.length_range]
  omega
def load33A (v : Value) : Sem Next := do pure (.value (← Instr.loadAt 33 v))
theorem exec_load33 (ρ : Operand → Value) (d : Option Tmp) (x : Operand) (ty : TypeId) (pos : String) (af : Array Edge) (gd : Option (Nat × Bool)) :
    execOp ρ { dst := d, op := .load 33 x, type := ty, pos := pos, after := af, guard := gd } = load33A (ρ x) := rfl
theorem run_load33 {w : World} {g : Nat} {hs : List (BitVec 32)} {a : Option Addr} {n c : Nat} {L : Int} (hl : hs.length = 8) (h : w.heap[g]? = some (.cells (dcells hs a n c L) 33 (0, 0))) :
    (load33A (.pointer (some ⟨g, 0, none⟩))).run Tryd.prog w = .ok (.value (.agg (dcells hs a n c L))) w := by
  unfold load33A
  simp only [Instr.loadAt, Instr.sureAddr, Sem.run_bind, Sem.run_pure, Result.andThen_ok, run_loadVar_row w g 33 33 _ (0, 0) _ h Tryd.underlying33 rfl (by rw [dcells_size _ _ _ _ _ hl]; exact size33)]
def field0A (v : Value) : Sem Next := do pure (.value (← Instr.field 33 v 0))
theorem exec_field0 (ρ : Operand → Value) (d : Option Tmp) (x : Operand) (ty : TypeId) (pos : String) (af : Array Edge) (gd : Option (Nat × Bool)) :
    execOp ρ { dst := d, op := .field 33 x 0, type := ty, pos := pos, after := af, guard := gd } = field0A (ρ x) := rfl
theorem run_field0' (w : World) (x0 x1 x2 x3 x4 x5 x6 x7 : BitVec 32) (a : Option Addr) (n c : Nat) (L : Int) :
    (Instr.field 33 (.agg (dcells [x0, x1, x2, x3, x4, x5, x6, x7] a n c L)) 0).run Tryd.prog w = .ok (.agg (wcells [x0, x1, x2, x3, x4, x5, x6, x7])) w := by kernel_rfl
theorem run_field0 (w : World) (l : List UInt8) (a : Option Addr) (n c : Nat) (L : Int) :
    (field0A (.agg (dcells (absH H8 l) a n c L))).run Tryd.prog w = .ok (.value (.agg (wcells (absH H8 l)))) w := by
  obtain ⟨x0, x1, x2, x3, x4, x5, x6, x7, e⟩ := words8 (absH_len l)
  rw [e]
  unfold field0A
  simp only [Sem.run_bind, Sem.run_pure, run_field0', Result.andThen_ok]
/-- a block of a hash value -/
def Blk32 (w : World) (g : Nat) : Prop := ∃ l : List UInt8, l.length = 32 ∧ w.heap[g]? = some (.cells (bcells l) 24 (0, 0))
def store24A (v x : Value) : Sem Next := do Instr.storeAt 24 v x; pure .skip
theorem exec_store24 (ρ : Operand → Value) (d : Option Tmp) (x y : Operand) (ty : TypeId) (pos : String) (af : Array Edge) (gd : Option (Nat × Bool)) :
    execOp ρ { dst := d, op := .store 24 x y, type := ty, pos := pos, after := af, guard := gd } = store24A (ρ x) (ρ y) := rfl
theorem run_store24 (w : World) (g : Nat) (l : List UInt8) (hl : l.length = 32) (h : Blk32 w g) : (store24A (.pointer (some ⟨g, 0, none⟩)) (.agg (bcells l))).run Tryd.prog w = .ok .skip (w.setRow g (bcells l)) := by
  obtain ⟨old, ho, hg⟩ := h
  unfold store24A
  simp only [Instr.storeAt, Instr.sureAddr, Sem.run_bind, Sem.run_pure, Result.andThen_ok, run_storeVar_row w g 24 24 _ (bcells l) hg (by rw [bcells_size, hl]; exact size32b) (by rw [bcells_size, bcells_size, ho, hl]) (bcells_one l)]
theorem Blk32_drew (w : World) (g : Nat) : Blk32 w.drew g ↔ Blk32 w g := by constructor <;> exact id
theorem Blk32_keep {w w' : World} (hb : Below w.heap.size w w') : ∀ g, Blk32 w g → Blk32 w' g := fun g ⟨l, hl, hg⟩ => ⟨l, hl, (hb.block g (heap_lt hg)).trans hg⟩
attribute [local go_sem ↓] exec_load33 exec_field0 exec_store24
attribute [local go_sem] run_field0 run_store24 Blk32_drew joinB_len
set_option maxRecDepth 100000 in
set_option maxHeartbeats 1000000 in
theorem close_any (v : Value) (l : List UInt8) (w : World) (hT : Tabs w) (hS : St w v l) (hn : l.length ≤ 35184372088832) :
    Calls Tryd.prog 22 #[v] w fun e w' => e = .returned (.agg (bcells (Hv l))) ∧ Below w.heap.size w w' := by
  obtain ⟨ta, tc, rfl, hTB⟩ := id hS
  have hz := hT.2.2
  have HT := Lib.hid hT
  have HS := Lib.hid hS
  have Hn := Lib.hid hn
  have hlH := absH_len l
  obtain ⟨hs, hhs⟩ : ∃ hs, hs = absH H8 l := ⟨_, rfl⟩
  obtain ⟨tn, htn⟩ : ∃ tn, tn = (absR l).length := ⟨_, rfl⟩
  rw [← hhs] at hlH ⊢
  rw [← hhs, ← htn] at HS
  rw [← htn]
  obtain ⟨L, hL⟩ : ∃ L, L = l.length := ⟨_, rfl⟩
  rw [← hL]
  rw [← hL] at hn HS
  have HL := Lib.hid hL
  clear hT hS hTB hL hhs htn
  go_enter Tryd.func22, Tryd.ntmps22
  go_upto_region 1 with (fail)
  rw [zeros32]
  have h0 : ((w.alloc (.cells (dcells hs ta tn tc L) 33)).alloc (.cells (bcells (List.replicate 32 0)) 24)).heap[w.heap.size]? = some (.cells (dcells hs ta tn tc L) 33 (0, 0)) := heap_old (heap_new rfl)
  have h1 : Blk32 ((w.alloc (.cells (dcells hs ta tn tc L) 33)).alloc (.cells (bcells (List.replicate 32 0)) 24)) (w.heap.size + 1) := ⟨_, by simp, heap_new (by simp only [size_alloc1])⟩
  have hbel : Below w.heap.size w ((w.alloc (.cells (dcells hs ta tn tc L) 33)).alloc (.cells (bcells (List.replicate 32 0)) 24)) := ((Below.refl _ _).alloc (Nat.le_refl _) _).alloc (by simp) _
  have hs2 : ((w.alloc (.cells (dcells hs ta tn tc L) 33)).alloc (.cells (bcells (List.replicate 32 0)) 24)).heap.size = w.heap.size + 2 := by simp only [size_alloc1]
  generalize ((w.alloc (.cells (dcells hs ta tn tc L) 33)).alloc (.cells (bcells (List.replicate 32 0)) 24)) = w1 at *
  have c9 := (dblock h0 hlH).2.2.2
  have l0 := run_load33 hlH h0
  have l1 : (load33A (.pointer (some ⟨w.heap.size, 0, none⟩))).run Tryd.prog w1.drew = .ok (.value (.agg (dcells hs ta tn tc L))) w1.drew := run_load33 hlH h0
  have Hs2 := Lib.hid hs2
  have HBel := Lib.hid hbel
  have H0 := Lib.hid h0
  clear hs2 hbel h0
  go_region_with (first
    | (go_at_call 38; refine (padding_any _ _ (by omega) (by omega)).mono ?_; rintro e w' ⟨pv, rfl, hown, hb1⟩; obtain ⟨pa, pc, rfl, hpB⟩ := Bs_of_own hown; have hb2 : Below w1.heap.size w1 w' := (Below.refl _ _).drew.trans hb1; have l2 := run_load33 hlH ((hb2.block _ (heap_lt H0.out)).trans H0.out); have q1 := Blk32_keep hb2 _ h1; have HpB := Lib.hid hpB; have Hb2 := Lib.hid hb2; clear hb1 hb2 hown hpB)
    | (go_at_call 17; refine (write_any _ l pa _ pc (padB ((L : Int)).toNat) _ ?_ ?_ ?_ ?_).mono ?_; exact (tabs_below (HT.out.below HBel.out hz) Hb2.out); exact (HS.out.below HBel.out).below Hb2.out; exact HpB.out; (have := padB_len ((L : Int)).toNat; have := Hn.out; omega); rintro e w' ⟨v', rfl, ⟨ua, uc, rfl, hub⟩, hb3⟩; have q2 := Blk32_keep hb3 _ q1; have Hb3 := Lib.hid hb3; clear hb3 hub)
    | (go_at_call 37; refine (join_any _ _ (absH_len _)).mono ?_; rintro e w' ⟨rfl, hb4⟩; have q3 := Blk32_keep hb4 _ q2; have Hb4 := Lib.hid hb4; clear hb4))
  all_goals
    go_wp2_with fail
    obtain ⟨old, ho, hg⟩ := id q3
    refine bodyPost_ret (v := .agg (bcells (Hv l))) ?_ rfl ⟨rfl, Below_setRow (HBel.out.trans ((Hb2.out.trans (Hb3.out.trans (Hb4.out.mono Hb3.out.size) |>.mono Hb2.out.size)).mono (by have := Hs2.out; omega))) (by omega) _⟩
    have e : bcells (joinB (absH H8 (l ++ padB L))) = bcells (Hv l) := by rw [HL.out]; rfl
    rw [e]
    exact results_cell_row rfl _ _ (w.heap.size + 1) 24 _ (0, 0) _ rfl (setRow_heap _ _ _ _ _ _ hg) Tryd.underlying24 rfl (by rw [bcells_size, Hv_len]; exact size32b)
set_option maxRecDepth 100000 in
set_option maxHeartbeats 1000000 in
theorem sum_any (a : Option Addr) (n c : Nat) (l : List UInt8) (w : World) (hT : Tabs w) (hB : Bs w a n c l) (hn : n ≤ 35184372088832) :
    Calls Tryd.prog 12 #[.slice a n c] w fun e w' => e = .returned (.agg (bcells (Hv l))) ∧ Below w.heap.size w w' := by
  have hz := hT.2.2
  have hl := hB.1
  have HT := Lib.hid hT
  have HB := Lib.hid hB
  clear hT hB
  go_enter Tryd.func12, Tryd.ntmps12
  go_upto_region 1 with (fail)
  rw [zeros32]
  have hg : (w.alloc (.cells (bcells (List.replicate 32 0)) 24)).heap[w.heap.size]? = some (.cells (bcells (List.replicate 32 0)) 24 (0, 0)) := heap_new rfl
  have hb : Below w.heap.size w (w.alloc (.cells (bcells (List.replicate 32 0)) 24)) := (Below.refl _ _).alloc (Nat.le_refl _) _
  have hs1 : (w.alloc (.cells (bcells (List.replicate 32 0)) 24)).heap.size = w.heap.size + 1 := by simp only [size_alloc1]
  generalize w.alloc (.cells (bcells (List.replicate 32 0)) 24) = w1 at *
  have T1 := Lib.hid (HT.out.below hb hz)
  have B1 := Lib.hid (HB.out.below hb)
  have Hb := Lib.hid hb
  have Hg := Lib.hid hg
  clear hb hg
  go_wp2_with (first
    | (go_at_call 18; refine (new_any _ T1.out).mono ?_; rintro e w2 ⟨v, rfl, hS, hb2⟩; have T2 := Lib.hid (tabs_below T1.out hb2); have B2 := Lib.hid (B1.out.below hb2); have S2 := Lib.hid hS; have Hb2 := Lib.hid hb2; clear hS hb2)
    | (go_at_call 17; refine (write_any _ [] a n c l _ T2.out S2.out B2.out (by simp; omega)).mono ?_; rintro e w3 ⟨v', rfl, hS, hb3⟩; have T3 := Lib.hid (tabs_below T2.out hb3); have S3 := Lib.hid hS; have Hb3 := Lib.hid hb3; clear hS hb3)
    | (go_at_call 22; refine (close_any _ ([] ++ l) _ T3.out S3.out (by simp; omega)).mono ?_; rintro e w4 ⟨rfl, hb4⟩; have Hb4 := Lib.hid hb4; have hw4 := (hb4.block _ (heap_lt ((Hb3.out.block _ (heap_lt ((Hb2.out.block _ (heap_lt Hg.out)).trans Hg.out))).trans ((Hb2.out.block _ (heap_lt Hg.out)).trans Hg.out)))).trans ((Hb3.out.block _ (heap_lt ((Hb2.out.block _ (heap_lt Hg.out)).trans Hg.out))).trans ((Hb2.out.block _ (heap_lt Hg.out)).trans Hg.out)); clear hb4)
    | (refine wpList_store_row rfl 24 (.tmp 2) (.tmp 6) rfl w.heap.size _ rfl rfl 24 _ hw4 (by rw [bcells_size, Hv_len]; exact size32b) (by simp only [bcells_size, Hv_len, List.length_replicate]) (bcells_one _) ?_))
  refine bodyPost_ret (v := .agg (bcells (Hv l))) ?_ rfl ⟨rfl, Below_setRow (Hb.out.trans ((Hb2.out.trans (Hb3.out.trans (Hb4.out.mono Hb3.out.size) |>.mono Hb2.out.size)).mono (by omega))) (by omega) _⟩
  exact results_cell_row rfl _ _ w.heap.size 24 _ (0, 0) _ rfl (setRow_heap _ _ _ _ _ _ hw4) Tryd.underlying24 rfl (by rw [bcells_size, Hv_len]; exact size32b)
end Go.Proofs.YtdfpjhpkkhdpoaaDoor

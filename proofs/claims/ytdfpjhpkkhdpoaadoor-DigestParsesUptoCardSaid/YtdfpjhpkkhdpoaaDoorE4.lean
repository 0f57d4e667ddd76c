/-
  Slices of bytes of two indices, three places in a row: for the law DigestParts.
-/
import Derived.Test.YtdfpjhpkkhdpoaaDoorE3
import Derived.Test.YtdfpjhpkkhdpoaaDoorD2
namespace Go.Proofs.YtdfpjhpkkhdpoaaDoor
open Go.RowKit
def sliceTA (v hi : Value) : Sem Next := do pure (.value (← Instr.sliceAt 22 v none (some hi) none))
def sliceMA (v lo hi : Value) : Sem Next := do pure (.value (← Instr.sliceAt 22 v (some lo) (some hi) none))
theorem exec_sliceT (ρ : Operand → Value) (d : Option Tmp) (x y : Operand) (ty : TypeId) (pos : String) (af : Array Edge) (gd : Option (Nat × Bool)) :
    execOp ρ { dst := d, op := .slice 22 x none (some y) none, type := ty, pos := pos, after := af, guard := gd } = sliceTA (ρ x) (ρ y) := rfl
theorem exec_sliceM (ρ : Operand → Value) (d : Option Tmp) (x y z : Operand) (ty : TypeId) (pos : String) (af : Array Edge) (gd : Option (Nat × Bool)) :
    execOp ρ { dst := d, op := .slice 22 x (some y) (some z) none, type := ty, pos := pos, after := af, guard := gd } = sliceMA (ρ x) (ρ y) (ρ z) := rfl
theorem run_sliceT {w3 : World} {a : Option Addr} {n c : Nat} {m : List UInt8} (h : Bs w3 a n c m) (F : Nat) (hF : F ≤ n) :
    (∀ w, (sliceTA (.slice a n c) (.int .i64 (F : Int))).run Tryd.prog w = .ok (.value (.slice a F c)) w) ∧ Bs w3 a F c (m.take F) := by
  refine ⟨fun w => ?_, Bs_take h F hF⟩
  have h2 := h.2.1
  have hc : c ≤ 9223372036854775807 := h.2.2.1
  have z0 : (0 : Int) ≤ (F : Int) := by omega
  have z1 : (F : Int) ≤ (c : Int) := by omega
  clear h
  unfold sliceTA
  go_simp
theorem run_sliceM {w3 : World} {a : Option Addr} {n c : Nat} {m : List UInt8} (h : Bs w3 a n c m) (E F : Nat) (hE : E ≤ F) (hF : F ≤ n) :
    ∃ a' c', (∀ w, (sliceMA (.slice a n c) (.int .i64 (E : Int)) (.int .i64 (F : Int))).run Tryd.prog w = .ok (.value (.slice a' (F - E) c')) w) ∧ Bs w3 a' (F - E) c' ((m.take F).drop E) := by
  refine ⟨if c = E then a else a.map (fun x => x.add E), c - E, fun w => ?_, Bs_from (Bs_take h F hF) E hE⟩
  have h2 := h.2.1
  have hc : c ≤ 9223372036854775807 := h.2.2.1
  have z0 : (0 : Int) ≤ (E : Int) := by omega
  have z1 : (E : Int) ≤ (F : Int) := by omega
  have z2 : (F : Int) ≤ (c : Int) := by omega
  clear h
  unfold sliceMA
  go_simp
theorem three {l : List Int} (h : l.length = 3) : ∃ a b c, l = [a, b, c] := by
  match l, h with
  | [a, b, c], _ => exact ⟨a, b, c, rfl⟩
theorem Is_three (w : World) (x y z : Int) : Is (w.alloc (.cells #[.int .i64 x, .int .i64 y, .int .i64 z] 3)) (some ⟨w.heap.size, 0, none⟩) 3 3 [x, y, z] := by
  refine ⟨rfl, Nat.le_refl _, by unfold maxLen; omega, (fun h => by cases h), fun _ => ⟨w.heap.size, 0, rfl, fun i hi => ?_⟩⟩
  rw [Nat.zero_add, cell_of_row _ w.heap.size i _ _ _ (heap_new rfl)]
  match i, hi with
  | 0, _ => rfl
  | 1, _ => rfl
  | 2, _ => rfl
/-- the three places lie in a row -/
def PC (w : World) (b o P Q R : Nat) : Prop := w.cell? ⟨b, o, none⟩ = some (.int .i64 (P : Int)) ∧ w.cell? ⟨b, o + 1, none⟩ = some (.int .i64 (Q : Int)) ∧ w.cell? ⟨b, o + 2, none⟩ = some (.int .i64 (R : Int))
theorem PC.below {w w' : World} {b o P Q R : Nat} (h : PC w b o P Q R) (hb : Below w.heap.size w w') : PC w' b o P Q R := by
  have hl := block_lt_of_cell h.1
  exact ⟨(hb.cell (p := ⟨b, o, none⟩) hl).trans h.1, (hb.cell (p := ⟨b, o + 1, none⟩) hl).trans h.2.1, (hb.cell (p := ⟨b, o + 2, none⟩) hl).trans h.2.2⟩
theorem PC_of {w : World} {a : Option Addr} {c : Nat} {out : List Int} {n : Int} (h : Is w a 3 c out) (hs : out.Pairwise (· ≤ ·)) (hb : ∀ y ∈ out, 0 ≤ y ∧ y < n) :
    ∃ b o P Q R, a = some ⟨b, o, none⟩ ∧ PC w b o P Q R ∧ P ≤ Q ∧ Q ≤ R ∧ (R : Int) < n := by
  obtain ⟨h1, _, _, _, h5⟩ := h
  obtain ⟨x, y, z, rfl⟩ := three h1
  obtain ⟨b, o, ha, hc⟩ := h5 (by omega)
  have h0 := hb x (by simp)
  have h1 := hb y (by simp)
  have h2 := hb z (by simp)
  simp at hs
  refine ⟨b, o, x.toNat, y.toNat, z.toNat, ha, ⟨?_, ?_, ?_⟩, by omega, by omega, by omega⟩
  · have := hc 0 (by omega); rw [Int.toNat_of_nonneg h0.1]; simpa using this
  · have := hc 1 (by omega); rw [Int.toNat_of_nonneg h1.1]; simpa using this
  · have := hc 2 (by omega); rw [Int.toNat_of_nonneg h2.1]; simpa using this
theorem take_two (l : List UInt8) (P Q : Nat) (h : P ≤ Q) : l.take P ++ (l.take Q).drop P = l.take Q := by
  have := List.take_append_drop P (l.take Q)
  rw [List.take_take, show min P Q = P by omega] at this
  exact this
theorem blk_new (p : World) : Blk33 (p.alloc (.cells #[.int .u32 0, .int .u32 0, .int .u32 0, .int .u32 0, .int .u32 0, .int .u32 0, .int .u32 0, .int .u32 0, .slice none 0 0, .int .i64 0] 33)) p.heap.size :=
  ⟨List.replicate 8 0, none, 0, 0, 0, by simp, by rw [zeros33]; exact heap_new rfl⟩
end Go.Proofs.YtdfpjhpkkhdpoaaDoor

/-
  Walks over the digest seat: a slice's rest.
-/
import Derived.Test.YtdfpjhpkkhdpoaaDoorA9
namespace Go.Proofs.YtdfpjhpkkhdpoaaDoor
open Go.RowKit
theorem Bs_from {w3 : World} {a : Option Addr} {n c : Nat} {m : List UInt8} (h : Bs w3 a n c m) (F : Nat) (hF : F ≤ n) :
    Bs w3 (if c = F then a else a.map (fun x => x.add F)) (n - F) (c - F) (m.drop F) := by
  obtain ⟨h1, h2, h3, h4, h5⟩ := h
  have hc : c ≤ 9223372036854775807 := h3
  refine ⟨by rw [List.length_drop, h1], by omega, by unfold maxLen; omega, ?_, fun hp => ?_⟩
  · intro ha
    by_cases hcF : c = F
    · omega
    · rw [if_neg hcF] at ha
      cases a with
      | none => have := h4 rfl; omega
      | some x => cases ha
  · obtain ⟨b, off, hab, hcell⟩ := h5 (by omega)
    subst hab
    rw [if_neg (by omega)]
    refine ⟨b, off + F, ?_, fun i hi => ?_⟩
    · show some (Addr.add ⟨b, off, none⟩ F) = _
      rw [Addr.add_mid]
    · rw [byteAt_drop, Nat.add_assoc]; exact hcell (F + i) (by omega)
def sliceFA (v lo : Value) : Sem Next := do pure (.value (← Instr.sliceAt 22 v (some lo) none none))
theorem exec_sliceF (ρ : Operand → Value) (d : Option Tmp) (x y : Operand) (ty : TypeId) (pos : String) (af : Array Edge) (gd : Option (Nat × Bool)) :
    execOp ρ { dst := d, op := .slice 22 x (some y) none none, type := ty, pos := pos, after := af, guard := gd } = sliceFA (ρ x) (ρ y) := rfl
theorem exec_at_zero {ρ : Operand → Value} {o : Oper} {l : List Oper} {h : 0 < (o :: l).toArray.size} : execOp ρ ((o :: l).toArray[0]'h) = execOp ρ o := rfl
theorem exec_at_succ {ρ : Operand → Value} {o : Oper} {l : List Oper} {n : Nat} {h : n + 1 < (o :: l).toArray.size} : execOp ρ ((o :: l).toArray[n + 1]'h) = execOp ρ (l.toArray[n]'(by simpa using h)) := rfl
theorem run_sliceF {w3 : World} {a : Option Addr} {n c : Nat} {m : List UInt8} (h : Bs w3 a n c m) (F : Nat) (hF : F ≤ n) :
    ∃ a' c', (∀ w, (sliceFA (.slice a n c) (.int .i64 (F : Int))).run Tryd.prog w = .ok (.value (.slice a' (n - F) c')) w) ∧ Bs w3 a' (n - F) c' (m.drop F) := by
  refine ⟨if c = F then a else a.map (fun x => x.add F), c - F, fun w => ?_, Bs_from h F hF⟩
  have h2 := h.2.1
  have hc : c ≤ 9223372036854775807 := h.2.2.1
  have z0 : (0 : Int) ≤ (F : Int) := by omega
  have z1 : (F : Int) ≤ (n : Int) := by omega
  clear h
  unfold sliceFA
  go_simp
end Go.Proofs.YtdfpjhpkkhdpoaaDoor

/-
  Arrays compared as a whole: equal ones.
-/
import Derived.Test.YtdfpjhpkkhdpoaaDoorB7
namespace Go.Proofs.YtdfpjhpkkhdpoaaDoor
open Go.RowKit
theorem run_eq_array (d : Nat) (t e : TypeId) (n : Nat) (xs : Array Value) (ht : Tryd.prog.underlying t = some (.array n e)) (hz : ∀ w, (sizeOf e).run Tryd.prog w = .ok 1 w)
    (hp : ∀ i w, i < n → ∃ v, (part e xs i).run Tryd.prog w = .ok v w ∧ ∀ w', (Op.equalIn (d + 1) e v v).run Tryd.prog w' = .ok true w') (w : World) :
    (Op.equalIn (d + 2) t (.agg xs) (.agg xs)).run Tryd.prog w = .ok true w := by
  rw [Op.equalIn]
  simp only [Sem.run_bind, run_underlying ht, Result.andThen_ok, hz, Nat.mul_one]
  rw [Std.Legacy.Range.forIn_eq_forIn_range']
  have hl : ∀ i ∈ List.range' [:n].start [:n].size [:n].step, i < n := by
    intro i hi
    simp [List.mem_range', Std.Legacy.Range.size] at hi
    omega
  generalize List.range' [:n].start [:n].size [:n].step = l at hl
  induction l with
  | nil => simp [Sem.run_pure, Result.andThen_ok]
  | cons i l ih =>
    obtain ⟨v, h1, h2⟩ := hp i w (hl i (by simp))
    simp only [List.forIn_cons, Sem.run_bind, h1, h2, Result.andThen_ok, Bool.not_true, Bool.false_eq_true, if_false, Sem.run_pure]
    exact ih (fun j hj => hl j (by simp [hj]))
theorem run_eq24 (w : World) (x : List UInt8) (h : x.length = 32) : (Op.equalIn 10000 24 (.agg (bcells x)) (.agg (bcells x))).run Tryd.prog w = .ok true w := by
  refine run_eq_array 9998 24 5 32 (bcells x) Tryd.underlying24 (fun w => by kernel_rfl) (fun i w hi => ⟨.int .u8 (bi x[i]), ?_, fun w' => ?_⟩) w
  · have hg := bcells_get x i (by omega)
    have hz : (sizeOf 5).run Tryd.prog w = .ok 1 w := by kernel_rfl
    simp [part, Sem.run_bind, hz, info5agg, Result.andThen, hg, go_sem]
  · rw [run_equalIn_int w' 9998 5 .u8 .u8 _ _ u8_under]; simp
theorem run_eql24 (w : World) (x : List UInt8) (h : x.length = 32) : (binOp .eql 24 (.agg (bcells x)) (.agg (bcells x))).run Tryd.prog w = .ok (.bool true) w := by
  rw [run_eql_struct, run_eq24 w x h]; rfl
end Go.Proofs.YtdfpjhpkkhdpoaaDoor

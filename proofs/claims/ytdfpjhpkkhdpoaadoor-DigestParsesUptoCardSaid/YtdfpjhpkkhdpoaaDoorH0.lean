/-
  An argument that is a hash value.
-/
import Derived.Test.YtdfpjhpkkhdpoaaDoorC2
import Derived.OpenShut
namespace Go.Proofs.YtdfpjhpkkhdpoaaDoor
open Go.ChangeShapes Go.WideShapes Go.ChangeAt Go.RowKit
set_option linter.unusedSimpArgs false
set_option linter.unusedVariables false
theorem open_hash {H : Type} {enc : TypeId × Value → H} {W : World} {base : Nat} {v : Value} {d : DataW H} {p : List MemPlace} (hval : Value.okWide Tryd.prog W .any base 24 v) (h : DataW.Trod enc Tryd.prog W 0 (fun _ => true) true 24 v d p) :
    ∃ x : List UInt8, v = .agg (bcells x) ∧ x.length = 32 ∧ p = [] := by
  simp only [Value.okWide, Tryd.underlying24] at hval
  obtain ⟨cs, rfl, hsz, _⟩ := hval
  obtain ⟨fuel, hf⟩ := h
  obtain ⟨xs, m, _, hx, hl, hn, he⟩ := DataW.trod_array Tryd.underlying24 hf
  simp only [Value.cells] at hl he
  have hc1 : Tryd.prog.cellsOf 5 = 1 := by kernel_rfl
  have hc2 : Tryd.prog.cellsOf 24 = 32 := by kernel_rfl
  rw [hc2] at hl
  have each : ∀ i, i < 32 → ∃ n : Int, cs.toList[i]? = some (.int .u8 n) ∧ 0 ≤ n ∧ n ≤ 255 ∧ ∀ y, xs[i]? = some y → y.2 = [] := by
    intro i hi
    have h1 := he i hi
    rw [hc1, Nat.mul_one] at h1
    obtain ⟨y, hy⟩ : ∃ y, xs[i]? = some y := ⟨xs[i]'(by omega), List.getElem?_eq_getElem (by omega)⟩
    obtain ⟨n, e1, e2, e3⟩ := DataW.trod_int u8_under (h1.trans hy)
    have e4 := congrArg (fun l => l[0]?) e1
    simp at e4
    have hb := bounds_u8 e3
    exact ⟨n, by simpa using e4, hb.1, by have := hb.2; omega, fun y' hy' => by rw [hy] at hy'; cases hy'; rw [e2]⟩
  refine ⟨(List.range 32).map fun i => UInt8.ofNat (intOf (cs.toList.getD i undef)).toNat, ?_, by simp, ?_⟩
  · refine congrArg Value.agg ?_
    have e : cs.toList = ((List.range 32).map fun i => UInt8.ofNat (intOf (cs.toList.getD i undef)).toNat).map fun x => Value.int .u8 (bi x) := by
      refine List.ext_getElem? fun i => ?_
      by_cases hi : i < 32
      · obtain ⟨n, h1, h2, h3, _⟩ := each i hi
        rw [h1]
        have e5 : cs.toList.getD i undef = .int .u8 n := by rw [List.getD_eq_getElem?_getD, h1]; rfl
        rw [List.getElem?_map, List.getElem?_map, List.getElem?_range hi]
        simp only [Option.map_some, e5, intOf, bi]
        congr 2
        simp only [UInt8.toNat_ofNat']
        omega
      · rw [List.getElem?_eq_none (by omega), List.getElem?_eq_none (by simp; omega)]
    unfold bcells
    rw [← e]
  · have hp : p = xs.flatMap (·.2) := by simpa using congrArg Prod.snd hx
    rw [hp, List.flatMap_eq_nil_iff]
    intro y hy
    obtain ⟨i, hi, rfl⟩ := List.mem_iff_getElem.1 hy
    obtain ⟨_, _, _, _, h4⟩ := each i (by omega)
    exact h4 _ (List.getElem?_eq_getElem hi)
end Go.Proofs.YtdfpjhpkkhdpoaaDoor

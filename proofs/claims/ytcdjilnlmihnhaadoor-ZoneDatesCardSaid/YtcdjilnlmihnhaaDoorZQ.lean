/-
  From the rows' conditions to the walks: the tables, arguments that are dates, a world for the witnesses (gen_ZQ.py, out of layer 8's text).
-/
import Derived.Test.YtcdjilnlmihnhaaDoorIB
import Derived.Test.YtcdjilnlmihnhaaDoorI8
import Derived.Test.YtcdjilnlmihnhaaDoorZD
import Derived.Test.YtcdjilnlmihnhaaDoorZA
import Derived.Deep.Slices
import Derived.Deep.Fields
import Derived.JoinedCond
import Derived.Test.YtcdjilnlmihnhaaDoorCards
import Derived.Test.YtcdjilnlmihnhaaDoorTie
import Derived.WalkKit
import Derived.ProofKit
import Derived.OpenShut
import Derived.Carry
import Derived.Deep.DeepHandedRow
import Derived.Lib.LaidTab
import Derived.Stop.LaidErr
import Derived.ChangeMaps5
namespace Go.Proofs.YtcdjilnlmihnhaaDoor
open Go.ChangeShapes Go.WideShapes Go.ChangeAt Go.RowKit
set_option linter.unusedSimpArgs false
set_option linter.unusedVariables false
theorem own : ownKnob Tryd.prog.godebug = none := by kernel_rfl
theorem laidOut : laidOutB Tryd.prog = true := by kernel_rfl
theorem laidPow : (Rows.laid_internal_strconv_uint64pow10 : DataW Unit) = Lib.tabData .u64 Lib.pow10Tab := by kernel_rfl
theorem laidLen : (Rows.laid_rollbook_date_lengths : DataW Unit) = Lib.tabData .i64 lens := by kernel_rfl
theorem gnPow : Tryd.prog.globalNamed "internal/strconv.uint64pow10" = some 2 := by kernel_rfl
theorem gtLen : (Tryd.prog.globals[0]?).map (·.type) = some 64 := by kernel_rfl
theorem gtPow : (Tryd.prog.globals[2]?).map (·.type) = some 100 := by kernel_rfl
theorem cells12 : Tryd.prog.cellsOf 64 = 12 := by kernel_rfl
theorem cells20 : Tryd.prog.cellsOf 100 = 20 := by kernel_rfl
theorem cells1i : Tryd.prog.cellsOf 3 = 1 := by kernel_rfl
theorem cells1u : Tryd.prog.cellsOf 85 = 1 := by kernel_rfl
/-- what the rows' lists give -/
theorem tabs_laid {W : World} (h : laidMetH Tryd.prog [("math/bits.deBruijn32tab", Rows.laid_math_bits_deBruijn32tab), ("math/bits.deBruijn64tab", Rows.laid_math_bits_deBruijn64tab), ("internal/strconv.uint64pow10", Rows.laid_internal_strconv_uint64pow10), ("rollbook/date.lengths", Rows.laid_rollbook_date_lengths)] W) : Tabs W := by
  have h0 : laidMet Tryd.prog [("math/bits.deBruijn32tab", Rows.laid_math_bits_deBruijn32tab), ("math/bits.deBruijn64tab", Rows.laid_math_bits_deBruijn64tab), ("internal/strconv.uint64pow10", Rows.laid_internal_strconv_uint64pow10), ("rollbook/date.lengths", Rows.laid_rollbook_date_lengths)] W := h
  have h2 := h0.tail.tail
  have h3 := h2.tail
  rw [laidPow] at h2
  rw [laidLen] at h3
  exact ⟨Lib.tabIs_of_head gnLen gtLen Tryd.underlying64 Tryd.underlying3 cells1i cells12 h3,
    Lib.tabIs_of_head gnPow gtPow Tryd.underlying100 Tryd.underlying85 cells1u cells20 h2⟩
def withCells (cs : Array Value) : Obj → Obj
  | .cells _ t frozen => .cells cs t frozen
  | o => o
def tabCells : DataW Unit → Array Value
  | .agg l => (l.map fun d => match d with | .lit (.int k n) => Value.int k n | _ => undef).toArray
  | _ => #[]
/-- a world for the witnesses: the tables hold what their initialisers lay -/
noncomputable def laidWorld (os : Os) : World :=
  { World.holding Tryd.prog os ⟨#[], #[], []⟩ with heap := ((((World.holding Tryd.prog os ⟨#[], #[], []⟩).heap.modify 0 (withCells (tabCells Rows.laid_rollbook_date_lengths))).modify 2 (withCells (tabCells Rows.laid_internal_strconv_uint64pow10))).modify 3 (withCells (tabCells Rows.laid_math_bits_deBruijn32tab))).modify 4 (withCells (tabCells Rows.laid_math_bits_deBruijn64tab)) }
def Old (W : World) (b : Nat) : Prop := b < W.heap.size
theorem Sl.of_cells {W : World} {ad : Addr} {n c : Nat} {xs : List Value} {size : Nat} (hz : 0 < size) (hl : xs.length = n * size) (hn : n ≤ c) (hm : c ≤ maxLen) (hc : ∀ j u, xs[j]? = some u → W.cell? (ad.add j) = some u) : Sl (Old W) W (some ad) n c xs size := by
  refine ⟨hl, hn, hm, (fun h => by cases h), fun hp => ?_⟩
  obtain ⟨ab, ao, spot⟩ := ad
  have h0 : xs[0]? = some (xs[0]'(by rw [hl]; exact Nat.mul_pos hp hz)) := List.getElem?_eq_getElem _
  have hspot : spot = none := by simpa [Addr.add] using World.cell?_spot (hc 0 _ h0)
  subst hspot
  have hr : W.rangeAt ab ao xs := fun j u hu => by have := hc j u hu; rwa [Addr.add_mid] at this
  exact ⟨ab, ao, range_lt hr (by rw [hl]; exact Nat.mul_pos hp hz), rfl, hr⟩
theorem ivals_takeT (l : List Int) (n : Nat) : ivals (l.take n) = (ivals l).take n := by simp [ivals, List.map_take]
section
variable {H : Type} {enc : TypeId × Value → H} {W : World} {base : Nat} {held : Bool}
theorem ints_of_trod {fuel : Nat} {cs : List Value} {x : DataW H × List MemPlace} (h : DataW.trod enc Tryd.prog W base (fun _ => true) held fuel 22 cs = some x) : ∃ a n c l, cs = [.slice a n c] ∧ Is (Old W) W a n c l ∧ Ok64Z l := by
  rcases open_ints Tryd.underlying22 Tryd.underlying3 cells1i h with ⟨hcs, hx⟩ | ⟨a, n, c, zs, hcs, _, hl, hm, hz, hx, hcell, hwz⟩
  · exact ⟨none, 0, 0, [], hcs, ⟨rfl, Sl.empty _ _ _ _ _ (Nat.zero_le _) (fun _ => rfl)⟩, fun _ h => by cases h⟩
  · simp only [if_true] at hz
    refine ⟨some a, n, c, zs.take n, hcs, ⟨by rw [List.length_take]; omega, Sl.of_cells (by decide) (by rw [ivals_len, List.length_take]; omega) hl hm fun j u hu => ?_⟩, fun x hx => bounds_i64 (hwz x (List.mem_of_mem_take hx))⟩
    rw [ivals_takeT, List.getElem?_take] at hu
    split at hu
    · rename_i hj
      have hjz : j < zs.length := by omega
      rw [hcell j hjz]
      rw [← hu]
      simp [ivals, List.getD, hjz]
    · cases hu
set_option maxRecDepth 100000 in
theorem open_is {base0 : Nat} {v : Value} {d : DataW H} {p : List MemPlace} (hval : Value.okWide Tryd.prog W .any base0 22 v) (h : DataW.Trod enc Tryd.prog W base (fun _ => true) held 22 v d p) :
    ∃ a n c l, v = .slice a n c ∧ Is (Old W) W a n c l ∧ Ok64Z l := by
  obtain ⟨a1, n1, c1, rfl⟩ := okWide_slice Tryd.underlying22 hval
  obtain ⟨fuel, hf⟩ := h
  obtain ⟨a, n, c, l, hcs, h1, h2⟩ := ints_of_trod hf
  simp [Value.cells] at hcs
  obtain ⟨rfl, rfl, rfl⟩ := hcs
  exact ⟨_, _, _, l, rfl, h1, h2⟩
end
theorem prs_print {y m d : Int} (h : validD y m d) : prsE (printL y m d) = 0 ∧ prsN (printL y m d) = dayN y m d := by
  have hs := valid_small h
  have a := p4_num y.toNat (by omega)
  have b := p2_num m.toNat (by omega)
  have c := p2_num d.toNat (by omega)
  have e1 : (printL y m d).take 4 = p4 y.toNat := rfl
  have e2 : ((printL y m d).drop 5).take 2 = p2 m.toNat := rfl
  have e3 : (printL y m d).drop 8 = p2 d.toNat := rfl
  have ey : (y.toNat : Int) = y := by omega
  have em : (m.toNat : Int) = m := by omega
  have ed : (d.toNat : Int) = d := by omega
  have hw : wellF (printL y m d) = true := by
    unfold wellF
    rw [e1, e2, e3, a.1, b.1, c.1]
    rfl
  unfold prsE prsN
  rw [if_pos hw, if_pos hw, e1, e2, e3, a.2, b.2, c.2, ey, em, ed]
  refine ⟨chk_ok h, ?_⟩
  unfold dayR
  rw [if_pos h]
theorem printB_list {n : Int} (h : okN n) : (printB n).data.toList = printL (yearN n) (monthN n) (mdayN n) := by unfold printB; rw [if_pos h]
theorem printB_size {n : Int} (h : okN n) : (printB n).size = 10 := by unfold printB; rw [if_pos h]; rfl
theorem parse_good {n : Int} (h : okN n) (u : World) (hu : Tabs u) : Calls Tryd.prog 8 #[.string (printB n)] u fun e w' => e = .returned (.tuple #[.int .i64 n, .int .i64 0]) ∧ Below u.heap.size u w' := by
  have h1 := parse_any (printB n) u (by rw [printB_size h]; decide) hu
  have ho := of_ok n h.1 h.2
  have hp := prs_print ho.1
  rw [printB_list h, hp.1, hp.2, ho.2] at h1
  exact h1
theorem print_inj {a b : Int} (ha : okN a) (hb : okN b) (h : printB a = printB b) : a = b := by
  have h1 := of_ok a ha.1 ha.2
  have h2 := of_ok b hb.1 hb.2
  have p1 := prs_print h1.1
  have p2 := prs_print h2.1
  rw [← printB_list ha] at p1
  rw [← printB_list hb] at p2
  rw [h] at p1
  have := p1.2.symm.trans p2.2
  rw [h1.2, h2.2] at this
  exact this
theorem list_beqZ {a b : ByteArray} (h : a ≠ b) : (a.toList == b.toList) = false := by
  rw [beq_eq_false_iff_ne]
  intro e
  apply h
  rw [ByteArray.toList_eq, ByteArray.toList_eq] at e
  obtain ⟨⟨x⟩⟩ := a
  obtain ⟨⟨y⟩⟩ := b
  simp only at e
  rw [e]
end Go.Proofs.YtcdjilnlmihnhaaDoor

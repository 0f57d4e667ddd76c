/-
  From the rows' conditions to the walks: the tables, the arguments, the witness's world.
-/
import Derived.Test.YtdfpjhpkkhdpoaaDoorC1
import Derived.Test.YtdfpjhpkkhdpoaaDoorCards
import Derived.Test.YtdfpjhpkkhdpoaaDoorTie
import Derived.WalkKit
import Derived.ProofKit
import Derived.OpenShut
import Derived.Carry
import Derived.Deep.DeepHandedRow
import Derived.Lib.LaidTab
import Derived.Stop.LaidErr
namespace Go.Proofs.YtdfpjhpkkhdpoaaDoor
open Go.ChangeShapes Go.WideShapes Go.ChangeAt Go.RowKit
theorem own : ownKnob Tryd.prog.godebug = none := by kernel_rfl
theorem laidOut : laidOutB Tryd.prog = true := by kernel_rfl
def z0 : List Int := H8.map wi
def z1 : List Int := K64.map wi
theorem laid0 : (Rows.laid_rollbook_digest_initial : DataW Unit) = Lib.tabData .u32 z0 := by kernel_rfl
theorem laid1 : (Rows.laid_rollbook_digest_rounds : DataW Unit) = Lib.tabData .u32 z1 := by kernel_rfl
theorem gn0 : Tryd.prog.globalNamed "rollbook/digest.initial" = some 0 := by kernel_rfl
theorem gn1 : Tryd.prog.globalNamed "rollbook/digest.rounds" = some 1 := by kernel_rfl
theorem gt0 : (Tryd.prog.globals[0]?).map (·.type) = some 31 := by kernel_rfl
theorem gt1 : (Tryd.prog.globals[1]?).map (·.type) = some 74 := by kernel_rfl
theorem cells8w : Tryd.prog.cellsOf 31 = 8 := by kernel_rfl
theorem cells64w : Tryd.prog.cellsOf 74 = 64 := by kernel_rfl
theorem cells1w : Tryd.prog.cellsOf 30 = 1 := by kernel_rfl
theorem cells1b : Tryd.prog.cellsOf 5 = 1 := by kernel_rfl
theorem K64_len : K64.length = 64 := rfl
theorem z_get (l : List (BitVec 32)) (i : Nat) (h : i < l.length) : (l.map wi).getD i 0 = wi (wAt l i) := by
  simp [List.getD, wAt, h]
/-- what the row's list gives -/
theorem tabs_laid {W : World} (h : laidMetH Tryd.prog [("rollbook/digest.initial", Rows.laid_rollbook_digest_initial), ("rollbook/digest.rounds", Rows.laid_rollbook_digest_rounds)] W) : Tabs W := by
  have h0 : laidMet Tryd.prog [("rollbook/digest.initial", Rows.laid_rollbook_digest_initial), ("rollbook/digest.rounds", Rows.laid_rollbook_digest_rounds)] W := h
  have h1 := h0.tail
  rw [laid0] at h0
  rw [laid1] at h1
  have t0 := Lib.tabIs_of_head gn0 gt0 Tryd.underlying31 Tryd.underlying30 cells1w cells8w h0
  have t1 := Lib.tabIs_of_head gn1 gt1 Tryd.underlying74 Tryd.underlying30 cells1w cells64w h1
  have c1 : ∀ i, i < 64 → W.cell? ⟨1, i, none⟩ = some (.int .u32 (wi (wAt K64 i))) := fun i hi => by
    rw [t1.cell gn1 i (by simp [z1, K64_len]; exact hi), z1, z_get K64 i (by rw [K64_len]; exact hi)]
  refine ⟨c1, fun i hi => ?_, ?_⟩
  · rw [t0.cell gn0 i (by simp [z0, H8_len]; exact hi), z0, z_get H8 i (by rw [H8_len]; exact hi)]
  · have := block_lt_of_cell (c1 0 (by omega))
    exact this
theorem bulk_lits {H : Type} (k : IntKind) (zs : List Int) : zs.length = Rows.uptoBulkAll (lits (H := H) k zs) := by
  induction zs with
  | nil => rfl
  | cons z r ih =>
    simp only [lits, List.map_cons, Rows.uptoBulkAll, List.length_cons] at ih ⊢
    simp only [Rows.uptoBulk]
    omega
/-- a slice of bytes that came in -/
theorem open_bs {H : Type} {enc : TypeId × Value → H} {W : World} {base : Nat} {v : Value} {d : DataW H} {p : List MemPlace} (hval : Value.okWide Tryd.prog W .any base 22 v) (h : DataW.Trod enc Tryd.prog W 0 (fun _ => true) true 22 v d p) :
    ∃ a n c l, v = .slice a n c ∧ Bs W a n c l ∧ n ≤ Rows.uptoBulk d := by
  obtain ⟨a1, n, c, rfl⟩ := okWide_slice Tryd.underlying22 hval
  obtain ⟨fuel, hf⟩ := h
  rcases open_ints Tryd.underlying22 u8_under cells1b hf with ⟨hcs, hx⟩ | ⟨a, n', c', zs, hcs, _, hl, hm, hz, hx, hcell, hwz⟩
  · simp [Value.cells] at hcs
    obtain ⟨rfl, rfl, rfl⟩ := hcs
    exact ⟨none, 0, 0, [], rfl, Bs_empty _ _ _ (Nat.zero_le _) (fun _ => rfl), Nat.zero_le _⟩
  · simp [Value.cells] at hcs
    obtain ⟨rfl, rfl, rfl⟩ := hcs
    simp only [Prod.mk.injEq] at hx
    obtain ⟨rfl, rfl⟩ := hx
    simp only [if_true] at hz
    have hlen : ((zs.take n).map fun n => UInt8.ofNat n.toNat).length = n := by simp; omega
    refine ⟨some a, n, c, (zs.take n).map fun n => UInt8.ofNat n.toNat, rfl, ⟨hlen, hl, hm, (fun h => by cases h), fun hn => ?_⟩, ?_⟩
    · obtain ⟨ab, ao, spot⟩ := a
      have hspot : spot = none := by simpa [Addr.add] using World.cell?_spot (hcell 0 (by omega))
      subst hspot
      refine ⟨ab, ao, rfl, fun i hi => ?_⟩
      have hci := hcell i (by omega)
      rw [Addr.add_mid] at hci
      rw [hci]
      have hb := range_u8 hwz i
      have e : zs[i]?.getD 0 = zs[i]'(by omega) := by simp [List.getElem?_eq_getElem (show i < zs.length by omega)]
      rw [e] at hb
      rw [byteAt_lt _ _ (by rw [hlen]; exact hi), List.getD_eq_getElem?_getD, e]
      simp only [List.getElem_map, List.getElem_take, bi]
      congr 2
      simp only [UInt8.toNat_ofNat']
      omega
    · have := bulk_lits (H := H) .u8 (zs.take n)
      rw [List.length_take] at this
      simp only [Rows.uptoBulk]
      omega
def withCells (cs : Array Value) : Obj → Obj
  | .cells _ t frozen => .cells cs t frozen
  | o => o
/-- a world for the witnesses: the tables hold what their initialisers lay -/
noncomputable def laidWorld (os : Os) : World :=
  { World.holding Tryd.prog os ⟨#[], #[], []⟩ with heap := ((World.holding Tryd.prog os ⟨#[], #[], []⟩).heap.modify 0 (withCells (wcells H8))).modify 1 (withCells (wcells K64)) }
end Go.Proofs.YtdfpjhpkkhdpoaaDoor

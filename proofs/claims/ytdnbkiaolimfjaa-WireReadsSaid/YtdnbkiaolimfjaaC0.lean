/-
  From the rows' conditions to the walks: arguments opened.
-/
import Derived.Test.YtdnbkiaolimfjaaB5
import Derived.WalkKit
import Derived.ProofKit
import Derived.OpenShut
import Derived.Carry
import Derived.Deep.Slices
import Derived.Deep.Fields
import Derived.JoinedCond
namespace Go.Proofs.Ytdnbkiaolimfjaa
open Go.ChangeShapes Go.WideShapes Go.ChangeAt Go.RowKit
theorem own : ownKnob Try.prog.godebug = none := by kernel_rfl
theorem laidOut : laidOutB Try.prog = true := by kernel_rfl
theorem cells1b : Try.prog.cellsOf 5 = 1 := by kernel_rfl
theorem cells1i : Try.prog.cellsOf 3 = 1 := by kernel_rfl
theorem cells6 : Try.prog.cellsOf 34 = 6 := by kernel_rfl
/-- the blocks that were there -/
def Old (W : World) (b : Nat) : Prop := b < W.heap.size
theorem Sl.of_cells {W : World} {ad : Addr} {n c : Nat} {xs : List Value} {size : Nat} (hz : 0 < size) (hl : xs.length = n * size) (hn : n ≤ c) (hm : c ≤ maxLen) (hc : ∀ j u, xs[j]? = some u → W.cell? (ad.add j) = some u) : Sl (Old W) W (some ad) n c xs size := by
  refine ⟨hl, hn, hm, (fun h => by cases h), fun hp => ?_⟩
  obtain ⟨ab, ao, spot⟩ := ad
  have h0 : xs[0]? = some (xs[0]'(by rw [hl]; exact Nat.mul_pos hp hz)) := List.getElem?_eq_getElem _
  have hspot : spot = none := by simpa [Addr.add] using World.cell?_spot (hc 0 _ h0)
  subst hspot
  have hr : W.rangeAt ab ao xs := fun j u hu => by have := hc j u hu; rwa [Addr.add_mid] at this
  exact ⟨ab, ao, range_lt hr (by rw [hl]; exact Nat.mul_pos hp hz), rfl, hr⟩
section
variable {H : Type} {enc : TypeId × Value → H} {W : World} {base : Nat} {held : Bool}
theorem ints_of_trod {fuel : Nat} {cs : List Value} {x : DataW H × List MemPlace} (h : DataW.trod enc Try.prog W base (fun _ => true) held fuel 32 cs = some x) : ∃ a n c l, cs = [.slice a n c] ∧ Is (Old W) W a n c l ∧ Ok64 l := by
  rcases open_ints Try.underlying32 Try.underlying3 cells1i h with ⟨hcs, hx⟩ | ⟨a, n, c, zs, hcs, _, hl, hm, hz, hx, hcell, hwz⟩
  · exact ⟨none, 0, 0, [], hcs, ⟨rfl, Sl.empty _ _ _ _ _ (Nat.zero_le _) (fun _ => rfl)⟩, fun _ h => by cases h⟩
  · simp only [if_true] at hz
    refine ⟨some a, n, c, zs.take n, hcs, ⟨by rw [List.length_take]; omega, Sl.of_cells (by decide) (by rw [ivals_len, List.length_take]; omega) hl hm fun j u hu => ?_⟩, fun x hx => bounds_i64 (hwz x (List.mem_of_mem_take hx))⟩
    rw [ivals_take, List.getElem?_take] at hu
    split at hu
    · rename_i hj
      have hjz : j < zs.length := by omega
      rw [hcell j hjz]
      rw [← hu]
      simp [ivals, List.getD, hjz]
    · cases hu
theorem value_of_trod {fuel : Nat} {cs : List Value} {x : DataW H × List MemPlace} (h : DataW.trod enc Try.prog W base (fun _ => true) held fuel 34 cs = some x) : ∃ m : VM, cs = m.cells ∧ VOk (Old W) W m := by
  obtain ⟨ys, n, _, _, hlen, hyl, hf⟩ := DataW.trod_struct Try.underlying34 h
  rw [cells6] at hlen
  match cs, hlen with
  | [c0, c1, c2, c3, c4, c5], _ =>
    match ys, hyl with
    | [y0, y1, y2, y3, y4, y5], _ =>
      have h0 : DataW.trod enc Try.prog W base (fun _ => true) held n 5 [c0] = some y0 := hf 0 _ rfl
      have h1 : DataW.trod enc Try.prog W base (fun _ => true) held n 31 [c1] = some y1 := hf 1 _ rfl
      have h2 : DataW.trod enc Try.prog W base (fun _ => true) held n 3 [c2] = some y2 := hf 2 _ rfl
      have h3 : DataW.trod enc Try.prog W base (fun _ => true) held n 4 [c3] = some y3 := hf 3 _ rfl
      have h4 : DataW.trod enc Try.prog W base (fun _ => true) held n 9 [c4] = some y4 := hf 4 _ rfl
      have h5 : DataW.trod enc Try.prog W base (fun _ => true) held n 32 [c5] = some y5 := hf 5 _ rfl
      obtain ⟨k, e0, _, w0⟩ := DataW.trod_int Try.underlying5 h0
      obtain ⟨u, e1, _, w1⟩ := DataW.trod_int Try.underlying31 h1
      obtain ⟨i, e2, _, w2⟩ := DataW.trod_int Try.underlying3 h2
      obtain ⟨b, e3, _⟩ := DataW.trod_bool Try.underlying4 h3
      obtain ⟨s, e4, _, hs⟩ := DataW.trod_string Try.underlying9 h4
      obtain ⟨a, ln, c, l, e5, hI, h64⟩ := ints_of_trod h5
      cases e0; cases e1; cases e2; cases e3; cases e4; cases e5
      have b0 := bounds_u8 w0
      have b1 := bounds_u64 w1
      have b2 := bounds_i64 w2
      refine ⟨⟨k.toNat, u.toNat, i, b, s, a, ln, c, l⟩, ?_, ⟨?_, ?_, b2.1, b2.2, hs, hI, h64⟩⟩
      · simp only [VM.cells]
        rw [Int.toNat_of_nonneg b0.1, Int.toNat_of_nonneg b1.1]
      · show k.toNat < 256
        omega
      · show u.toNat < 18446744073709551616
        omega
/-- a slice of Values that came in -/
theorem open_vals {base0 : Nat} {v : Value} {d : DataW H} {p : List MemPlace} (hval : Value.okWide Try.prog W .any base0 22 v) (h : DataW.Trod enc Try.prog W base (fun _ => true) held 22 v d p) :
    ∃ a n c ms, v = .slice a n c ∧ Vs (Old W) W a n c ms := by
  obtain ⟨a1, n, c, rfl⟩ := okWide_slice Try.underlying22 hval
  obtain ⟨fuel, hf⟩ := h
  rcases Go.Deep.open_slice Try.underlying22 hf with ⟨hcs, hx⟩ | ⟨a, n', c', m, fu, D, Pl, hcs, _, hl, hm, hmm, hx, hi⟩
  · simp [Value.cells] at hcs
    obtain ⟨rfl, rfl, rfl⟩ := hcs
    exact ⟨none, 0, 0, [], rfl, rfl, Sl.empty _ _ _ _ _ (Nat.zero_le _) (fun _ => rfl), fun _ h => by cases h⟩
  · simp [Value.cells] at hcs
    obtain ⟨rfl, rfl, rfl⟩ := hcs
    simp only [if_true] at hmm
    have hex : ∀ i, i < n → ∃ x : VM, (∀ j u, x.cells[j]? = some u → W.cell? (a.add (i * 6 + j)) = some u) ∧ VOk (Old W) W x := by
      intro i hin
      obtain ⟨cs', hc, ht⟩ := hi i (by omega)
      rw [cells6] at hc
      obtain ⟨_, hlen, hat⟩ := World.cells?_some hc
      obtain ⟨x, rfl, hx⟩ := value_of_trod ht
      refine ⟨x, fun j u hu => ?_, hx⟩
      have hj : j < 6 := by have := (List.getElem?_eq_some_iff.1 hu).1; rwa [VM.cells_len] at this
      rw [← Go.Deep.add_add, hat j hj, hu]
    refine ⟨some a, n, c, (List.range n).attach.map fun i => (hex i.1 (List.mem_range.1 i.2)).choose, rfl, by simp, Sl.of_cells (by decide) (by rw [vcells_len]; simp) hl hm fun j u hu => ?_, fun x hx => ?_⟩
    · have hjl : j < n * 6 := by
        have := (List.getElem?_eq_some_iff.1 hu).1
        rw [vcells_len] at this
        simpa using this
      have e : j = j / 6 * 6 + j % 6 := by omega
      have hi6 : j / 6 < n := by omega
      rw [e] at hu ⊢
      rw [vcells_get _ (j / 6) (j % 6) (by simpa using hi6) (by omega)] at hu
      simp only [List.getElem_map, List.getElem_attach, List.getElem_range] at hu
      exact (hex (j / 6) hi6).choose_spec.1 _ _ hu
    · obtain ⟨i, _, rfl⟩ := List.mem_map.1 hx
      exact (hex i.1 (List.mem_range.1 i.2)).choose_spec.2
/-- a slice of bytes that came in -/
theorem open_bs {base0 : Nat} {v : Value} {d : DataW H} {p : List MemPlace} (hval : Value.okWide Try.prog W .any base0 23 v) (h : DataW.Trod enc Try.prog W base (fun _ => true) held 23 v d p) :
    ∃ a n c l, v = .slice a n c ∧ Bs (Old W) W a n c l := by
  obtain ⟨a1, n, c, rfl⟩ := okWide_slice Try.underlying23 hval
  obtain ⟨fuel, hf⟩ := h
  rcases open_ints Try.underlying23 Try.underlying5 cells1b hf with ⟨hcs, hx⟩ | ⟨a, n', c', zs, hcs, _, hl, hm, hz, hx, hcell, hwz⟩
  · simp [Value.cells] at hcs
    obtain ⟨rfl, rfl, rfl⟩ := hcs
    exact ⟨none, 0, 0, [], rfl, rfl, Sl.empty _ _ _ _ _ (Nat.zero_le _) (fun _ => rfl)⟩
  · simp [Value.cells] at hcs
    obtain ⟨rfl, rfl, rfl⟩ := hcs
    simp only [if_true] at hz
    refine ⟨some a, n, c, (zs.take n).map fun n => UInt8.ofNat n.toNat, rfl, by simp; omega, Sl.of_cells (by decide) (by rw [vals_len]; simp; omega) hl hm fun j u hu => ?_⟩
    have hj : j < n := by
      have := (List.getElem?_eq_some_iff.1 hu).1
      rw [vals_len] at this
      simp at this
      omega
    have hjz : j < zs.length := by omega
    have hb := bounds_u8 (hwz _ (List.getElem_mem hjz))
    rw [hcell j hjz, ← hu]
    simp only [vals, List.map_map, List.getElem?_map, List.getElem?_take, if_pos hj, List.getElem?_eq_getElem hjz, Option.map_some, Function.comp, List.getD, Option.getD_some]
    congr 2
    simp only [UInt8.toNat_ofNat']
    omega
/-- a slice of numbers that came in -/
theorem open_is {base0 : Nat} {v : Value} {d : DataW H} {p : List MemPlace} (hval : Value.okWide Try.prog W .any base0 32 v) (h : DataW.Trod enc Try.prog W base (fun _ => true) held 32 v d p) :
    ∃ a n c l, v = .slice a n c ∧ Is (Old W) W a n c l ∧ Ok64 l := by
  obtain ⟨a1, n1, c1, rfl⟩ := okWide_slice Try.underlying32 hval
  obtain ⟨fuel, hf⟩ := h
  obtain ⟨a, n, c, l, hcs, h1, h2⟩ := ints_of_trod hf
  simp [Value.cells] at hcs
  obtain ⟨rfl, rfl, rfl⟩ := hcs
  exact ⟨_, _, _, l, rfl, h1, h2⟩
/-- a Value that came in -/
theorem open_val {base0 : Nat} {v : Value} {d : DataW H} {p : List MemPlace} (hval : Value.okWide Try.prog W .any base0 34 v) (h : DataW.Trod enc Try.prog W base (fun _ => true) held 34 v d p) :
    ∃ m : VM, v = m.val ∧ VOk (Old W) W m := by
  obtain ⟨cs, rfl, hsz⟩ := okWide_struct Try.underlying34 hval
  obtain ⟨fuel, hf⟩ := h
  obtain ⟨m, hm, hok⟩ := value_of_trod hf
  refine ⟨m, ?_, hok⟩
  have : cs.toList = m.cells := by simpa [Value.cells] using hm
  rw [VM.val, ← VM.cells_arr, ← this]
end
end Go.Proofs.Ytdnbkiaolimfjaa

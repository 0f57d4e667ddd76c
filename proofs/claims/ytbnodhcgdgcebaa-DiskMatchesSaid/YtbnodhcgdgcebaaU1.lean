/-
  From the rows' conditions to the walks: arguments opened.
-/
import Derived.Test.YtbnodhcgdgcebaaT7
import Derived.WalkKit
import Derived.ProofKit
import Derived.OpenShut
import Derived.Carry
import Derived.Deep.Slices
import Derived.Deep.Fields
import Derived.JoinedCond
namespace Go.Proofs.Ytbnodhcgdgcebaa
open Go.ChangeShapes Go.WideShapes Go.ChangeAt Go.RowKit
set_option linter.unusedSimpArgs false
set_option linter.unusedVariables false
theorem own : ownKnob Try.prog.godebug = none := by kernel_rfl
theorem laidOut : laidOutB Try.prog = true := by kernel_rfl
theorem cells1b : Try.prog.cellsOf 5 = 1 := by kernel_rfl
theorem cells1i : Try.prog.cellsOf 3 = 1 := by kernel_rfl
theorem cells3t : Try.prog.cellsOf 67 = 3 := by kernel_rfl
theorem cells5o : Try.prog.cellsOf 35 = 5 := by kernel_rfl
/-- numbers that fit -/
def Ok64 (l : List Int) : Prop := ∀ x ∈ l, -9223372036854775808 ≤ x ∧ x ≤ 9223372036854775807
/-- an operation of the laws -/
structure OM where
  kind : Int
  k : Int
  n : Int
  ba : Option Addr
  bn : Nat
  bc : Nat
  b : List UInt8
  la : Option Addr
  ln : Nat
  lc : Nat
  l : List TM
def OM.cells (m : OM) : List Value := [.int .i64 m.kind, .int .i64 m.k, .int .i64 m.n, .slice m.ba m.bn m.bc, .slice m.la m.ln m.lc]
theorem OM.cells_len (m : OM) : m.cells.length = 5 := rfl
def OOk (D : Nat → Prop) (w : World) (m : OM) : Prop := (-9223372036854775808 ≤ m.kind ∧ m.kind ≤ 9223372036854775807) ∧ (-9223372036854775808 ≤ m.k ∧ m.k ≤ 9223372036854775807) ∧ (-9223372036854775808 ≤ m.n ∧ m.n ≤ 9223372036854775807) ∧ Bs D w m.ba m.bn m.bc m.b ∧ Ts D w m.la m.ln m.lc m.l
def ocells (ms : List OM) : List Value := ms.flatMap OM.cells
theorem ocells_len (ms : List OM) : (ocells ms).length = ms.length * 5 := by
  unfold ocells
  induction ms with
  | nil => rfl
  | cons m r ih => rw [List.flatMap_cons, List.length_append, OM.cells_len, ih, List.length_cons]; omega
theorem tcells_len (ts : List TM) : (tcells ts).length = ts.length * 3 := by
  unfold tcells
  induction ts with
  | nil => rfl
  | cons m r ih => rw [List.flatMap_cons, List.length_append, ih, List.length_cons, List.length_cons, List.length_cons, List.length_cons, List.length_nil]; omega
theorem ocells_get (ms : List OM) (i j : Nat) (hi : i < ms.length) (hj : j < 5) : (ocells ms)[i * 5 + j]? = ms[i].cells[j]? := by
  unfold ocells
  induction ms generalizing i with
  | nil => simp at hi
  | cons m r ih =>
    rw [List.flatMap_cons]
    cases i with
    | zero =>
      rw [List.getElem?_append_left (by rw [OM.cells_len]; omega), Nat.zero_mul, Nat.zero_add]
      rfl
    | succ i =>
      rw [List.getElem?_append_right (by rw [OM.cells_len]; omega), show (i + 1) * 5 + j - m.cells.length = i * 5 + j by rw [OM.cells_len]; omega, ih i (by simpa using hi)]
      rfl
/-- a slice of operations -/
def Ops (D : Nat → Prop) (w : World) (a : Option Addr) (n c : Nat) (ms : List OM) : Prop := ms.length = n ∧ Sl D w a n c (ocells ms) 5 ∧ ∀ m ∈ ms, OOk D w m
/-- the blocks that were there -/
def Old (W : World) (b : Nat) : Prop := b < W.heap.size
theorem Sl.of_cells {W : World} {ad : Addr} {n c : Nat} {xs : List Value} {size : Nat} (hz : 0 < size) (hl : xs.length = n * size) (hn : n ≤ c) (hm : c ≤ maxLen) (hc : ∀ j u, xs[j]? = some u → W.cell? (ad.add j) = some u) : Sl (Old W) W (some ad) n c xs size := by
  refine ⟨hl, hn, hm, (fun h => by cases h), fun hp => ?_⟩
  obtain ⟨ab, ao, spot⟩ := ad
  have h0 : xs[0]? = some (xs[0]'(by rw [hl]; exact Nat.mul_pos hp hz)) := List.getElem?_eq_getElem _
  have hspot : spot = none := by simpa [Addr.add] using World.cell?_spot (hc 0 _ h0)
  subst hspot
  have hr : W.rangeAt ab ao xs := fun j u hu => by have := hc j u hu; rwa [Addr.add_mid] at this
  exact ⟨ab, ao, range_lt hr (by rw [hl]; exact Nat.mul_pos hp hz), rfl, hr⟩
section
variable {H : Type} {enc : TypeId × Value → H} {W : World} {base : Nat} {held : Bool}
theorem ints_of_trod {fuel : Nat} {cs : List Value} {x : DataW H × List MemPlace} (h : DataW.trod enc Try.prog W base (fun _ => true) held fuel 64 cs = some x) : ∃ a n c l, cs = [.slice a n c] ∧ Is (Old W) W a n c l ∧ Ok64 l := by
  rcases open_ints Try.underlying64 Try.underlying3 cells1i h with ⟨hcs, hx⟩ | ⟨a, n, c, zs, hcs, _, hl, hm, hz, hx, hcell, hwz⟩
  · exact ⟨none, 0, 0, [], hcs, ⟨rfl, Sl.empty _ _ _ _ _ (Nat.zero_le _) (fun _ => rfl)⟩, fun _ h => by cases h⟩
  · simp only [if_true] at hz
    refine ⟨some a, n, c, zs.take n, hcs, ⟨by rw [List.length_take]; omega, Sl.of_cells (by decide) (by rw [ivals_len, List.length_take]; omega) hl hm fun j u hu => ?_⟩, fun x hx => bounds_i64 (hwz x (List.mem_of_mem_take hx))⟩
    rw [ivals_take, List.getElem?_take] at hu
    split at hu
    · rename_i hj
      have hjz : j < zs.length := by omega
      rw [hcell j hjz]
      rw [← hu]
      simp [ivals, List.getD, hjz]
    · cases hu
theorem bytes_of_trod {fuel : Nat} {cs : List Value} {x : DataW H × List MemPlace} (h : DataW.trod enc Try.prog W base (fun _ => true) held fuel 32 cs = some x) : ∃ a n c l, cs = [.slice a n c] ∧ Bs (Old W) W a n c l := by
  rcases open_ints Try.underlying32 Try.underlying5 cells1b h with ⟨hcs, hx⟩ | ⟨a, n, c, zs, hcs, _, hl, hm, hz, hx, hcell, hwz⟩
  · exact ⟨none, 0, 0, [], hcs, rfl, Sl.empty _ _ _ _ _ (Nat.zero_le _) (fun _ => rfl)⟩
  · simp only [if_true] at hz
    refine ⟨some a, n, c, (zs.take n).map fun n => UInt8.ofNat n.toNat, hcs, by simp; omega, Sl.of_cells (by decide) (by rw [vals_len]; simp; omega) hl hm fun j u hu => ?_⟩
    have hj : j < n := by
      have := (List.getElem?_eq_some_iff.1 hu).1
      rw [vals_len] at this
      simp at this
      omega
    have hjz : j < zs.length := by omega
    have hb := bounds_u8 (hwz _ (List.getElem_mem hjz))
    rw [hcell j hjz, ← hu]
    simp only [vals, List.map_map, List.getElem?_map, List.getElem?_take, if_pos hj, List.getElem?_eq_getElem hjz, Option.map_some, Function.comp, List.getD, Option.getD_some]
    congr 2
    simp only [UInt8.toNat_ofNat']
    omega
set_option maxRecDepth 100000 in
theorem torn_of_trod {fuel : Nat} {cs : List Value} {x : DataW H × List MemPlace} (h : DataW.trod enc Try.prog W base (fun _ => true) held fuel 67 cs = some x) : ∃ m : TM, cs = [.int .i64 m.sector, .int .i64 m.writes, .int .i64 m.bytes] ∧ TOk m := by
  obtain ⟨ys, n, _, _, hlen, hyl, hf⟩ := DataW.trod_struct Try.underlying67 h
  rw [cells3t] at hlen
  match cs, hlen with
  | [c0, c1, c2], _ =>
    match ys, hyl with
    | [y0, y1, y2], _ =>
      have h0 : DataW.trod enc Try.prog W base (fun _ => true) held n 3 [c0] = some y0 := hf 0 _ rfl
      have h1 : DataW.trod enc Try.prog W base (fun _ => true) held n 3 [c1] = some y1 := hf 1 _ rfl
      have h2 : DataW.trod enc Try.prog W base (fun _ => true) held n 3 [c2] = some y2 := hf 2 _ rfl
      obtain ⟨i0, e0, _, w0⟩ := DataW.trod_int Try.underlying3 h0
      obtain ⟨i1, e1, _, w1⟩ := DataW.trod_int Try.underlying3 h1
      obtain ⟨i2, e2, _, w2⟩ := DataW.trod_int Try.underlying3 h2
      cases e0; cases e1; cases e2
      exact ⟨⟨i0, i1, i2⟩, rfl, bounds_i64 w0⟩
set_option maxRecDepth 100000 in
theorem torns_of_trod {fuel : Nat} {cs : List Value} {x : DataW H × List MemPlace} (h : DataW.trod enc Try.prog W base (fun _ => true) held fuel 33 cs = some x) : ∃ a n c ts, cs = [.slice a n c] ∧ Ts (Old W) W a n c ts := by
  rcases Go.Deep.open_slice Try.underlying33 h with ⟨hcs, hx⟩ | ⟨a, n, c, m, fu, D, Pl, hcs, _, hl, hm, hmm, hx, hi⟩
  · exact ⟨none, 0, 0, [], hcs, rfl, Sl.empty _ _ _ _ _ (Nat.zero_le _) (fun _ => rfl), fun _ h => by cases h⟩
  · simp only [if_true] at hmm
    have hex : ∀ i, i < n → ∃ x : TM, (∀ j u, [Value.int .i64 x.sector, .int .i64 x.writes, .int .i64 x.bytes][j]? = some u → W.cell? (a.add (i * 3 + j)) = some u) ∧ TOk x := by
      intro i hin
      obtain ⟨cs', hc, ht⟩ := hi i (by omega)
      rw [cells3t] at hc
      obtain ⟨_, hlen, hat⟩ := World.cells?_some hc
      obtain ⟨x, rfl, hx⟩ := torn_of_trod ht
      refine ⟨x, fun j u hu => ?_, hx⟩
      have hj : j < 3 := (List.getElem?_eq_some_iff.1 hu).1
      rw [← Go.Deep.add_add, hat j hj, hu]
    refine ⟨some a, n, c, (List.range n).attach.map fun i => (hex i.1 (List.mem_range.1 i.2)).choose, hcs, by simp, Sl.of_cells (by decide) (by rw [tcells_len]; simp) hl hm fun j u hu => ?_, fun x hx => ?_⟩
    · have hjl : j < n * 3 := by
        have := (List.getElem?_eq_some_iff.1 hu).1
        rw [tcells_len] at this
        simpa using this
      have e : j = j / 3 * 3 + j % 3 := by omega
      have hi6 : j / 3 < n := by omega
      rw [e] at hu ⊢
      rw [tcells_get _ (j / 3) (j % 3) (by simpa using hi6) (by omega)] at hu
      simp only [List.getElem_map, List.getElem_attach, List.getElem_range] at hu
      exact (hex (j / 3) hi6).choose_spec.1 _ _ hu
    · obtain ⟨i, _, rfl⟩ := List.mem_map.1 hx
      exact (hex i.1 (List.mem_range.1 i.2)).choose_spec.2
set_option maxRecDepth 100000 in
/-- a slice of elements that came in -/
theorem open_torns {base0 : Nat} {v : Value} {d : DataW H} {p : List MemPlace} (hval : Value.okWide Try.prog W .any base0 33 v) (h : DataW.Trod enc Try.prog W base (fun _ => true) held 33 v d p) :
    ∃ a n c ts, v = .slice a n c ∧ Ts (Old W) W a n c ts := by
  obtain ⟨a1, n1, c1, rfl⟩ := okWide_slice Try.underlying33 hval
  obtain ⟨fuel, hf⟩ := h
  obtain ⟨a, n, c, l, hcs, h1⟩ := torns_of_trod hf
  simp [Value.cells] at hcs
  obtain ⟨rfl, rfl, rfl⟩ := hcs
  exact ⟨_, _, _, l, rfl, h1⟩
set_option maxRecDepth 100000 in
theorem op_of_trod {fuel : Nat} {cs : List Value} {x : DataW H × List MemPlace} (h : DataW.trod enc Try.prog W base (fun _ => true) held fuel 35 cs = some x) : ∃ m : OM, cs = m.cells ∧ OOk (Old W) W m := by
  obtain ⟨ys, n, _, _, hlen, hyl, hf⟩ := DataW.trod_struct Try.underlying35 h
  rw [cells5o] at hlen
  match cs, hlen with
  | [c0, c1, c2, c3, c4], _ =>
    match ys, hyl with
    | [y0, y1, y2, y3, y4], _ =>
      have h0 : DataW.trod enc Try.prog W base (fun _ => true) held n 3 [c0] = some y0 := hf 0 _ rfl
      have h1 : DataW.trod enc Try.prog W base (fun _ => true) held n 3 [c1] = some y1 := hf 1 _ rfl
      have h2 : DataW.trod enc Try.prog W base (fun _ => true) held n 3 [c2] = some y2 := hf 2 _ rfl
      have h3 : DataW.trod enc Try.prog W base (fun _ => true) held n 32 [c3] = some y3 := hf 3 _ rfl
      have h4 : DataW.trod enc Try.prog W base (fun _ => true) held n 33 [c4] = some y4 := hf 4 _ rfl
      obtain ⟨i0, e0, _, w0⟩ := DataW.trod_int Try.underlying3 h0
      obtain ⟨i1, e1, _, w1⟩ := DataW.trod_int Try.underlying3 h1
      obtain ⟨i2, e2, _, w2⟩ := DataW.trod_int Try.underlying3 h2
      obtain ⟨ba, bn, bc, b, e3, hB⟩ := bytes_of_trod h3
      obtain ⟨la, ln, lc, l, e4, hT⟩ := torns_of_trod h4
      cases e0; cases e1; cases e2; cases e3; cases e4
      exact ⟨⟨i0, i1, i2, ba, bn, bc, b, la, ln, lc, l⟩, rfl, bounds_i64 w0, bounds_i64 w1, bounds_i64 w2, hB, hT⟩
set_option maxRecDepth 100000 in
/-- a slice of operations that came in -/
theorem open_ops {base0 : Nat} {v : Value} {d : DataW H} {p : List MemPlace} (hval : Value.okWide Try.prog W .any base0 22 v) (h : DataW.Trod enc Try.prog W base (fun _ => true) held 22 v d p) :
    ∃ a n c ms, v = .slice a n c ∧ Ops (Old W) W a n c ms := by
  obtain ⟨a1, n, c, rfl⟩ := okWide_slice Try.underlying22 hval
  obtain ⟨fuel, hf⟩ := h
  rcases Go.Deep.open_slice Try.underlying22 hf with ⟨hcs, hx⟩ | ⟨a, n', c', m, fu, D, Pl, hcs, _, hl, hm, hmm, hx, hi⟩
  · simp [Value.cells] at hcs
    obtain ⟨rfl, rfl, rfl⟩ := hcs
    exact ⟨none, 0, 0, [], rfl, rfl, Sl.empty _ _ _ _ _ (Nat.zero_le _) (fun _ => rfl), fun _ h => by cases h⟩
  · simp [Value.cells] at hcs
    obtain ⟨rfl, rfl, rfl⟩ := hcs
    simp only [if_true] at hmm
    have hex : ∀ i, i < n → ∃ x : OM, (∀ j u, x.cells[j]? = some u → W.cell? (a.add (i * 5 + j)) = some u) ∧ OOk (Old W) W x := by
      intro i hin
      obtain ⟨cs', hc, ht⟩ := hi i (by omega)
      rw [cells5o] at hc
      obtain ⟨_, hlen, hat⟩ := World.cells?_some hc
      obtain ⟨x, rfl, hx⟩ := op_of_trod ht
      refine ⟨x, fun j u hu => ?_, hx⟩
      have hj : j < 5 := by have := (List.getElem?_eq_some_iff.1 hu).1; rwa [OM.cells_len] at this
      rw [← Go.Deep.add_add, hat j hj, hu]
    refine ⟨some a, n, c, (List.range n).attach.map fun i => (hex i.1 (List.mem_range.1 i.2)).choose, rfl, by simp, Sl.of_cells (by decide) (by rw [ocells_len]; simp) hl hm fun j u hu => ?_, fun x hx => ?_⟩
    · have hjl : j < n * 5 := by
        have := (List.getElem?_eq_some_iff.1 hu).1
        rw [ocells_len] at this
        simpa using this
      have e : j = j / 5 * 5 + j % 5 := by omega
      have hi6 : j / 5 < n := by omega
      rw [e] at hu ⊢
      rw [ocells_get _ (j / 5) (j % 5) (by simpa using hi6) (by omega)] at hu
      simp only [List.getElem_map, List.getElem_attach, List.getElem_range] at hu
      exact (hex (j / 5) hi6).choose_spec.1 _ _ hu
    · obtain ⟨i, _, rfl⟩ := List.mem_map.1 hx
      exact (hex i.1 (List.mem_range.1 i.2)).choose_spec.2
end
end Go.Proofs.Ytbnodhcgdgcebaa

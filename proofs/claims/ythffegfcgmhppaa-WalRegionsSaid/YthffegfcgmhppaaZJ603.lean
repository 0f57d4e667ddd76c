/-
  Texts U1, U2, U5, UE, W0, W3, W4, W6, W9, UA, L0, L1, L2, L6, L5, one behind the other.
-/
import Derived.WalkKit
import Derived.WalkSpells
import Derived.WalkLawsBesides
import Derived.Laws.AppendOwn
import Derived.Laws.OwnMore
import Derived.Deep.AppendSrc
import Derived.Deep.MidRow
import Derived.Lib.Hide
import GoSem.Claim
import Derived.Orders
import Derived.Tactics
import Derived.Maps.RangeRun
import Derived.Maps.Range
import Derived.Maps.OwnOps
import Derived.Maps.RangeWalk
import Derived.Deep.Cut
import Derived.Deep.RegionWith
import Derived.Deep.DrawnRows
import Derived.StillTailTactics
import Derived.Carry
import Derived.Laws.CopyOwn
import Derived.Lib.AppendZerosOnto
import Derived.Deep.QuietTactic
import Derived.BigQuiet
import Derived.Laws.BytesString
import Derived.Laws.AppendOwnNone
import Derived.ProofKit
import Derived.OpenShut
import Derived.Deep.Slices
import Derived.Deep.Fields
import Derived.JoinedCond
import Derived.Laws.ShiftsVarLaws
import Derived.Laws.BitsAllLaws
import Derived.Test.YthffegfcgmhppaaRows
import Derived.Test.YthffegfcgmhppaaZJ602
namespace Go.Proofs.Ythffegfcgmhppaa
open Go.ChangeShapes Go.WideShapes Go.ChangeAt Go.RowKit
set_option linter.unusedSimpArgs false
set_option linter.unusedVariables false
theorem own : ownKnob Try.prog.godebug = none := by kernel_rfl
theorem laidOut : laidOutB Try.prog = true := by kernel_rfl
theorem cells1b : Try.prog.cellsOf 5 = 1 := by kernel_rfl
theorem cells1i : Try.prog.cellsOf 3 = 1 := by kernel_rfl
theorem cells3t : Try.prog.cellsOf 96 = 3 := by kernel_rfl
/-- numbers that fit -/
def Ok64 (l : List Int) : Prop := ∀ x ∈ l, -9223372036854775808 ≤ x ∧ x ≤ 9223372036854775807
/-- an operation of the laws -/
structure OM where
  kind : Int
  k : Int
  n : Int
  ba : Option Addr
  bn : Nat
  bc : Nat
  b : List UInt8
  la : Option Addr
  ln : Nat
  lc : Nat
  l : List TM
def OM.cells (m : OM) : List Value := [.int .i64 m.kind, .int .i64 m.k, .int .i64 m.n, .slice m.ba m.bn m.bc, .slice m.la m.ln m.lc]
theorem OM.cells_len (m : OM) : m.cells.length = 5 := rfl
def OOk (D : Nat → Prop) (w : World) (m : OM) : Prop := (-9223372036854775808 ≤ m.kind ∧ m.kind ≤ 9223372036854775807) ∧ (-9223372036854775808 ≤ m.k ∧ m.k ≤ 9223372036854775807) ∧ (-9223372036854775808 ≤ m.n ∧ m.n ≤ 9223372036854775807) ∧ Bs D w m.ba m.bn m.bc m.b ∧ Ts D w m.la m.ln m.lc m.l
def ocells (ms : List OM) : List Value := ms.flatMap OM.cells
theorem ocells_len (ms : List OM) : (ocells ms).length = ms.length * 5 := by
  unfold ocells
  induction ms with
  | nil => rfl
  | cons m r ih => rw [List.flatMap_cons, List.length_append, OM.cells_len, ih, List.length_cons]; omega
theorem tcells_len (ts : List TM) : (tcells ts).length = ts.length * 3 := by
  unfold tcells
  induction ts with
  | nil => rfl
  | cons m r ih => rw [List.flatMap_cons, List.length_append, ih, List.length_cons, List.length_cons, List.length_cons, List.length_cons, List.length_nil]; omega
theorem ocells_get (ms : List OM) (i j : Nat) (hi : i < ms.length) (hj : j < 5) : (ocells ms)[i * 5 + j]? = ms[i].cells[j]? := by
  unfold ocells
  induction ms generalizing i with
  | nil => simp at hi
  | cons m r ih =>
    rw [List.flatMap_cons]
    cases i with
    | zero =>
      rw [List.getElem?_append_left (by rw [OM.cells_len]; omega), Nat.zero_mul, Nat.zero_add]
      rfl
    | succ i =>
      rw [List.getElem?_append_right (by rw [OM.cells_len]; omega), show (i + 1) * 5 + j - m.cells.length = i * 5 + j by rw [OM.cells_len]; omega, ih i (by simpa using hi)]
      rfl
/-- a slice of operations -/
def Ops (D : Nat → Prop) (w : World) (a : Option Addr) (n c : Nat) (ms : List OM) : Prop := ms.length = n ∧ Sl D w a n c (ocells ms) 5 ∧ ∀ m ∈ ms, OOk D w m
/-- the blocks that were there -/
def Old (W : World) (b : Nat) : Prop := b < W.heap.size
theorem Sl.of_cells {W : World} {ad : Addr} {n c : Nat} {xs : List Value} {size : Nat} (hz : 0 < size) (hl : xs.length = n * size) (hn : n ≤ c) (hm : c ≤ maxLen) (hc : ∀ j u, xs[j]? = some u → W.cell? (ad.add j) = some u) : Sl (Old W) W (some ad) n c xs size := by
  refine ⟨hl, hn, hm, (fun h => by cases h), fun hp => ?_⟩
  obtain ⟨ab, ao, spot⟩ := ad
  have h0 : xs[0]? = some (xs[0]'(by rw [hl]; exact Nat.mul_pos hp hz)) := List.getElem?_eq_getElem _
  have hspot : spot = none := by simpa [Addr.add] using World.cell?_spot (hc 0 _ h0)
  subst hspot
  have hr : W.rangeAt ab ao xs := fun j u hu => by have := hc j u hu; rwa [Addr.add_mid] at this
  exact ⟨ab, ao, range_lt hr (by rw [hl]; exact Nat.mul_pos hp hz), rfl, hr⟩
section
variable {H : Type} {enc : TypeId × Value → H} {W : World} {base : Nat} {held : Bool}
theorem ints_of_trod {fuel : Nat} {cs : List Value} {x : DataW H × List MemPlace} (h : DataW.trod enc Try.prog W base (fun _ => true) held fuel 47 cs = some x) : ∃ a n c l, cs = [.slice a n c] ∧ Is (Old W) W a n c l ∧ Ok64 l := by
  rcases open_ints Try.underlying47 Try.underlying3 cells1i h with ⟨hcs, hx⟩ | ⟨a, n, c, zs, hcs, _, hl, hm, hz, hx, hcell, hwz⟩
  · exact ⟨none, 0, 0, [], hcs, ⟨rfl, Sl.empty _ _ _ _ _ (Nat.zero_le _) (fun _ => rfl)⟩, fun _ h => by cases h⟩
  · simp only [if_true] at hz
    refine ⟨some a, n, c, zs.take n, hcs, ⟨by rw [List.length_take]; omega, Sl.of_cells (by decide) (by rw [ivals_len, List.length_take]; omega) hl hm fun j u hu => ?_⟩, fun x hx => bounds_i64 (hwz x (List.mem_of_mem_take hx))⟩
    rw [ivals_take, List.getElem?_take] at hu
    split at hu
    · rename_i hj
      have hjz : j < zs.length := by omega
      rw [hcell j hjz]
      rw [← hu]
      simp [ivals, List.getD, hjz]
    · cases hu
theorem bytes_of_trod {fuel : Nat} {cs : List Value} {x : DataW H × List MemPlace} (h : DataW.trod enc Try.prog W base (fun _ => true) held fuel 32 cs = some x) : ∃ a n c l, cs = [.slice a n c] ∧ Bs (Old W) W a n c l := by
  rcases open_ints Try.underlying32 Try.underlying5 cells1b h with ⟨hcs, hx⟩ | ⟨a, n, c, zs, hcs, _, hl, hm, hz, hx, hcell, hwz⟩
  · exact ⟨none, 0, 0, [], hcs, rfl, Sl.empty _ _ _ _ _ (Nat.zero_le _) (fun _ => rfl)⟩
  · simp only [if_true] at hz
    refine ⟨some a, n, c, (zs.take n).map fun n => UInt8.ofNat n.toNat, hcs, by simp; omega, Sl.of_cells (by decide) (by rw [vals_len]; simp; omega) hl hm fun j u hu => ?_⟩
    have hj : j < n := by
      have := (List.getElem?_eq_some_iff.1 hu).1
      rw [vals_len] at this
      simp at this
      omega
    have hjz : j < zs.length := by omega
    have hb := bounds_u8 (hwz _ (List.getElem_mem hjz))
    rw [hcell j hjz, ← hu]
    simp only [vals, List.map_map, List.getElem?_map, List.getElem?_take, if_pos hj, List.getElem?_eq_getElem hjz, Option.map_some, Function.comp, List.getD, Option.getD_some]
    congr 2
    simp only [UInt8.toNat_ofNat']
    omega
set_option maxRecDepth 100000 in
theorem torn_of_trod {fuel : Nat} {cs : List Value} {x : DataW H × List MemPlace} (h : DataW.trod enc Try.prog W base (fun _ => true) held fuel 96 cs = some x) : ∃ m : TM, cs = [.int .i64 m.sector, .int .i64 m.writes, .int .i64 m.bytes] ∧ TOk m := by
  obtain ⟨ys, n, _, _, hlen, hyl, hf⟩ := DataW.trod_struct Try.underlying96 h
  rw [cells3t] at hlen
  match cs, hlen with
  | [c0, c1, c2], _ =>
    match ys, hyl with
    | [y0, y1, y2], _ =>
      have h0 : DataW.trod enc Try.prog W base (fun _ => true) held n 3 [c0] = some y0 := hf 0 _ rfl
      have h1 : DataW.trod enc Try.prog W base (fun _ => true) held n 3 [c1] = some y1 := hf 1 _ rfl
      have h2 : DataW.trod enc Try.prog W base (fun _ => true) held n 3 [c2] = some y2 := hf 2 _ rfl
      obtain ⟨i0, e0, _, w0⟩ := DataW.trod_int Try.underlying3 h0
      obtain ⟨i1, e1, _, w1⟩ := DataW.trod_int Try.underlying3 h1
      obtain ⟨i2, e2, _, w2⟩ := DataW.trod_int Try.underlying3 h2
      cases e0; cases e1; cases e2
      exact ⟨⟨i0, i1, i2⟩, rfl, bounds_i64 w0⟩
set_option maxRecDepth 100000 in
theorem torns_of_trod {fuel : Nat} {cs : List Value} {x : DataW H × List MemPlace} (h : DataW.trod enc Try.prog W base (fun _ => true) held fuel 51 cs = some x) : ∃ a n c ts, cs = [.slice a n c] ∧ Ts (Old W) W a n c ts := by
  rcases Go.Deep.open_slice Try.underlying51 h with ⟨hcs, hx⟩ | ⟨a, n, c, m, fu, D, Pl, hcs, _, hl, hm, hmm, hx, hi⟩
  · exact ⟨none, 0, 0, [], hcs, rfl, Sl.empty _ _ _ _ _ (Nat.zero_le _) (fun _ => rfl), fun _ h => by cases h⟩
  · simp only [if_true] at hmm
    have hex : ∀ i, i < n → ∃ x : TM, (∀ j u, [Value.int .i64 x.sector, .int .i64 x.writes, .int .i64 x.bytes][j]? = some u → W.cell? (a.add (i * 3 + j)) = some u) ∧ TOk x := by
      intro i hin
      obtain ⟨cs', hc, ht⟩ := hi i (by omega)
      rw [cells3t] at hc
      obtain ⟨_, hlen, hat⟩ := World.cells?_some hc
      obtain ⟨x, rfl, hx⟩ := torn_of_trod ht
      refine ⟨x, fun j u hu => ?_, hx⟩
      have hj : j < 3 := (List.getElem?_eq_some_iff.1 hu).1
      rw [← Go.Deep.add_add, hat j hj, hu]
    refine ⟨some a, n, c, (List.range n).attach.map fun i => (hex i.1 (List.mem_range.1 i.2)).choose, hcs, by simp, Sl.of_cells (by decide) (by rw [tcells_len]; simp) hl hm fun j u hu => ?_, fun x hx => ?_⟩
    · have hjl : j < n * 3 := by
        have := (List.getElem?_eq_some_iff.1 hu).1
        rw [tcells_len] at this
        simpa using this
      have e : j = j / 3 * 3 + j % 3 := by omega
      have hi6 : j / 3 < n := by omega
      rw [e] at hu ⊢
      rw [tcells_get _ (j / 3) (j % 3) (by simpa using hi6) (by omega)] at hu
      simp only [List.getElem_map, List.getElem_attach, List.getElem_range] at hu
      exact (hex (j / 3) hi6).choose_spec.1 _ _ hu
    · obtain ⟨i, _, rfl⟩ := List.mem_map.1 hx
      exact (hex i.1 (List.mem_range.1 i.2)).choose_spec.2
set_option maxRecDepth 100000 in
/-- a slice of elements that came in -/
theorem open_torns {base0 : Nat} {v : Value} {d : DataW H} {p : List MemPlace} (hval : Value.okWide Try.prog W .any base0 51 v) (h : DataW.Trod enc Try.prog W base (fun _ => true) held 51 v d p) :
    ∃ a n c ts, v = .slice a n c ∧ Ts (Old W) W a n c ts := by
  obtain ⟨a1, n1, c1, rfl⟩ := okWide_slice Try.underlying51 hval
  obtain ⟨fuel, hf⟩ := h
  obtain ⟨a, n, c, l, hcs, h1⟩ := torns_of_trod hf
  simp [Value.cells] at hcs
  obtain ⟨rfl, rfl, rfl⟩ := hcs
  exact ⟨_, _, _, l, rfl, h1⟩
end
end Go.Proofs.Ythffegfcgmhppaa
namespace Go.Proofs.Ythffegfcgmhppaa
open Go.RowKit
set_option linter.unusedSimpArgs false
set_option linter.unusedVariables false
def Dwr7 : List (Option Tmp) := [some 32, some 33, some 34, some 35, some 36, some 37, some 38, some 39, some 40, some 41, some 42, some 43, some 44, some 45, some 46, some 47, some 48, some 49, some 50, some 51, some 52, some 53]
def Lwr7 : List (List Nat) := [[], [], [], [1, 2], [3], [4], [], [6], [5, 7], [], [], [9, 10], [11], [12], [13], [], [], [15, 16], [17], [18], [14, 19], [0, 8, 20]]
theorem Ops.kept {D S : Nat → Prop} {w w' : World} {a : Option Addr} {n c : Nat} {ms : List OM} (h : Ops D w a n c ms) (hk : Kept S w w') (hd : ∀ b, b < w.heap.size → D b → ¬ S b) : Ops D w' a n c ms :=
  ⟨h.1, h.2.1.kept (by decide) hk hd, fun m hm => ⟨(h.2.2 m hm).1, (h.2.2 m hm).2.1, (h.2.2 m hm).2.2.1, (h.2.2 m hm).2.2.2.1.kept hk hd, (h.2.2 m hm).2.2.2.2.kept hk hd⟩⟩
theorem Ops.at {D : Nat → Prop} {w : World} {a : Option Addr} {n c : Nat} {ms : List OM} (h : Ops D w a n c ms) (hp : 0 < n) : ∃ b off, D b ∧ b < w.heap.size ∧ a = some ⟨b, off, none⟩ ∧ ∀ (i : Nat) (hi : i < ms.length), w.rangeAt b (off + i * 5) ms[i].cells := by
  obtain ⟨h1, ⟨h2, h3, h4, h5, h6⟩, h7⟩ := h
  obtain ⟨b, off, hD, ha, hr⟩ := h6 hp
  refine ⟨b, off, hD, range_lt hr (by omega), ha, fun i hi j v hv => ?_⟩
  have hj : j < 5 := (List.getElem?_eq_some_iff.1 hv).1
  rw [Nat.add_assoc]
  exact hr (i * 5 + j) v (by rw [ocells_get ms i j hi hj]; exact hv)
theorem burn_mk (S : List (List (List UInt8))) (on : Bool) : DM.burn ⟨S, on, 0⟩ = ⟨S, on, 0⟩ := rfl
theorem write_on {d : DM} {k : Nat} {l : List UInt8} (h : d.fuse = 0) : (d.write k l).on = d.on := by unfold DM.write; rw [h, burn_mk]
theorem write_fuse {d : DM} {k : Nat} {l : List UInt8} (h : d.fuse = 0) : (d.write k l).fuse = d.fuse := by unfold DM.write; rw [h, burn_mk]
theorem write_len (d : DM) (k : Nat) (l : List UInt8) : (d.write k l).S.length = d.S.length := by unfold DM.write; rw [DM.burn_S]; simp
theorem flush_on {d : DM} (h : d.fuse = 0) : d.flush.on = d.on := by unfold DM.flush; rw [h, burn_mk]
theorem flush_fuse {d : DM} (h : d.fuse = 0) : d.flush.fuse = d.fuse := by unfold DM.flush; rw [h, burn_mk]
theorem flush_len (d : DM) : d.flush.S.length = d.S.length := by unfold DM.flush; rw [DM.burn_S]; simp
end Go.Proofs.Ythffegfcgmhppaa
namespace Go.Proofs.Ythffegfcgmhppaa
open Go.RowKit
set_option linter.unusedSimpArgs false
set_option linter.unusedVariables false
theorem tcells_app (l m : List TM) : tcells (l ++ m) = tcells l ++ tcells m := by simp [tcells]
theorem tcells_one (l : List TM) : ∀ u ∈ tcells l, u.oneCell' = true := by
  intro u hu
  obtain ⟨t, _, ht⟩ := List.mem_flatMap.1 hu
  simp only [List.mem_cons, List.not_mem_nil, or_false] at ht
  rcases ht with rfl | rfl | rfl <;> rfl
theorem info67 : (Try.prog.info? 96).map (fun i => (i.zero, i.size, i.bytes)) = some (some (.agg #[.int .i64 0, .int .i64 0, .int .i64 0]), 3, 24) := by kernel_rfl
theorem tsize67 : (Value.agg #[.int .i64 0, .int .i64 0, .int .i64 0]).cells.size = 3 := rfl
/-- a slice of elements of one's own -/
def accO (v : Value) (ts : List TM) : Obj := ⟨fun B w => ∃ k, Own w 96 3 k v ts.length (tcells ts) ∧ (∀ j, k = some j → B j) ∧ ∀ t ∈ ts, TOk t, fun {B S w w'} h hk hs => by
  obtain ⟨k, h1, h2, h3⟩ := h
  exact ⟨k, h1.kept hk (fun j hj => hs j (h1.lt j hj) (h2 j hj)), h2, h3⟩⟩
theorem Lv.acc0 {w0 w : World} {L : List Obj} (h : Lv w0 w L) : Lv w0 w (accO (.slice none 0 0) [] :: L) :=
  h.cons (Below.refl _ _) (B := fun _ => False) ⟨none, Own.nil _ _ _, (fun _ h => by cases h), fun _ h => (by cases h)⟩ (fun _ h => h.elim)
theorem Lv.accTorn {w0 w : World} {L : List Obj} (h : Lv w0 w L) {i : Nat} {v : Value} {ts : List TM} (hi : L[i]? = some (accO v ts)) : Lv w0 w (L.set i (tornO v ts)) := by
  refine h.weaken hi (fun B hB => ?_)
  obtain ⟨k, h1, h2, h3⟩ := hB
  obtain ⟨a, c, hv, hs⟩ := h1.sl
  exact ⟨a, c, hv, rfl, hs.dom (fun b hb => h2 b hb), h3⟩
theorem wpList_acc {w0 w : World} {L : List Obj} (h : Lv w0 w L) {i : Nat} {v : Value} {ts : List TM} (hi : L[i]? = some (accO v ts)) {ops : Array Oper} {rest : List Oper} {o : Oper} {a : Act} {Q : Exit → Act → World → Prop} (hgd : o.guard = none) (s x : Operand)
    (ho : o.op = .call { callee := .builtin .append, args := #[s, x], argTypes := #[51, 51] }) (hs : a.eval s = v) (us : List TM) (hus : ∀ t ∈ us, TOk t) (hx : Src Try.prog 3 51 (a.eval x) us.length (tcells us) w) (hb : ts.length + us.length ≤ 1000000)
    (K : ∀ v' w', Lv w0 w' (L.set i (accO v' (ts ++ us))) → wpList Try.prog ops Q rest (a.put o.dst v') w') : wpList Try.prog ops Q (o :: rest) a w := by
  obtain ⟨i0, hi0, hz0, hz1, hz2⟩ := info_parts info67
  obtain ⟨B, ⟨k, h1, h2, h3⟩, hlt, _, hset⟩ := h.get hi
  refine wpList_append_any w hgd s x _ _ ho 96 i0 _ 3 24 Try.underlying51 hi0 hz0 hz1 hz2 tsize67 k v ts.length (tcells ts) hs h1 us.length (tcells us) hx (by unfold maxLen; omega) (by omega) ?_
  intro k' v' w' ho' hf' hK' hn'
  refine K v' w' (hset w' _ (fun j => k' = some j) ⟨k', ?_, fun _ h => h, fun t ht => ?_⟩ (hK'.mono (fun j _ hj => h2 j hj)) (fun j hj => (hf' j hj).imp (fun e => h2 j e) id) (fun j hj => ho'.lt j hj))
  · rw [List.length_append, tcells_app]; exact ho'
  · rcases List.mem_append.1 ht with ht | ht
    · exact h3 t ht
    · exact hus t ht
theorem run_bld67 (x y z : Value) (W : World) : (Instr.buildSlice 51 1 #[(0, .agg #[x, y, z])]).run Try.prog W = .ok (.slice (some ⟨W.heap.size, 0, none⟩) 1 1) (W.alloc (.cells #[x, y, z] 96)) := by kernel_rfl
theorem src_new {w : World} {g : Nat} {us : List TM} (hg : w.heap[g]? = some (.cells (tcells us).toArray 96 (0, 0))) : Src Try.prog 3 51 (.slice (some ⟨g, 0, none⟩) us.length us.length) us.length (tcells us) w :=
  Src.ofSlice w Try.underlying51 ⟨g, 0, none⟩ us.length us.length (tcells us) (tcells_len us) (fun j u hu => by rw [Addr.add_mid, Nat.zero_add, cell_of_row w g j _ _ _ hg]; simpa using hu) (tcells_one us)
theorem tcells_take (ts : List TM) (n : Nat) : tcells (ts.take n) = (tcells ts).take (n * 3) := by
  unfold tcells
  induction ts generalizing n with
  | nil => simp
  | cons t r ih =>
    cases n with
    | zero => simp
    | succ n =>
      rw [List.take_succ_cons, List.flatMap_cons, List.flatMap_cons, ih, show (n + 1) * 3 = n * 3 + 1 + 1 + 1 by omega]
      rfl
theorem Ts.upto {D : Nat → Prop} {w : World} {a : Option Addr} {n c : Nat} {ts : List TM} (h : Ts D w a n c ts) (F : Nat) (hF : F ≤ n) : Ts D w a F c (ts.take F) := by
  obtain ⟨h1, ⟨h2, h3, h4, h5, h6⟩, h7⟩ := h
  refine ⟨by rw [List.length_take]; omega, ⟨by rw [tcells_len, List.length_take]; omega, by omega, h4, h5, fun hp => ?_⟩, fun t ht => h7 t (List.mem_of_mem_take ht)⟩
  obtain ⟨b, off, hD, ha, hr⟩ := h6 (by omega)
  refine ⟨b, off, hD, ha, fun j v hv => hr j v ?_⟩
  rw [tcells_take, List.getElem?_take] at hv
  split at hv
  · exact hv
  · cases hv
/-- what Restart leaves of a sector -/
theorem restart_get (d : DM) (ts : List TM) (k : Nat) (hk : k < d.S.length) (hk2 : k < (d.restart ts).S.length) : lastB ((d.restart ts).S[k]'hk2) = match firstOf ts k with | some t => surv d.S[k] t.writes t.bytes | none => dur d.S[k] := by
  have e : (d.restart ts).S[k]'hk2 = [dur ((DM.torn d.S ts)[k]'(by rw [DM.torn_len]; exact hk))] := by
    simp only [DM.restart, List.getElem_map]
  rw [e, torn_get d.S ts k hk]
  cases firstOf ts k <;> rfl
theorem restart_len (d : DM) (ts : List TM) : (d.restart ts).S.length = d.S.length := by simp [DM.restart, DM.torn_len]
theorem restart_last (d : DM) (ts us : List TM) (h : ∀ k, k < d.S.length → firstOf ts k = firstOf us k) : (d.restart ts).S.map lastB = (d.restart us).S.map lastB := by
  apply List.ext_getElem (by simp [restart_len])
  intro k h1 h2
  have hk : k < d.S.length := by simpa [restart_len] using h1
  rw [List.getElem_map, List.getElem_map, restart_get d ts k hk, restart_get d us k hk, h k hk]
end Go.Proofs.Ythffegfcgmhppaa
namespace Go.Proofs.Ythffegfcgmhppaa
open Go.RowKit
set_option linter.unusedSimpArgs false
set_option linter.unusedVariables false
/-- a row of one's own, of things of one cell, from any place of its block on -/
def Rw (w : World) (e : TypeId) (k : Option Nat) (v : Value) (n : Nat) (xs : List Value) : Prop :=
  xs.length = n ∧ ((k = none ∧ v = .slice none 0 0 ∧ n = 0) ∨
    ∃ g off cap cur, k = some g ∧ v = .slice (some ⟨g, off, none⟩) n cap ∧ w.heap[g]? = some (.cells cur e (0, 0)) ∧ n ≤ cap ∧ cap ≤ maxLen ∧ off + cap = cur.size ∧ (cur.toList.drop off).take n = xs)
theorem Rw.nil (w : World) (e : TypeId) : Rw w e none (.slice none 0 0) 0 [] := ⟨rfl, .inl ⟨rfl, rfl, rfl⟩⟩
theorem Rw.lt {w : World} {e : TypeId} {k : Option Nat} {v : Value} {n : Nat} {xs : List Value} (h : Rw w e k v n xs) : ∀ j, k = some j → j < w.heap.size := by
  intro j hj
  rcases h.2 with ⟨rfl, _⟩ | ⟨g, off, cap, cur, rfl, _, hg, _⟩
  · cases hj
  · cases hj; exact (Array.getElem?_eq_some_iff.1 hg).1
theorem Rw.kept {S : Nat → Prop} {w w' : World} {e : TypeId} {k : Option Nat} {v : Value} {n : Nat} {xs : List Value} (h : Rw w e k v n xs) (hk : Kept S w w') (hs : ∀ j, k = some j → ¬ S j) : Rw w' e k v n xs := by
  refine ⟨h.1, ?_⟩
  rcases h.2 with hn | ⟨g, off, cap, cur, rfl, rfl, hg, rest⟩
  · exact .inl hn
  · exact .inr ⟨g, off, cap, cur, rfl, rfl, hk.heap hg (hs g rfl), rest⟩
/-- it reads as its cells -/
theorem Rw.at {w : World} {e : TypeId} {k : Option Nat} {v : Value} {n : Nat} {xs : List Value} (h : Rw w e k v n xs) (hp : 0 < n) : ∃ g off cap, k = some g ∧ v = .slice (some ⟨g, off, none⟩) n cap ∧ n ≤ cap ∧ cap ≤ 9223372036854775807 ∧ g < w.heap.size ∧ ∀ j (hj : j < xs.length), w.cell? ⟨g, off + j, none⟩ = some xs[j] := by
  obtain ⟨hl, h⟩ := h
  rcases h with ⟨_, _, rfl⟩ | ⟨g, off, cap, cur, rfl, rfl, hg, h1, h2, h3, h4⟩
  · omega
  · refine ⟨g, off, cap, rfl, rfl, h1, h2, (Array.getElem?_eq_some_iff.1 hg).1, fun j hj => ?_⟩
    have hlen : j < n := by omega
    rw [show cur = cur.toList.toArray by simp] at hg
    rw [cell_of_row w g (off + j) _ _ _ hg]
    have e2 : xs[j]? = some xs[j] := List.getElem?_eq_getElem hj
    rw [← e2, ← h4, List.getElem?_take, if_pos hlen, List.getElem?_drop]
    simp
theorem Rw.one (w : World) (e : TypeId) (x : Value) : Rw (w.alloc (.cells #[x] e)) e (some w.heap.size) (.slice (some ⟨w.heap.size, 0, none⟩) 1 1) 1 [x] :=
  ⟨rfl, .inr ⟨w.heap.size, 0, 1, #[x], rfl, rfl, heap_new rfl, Nat.le_refl _, by decide, rfl, rfl⟩⟩
/-- cut short -/
theorem Rw.upto {w : World} {e : TypeId} {k : Option Nat} {a : Option Addr} {n c : Nat} {xs : List Value} (h : Rw w e k (.slice a n c) n xs) (m : Nat) (hm : m ≤ n) : Rw w e k (.slice a m c) m (xs.take m) := by
  obtain ⟨hl, h⟩ := h
  refine ⟨by rw [List.length_take]; omega, ?_⟩
  rcases h with ⟨rfl, e1, rfl⟩ | ⟨g, off, cap, cur, rfl, e1, hg, h1, h2, h3, h4⟩
  · cases e1
    obtain rfl : m = 0 := by omega
    exact .inl ⟨rfl, rfl, rfl⟩
  · cases e1
    refine .inr ⟨g, off, c, cur, rfl, rfl, hg, by omega, h2, h3, ?_⟩
    rw [← h4, List.take_take, Nat.min_eq_left hm]
/-- from a later place on -/
theorem Rw.from {w : World} {e : TypeId} {k : Option Nat} {g off n c : Nat} {xs : List Value} (h : Rw w e k (.slice (some ⟨g, off, none⟩) n c) n xs) (m : Nat) (hm : m ≤ n) : Rw w e k (.slice (some ⟨g, off + m, none⟩) (n - m) (c - m)) (n - m) (xs.drop m) := by
  obtain ⟨hl, h⟩ := h
  refine ⟨by rw [List.length_drop]; omega, ?_⟩
  rcases h with ⟨rfl, e1, rfl⟩ | ⟨g, off, cap, cur, rfl, e1, hg, h1, h2, h3, h4⟩
  · cases e1
  · cases e1
    refine .inr ⟨_, off + m, c - m, cur, rfl, rfl, hg, by omega, by omega, by omega, ?_⟩
    rw [← h4, List.drop_take, List.drop_drop]
section
variable {P : Program} (w : World)
theorem run_append_roomO (t tx ty e : TypeId) (i : TypeInfo) (ht : P.underlying t = some (.slice e)) (hi : P.info? e = some i) (hz : i.size = 1)
    (g off sLen sCap : Nat) (cur : Array Value) (hg : w.heap[g]? = some (.cells cur e (0, 0)))
    (x : Value) (m : Nat) (news : List Value) (hs : Src P 1 tx x m news w) (hroom : sLen + m ≤ sCap) (hfit : off + sLen + news.length ≤ cur.size) :
    (Builtin.append_ #[t, tx] ty #[.slice (some ⟨g, off, none⟩) sLen sCap, x]).run P w =
      .ok (.slice (some ⟨g, off, none⟩) (sLen + m) sCap) (w.setRow g (cur.toList.take (off + sLen) ++ news ++ cur.toList.drop (off + sLen + news.length)).toArray) := by
  have hst := run_storeCells_at P g (off + sLen) e news 0 cur w hg (by simpa using hfit) hs.one
  simp only [Nat.add_zero] at hst
  rcases hs.kind with ⟨e', hk⟩ | hk <;> simp [Builtin.append_, run_underlying ht, run_underlying hk, sizeOf, typeInfo, hi, hz, hs.len, hroom, hs.cells, Addr.add_mid, hst]
/-- append onto such a row -/
theorem run_append_rw (t tx ty e : TypeId) (i : TypeInfo) (z : Value) (bytes : Nat) (ht : P.underlying t = some (.slice e)) (hi : P.info? e = some i) (hz : i.zero = some z)
    (hsize : i.size = 1) (hby : i.bytes = bytes) (hzs : z.cells.size = 1) (k : Option Nat) (v : Value) (n : Nat) (xs : List Value) (hown : Rw w e k v n xs)
    (x : Value) (m : Nat) (news : List Value) (hs : Src P 1 tx x m news w) (h63 : n + m ≤ maxLen) (hbytes : (n + m) * bytes ≤ 140737488355328) :
    ∃ k' v' w', (Builtin.append_ #[t, tx] ty #[v, x]).run P w = .ok v' w' ∧ Rw w' e k' v' (n + m) (xs ++ news) ∧ (∀ j, k' = some j → k = some j ∨ w.heap.size ≤ j) ∧ Kept (fun j => k = some j) w w' := by
  subst hby
  have hsmall : n + m ≤ 9223372036854775807 := by simp only [maxLen] at h63; omega
  have hnl : news.length = m := by have := hs.newsLen; omega
  have hlen : (xs ++ news).length = n + m := by rw [List.length_append, hown.1, hnl]
  have grows : ∀ (b : Option Addr) (old : Nat), v = .slice b n old → old < n + m → (Builtin.firstCells i.size n (.slice b n old)).run P w.drew = .ok xs.toArray w.drew → ∃ k' v' w', (Builtin.append_ #[t, tx] ty #[v, x]).run P w = .ok v' w' ∧ Rw w' e k' v' (n + m) (xs ++ news) ∧ (∀ j, k' = some j → k = some j ∨ w.heap.size ≤ j) ∧ Kept (fun j => k = some j) w w' := by
    intro b old hv ho hf
    subst hv
    have hr := run_append_grow_src (P := P) w t tx ty e i z ht hi hz b n old xs hf x m news (hsize ▸ hs) ho (by omega) (growslice_fits (by omega) hbytes)
    have hge := grownCap_ge w (n + m) old e
    have hcm : grownCap w (n + m) old e ≤ maxLen := grownCap_le_maxLen w (n + m) old e h63
    refine ⟨some w.heap.size, _, _, hr, ⟨hlen, .inr ⟨w.heap.size, 0, _, _, rfl, rfl, heap_alloc_new w.drew _, hge, hcm, ?_, ?_⟩⟩, ?_, ?_⟩
    · simp only [Array.size_append, List.size_toArray, size_zeroCells, hzs, hlen]
      omega
    · simp only [Array.toList_append, List.drop_zero]
      rw [← hlen]
      exact List.take_left
    · intro j hj; cases hj; exact .inr (Nat.le_refl _)
    · exact (Kept.refl _ w).drew.alloc _
  have hown2 := hown
  rcases hown.2 with ⟨rfl, rfl, rfl⟩ | ⟨g, off, cap, cur, rfl, rfl, hg, hnc, hcm, hcs, htake⟩
  · have hx : xs = [] := List.eq_nil_of_length_eq_zero hown.1
    subst hx
    by_cases hm : m = 0
    · subst hm
      have hn : news = [] := List.eq_nil_of_length_eq_zero hnl
      subst hn
      refine ⟨none, .slice none 0 0, w, ?_, Rw.nil w e, (fun _ h => by cases h), Kept.refl _ _⟩
      have hc := hs.cells
      rcases hs.kind with ⟨e', hk⟩ | hk <;> simp [Builtin.append_, run_underlying ht, run_underlying hk, sizeOf, typeInfo, hi, hsize, hs.len, hc]
    · exact grows none 0 rfl (by omega) (run_firstCells_none w.drew i.size 0 0 0)
  · by_cases hroom : n + m ≤ cap
    · have hfit : off + n + news.length ≤ cur.size := by omega
      have hr := run_append_roomO (P := P) w t tx ty e i ht hi hsize g off n cap cur hg x m news hs hroom hfit
      have hcl : cur.toList.length = cur.size := by simp
      refine ⟨some g, _, _, hr, ⟨hlen, .inr ⟨g, off, cap, _, rfl, rfl, setRow_heap w g cur _ e _ hg, hroom, hcm, ?_, ?_⟩⟩, ?_, ?_⟩
      · simp only [List.size_toArray, List.length_append, List.length_take, List.length_drop, Array.length_toList]
        omega
      · have e1 : (cur.toList.take (off + n)).drop off = xs := by rw [List.drop_take, ← htake, show off + n - off = n by omega]
        simp only [List.append_assoc]
        rw [List.drop_append_of_le_length (by rw [List.length_take]; omega), e1, ← List.append_assoc, ← hlen]
        exact List.take_left
      · intro j hj; cases hj; exact .inl rfl
      · exact (Kept.refl (fun j => some g = some j) w).setRow (fun _ => rfl) _
    · refine grows _ cap rfl (by omega) (run_firstCells_some w.drew i.size n ⟨g, off, none⟩ n cap xs (by rw [hsize, hown.1]; omega) ?_)
      intro j u hu
      have hj : j < xs.length := (List.getElem?_eq_some_iff.1 hu).1
      obtain ⟨g', off', cap', e1, e2, _, _, _, hc⟩ := hown2.at (by have := hown.1; omega)
      cases e2
      rw [Addr.add_mid]
      have := hc j hj
      rw [List.getElem?_eq_getElem hj] at hu
      rw [← Option.some.inj hu]
      exact this
theorem wpList_append_rw {ops : Array Oper} {rest : List Oper} {o : Oper} {a : Act} {Q : Exit → Act → World → Prop} (hgd : o.guard = none) (s x : Operand) (t tx : TypeId)
    (ho : o.op = .call { callee := .builtin .append, args := #[s, x], argTypes := #[t, tx] })
    (e : TypeId) (i : TypeInfo) (z : Value) (bytes : Nat) (ht : P.underlying t = some (.slice e)) (hi : P.info? e = some i) (hz : i.zero = some z)
    (hsize : i.size = 1) (hby : i.bytes = bytes) (hzs : z.cells.size = 1) (k : Option Nat) (v : Value) (n : Nat) (xs : List Value) (hv : a.eval s = v) (hown : Rw w e k v n xs)
    (m : Nat) (news : List Value) (hs : Src P 1 tx (a.eval x) m news w) (h63 : n + m ≤ maxLen) (hbytes : (n + m) * bytes ≤ 140737488355328)
    (h : ∀ k' v' w', Rw w' e k' v' (n + m) (xs ++ news) → (∀ j, k' = some j → k = some j ∨ w.heap.size ≤ j) → Kept (fun j => k = some j) w w' → wpList P ops Q rest (a.put o.dst v') w') : wpList P ops Q (o :: rest) a w := by
  obtain ⟨k', v', w', hr, h2, h3, h4⟩ := run_append_rw (P := P) w t tx o.type e i z bytes ht hi hz hsize hby hzs k v n xs hown (a.eval x) m news hs h63 hbytes
  refine wpList_plain hgd fun K hK => ?_
  unfold Oper.wp execOp
  simp only [ho, resolve, invoke, builtin, Sem.run_bind, Sem.run_pure, Result.andThen_ok, List.map_toArray, List.map_cons, List.map_nil, hv, hr]
  exact hK _ _ (h k' v' w' h2 h3 h4)
end
/-- an element of it is stored -/
theorem Rw.set {w : World} {e : TypeId} {g off n c : Nat} {xs : List Value} (h : Rw w e (some g) (.slice (some ⟨g, off, none⟩) n c) n xs) (k : Nat) (hk : k < n) (u : Value) : Rw (w.setCell ⟨g, off + k, none⟩ u) e (some g) (.slice (some ⟨g, off, none⟩) n c) n (xs.set k u) := by
  obtain ⟨hl, h⟩ := h
  refine ⟨by rw [List.length_set]; exact hl, ?_⟩
  rcases h with ⟨e0, _⟩ | ⟨g', off', cap, cur, e0, e1, hg, h1, h2, h3, h4⟩
  · cases e0
  · cases e0; cases e1
    refine .inr ⟨_, off, c, _, rfl, rfl, heap_setCell_same w g (off + k) _ _ _ hg, h1, h2, by simpa using h3, ?_⟩
    apply List.ext_getElem?
    intro j
    rw [← h4]
    simp only [List.getElem?_take, List.getElem?_drop, List.getElem?_set]
    by_cases hj : j < n
    · simp only [if_pos hj]
      by_cases e : k = j
      · subst e
        have : off + k < cur.size := by omega
        simp [Array.getElem?_setIfInBounds, this, hj, List.length_take, List.length_drop]
        omega
      · rw [if_neg e]
        simp [Array.getElem?_setIfInBounds, e, hj]
    · simp only [if_neg hj]
      split
      · rename_i e; subst e
        exact absurd hk hj
      · rfl
end Go.Proofs.Ythffegfcgmhppaa
namespace Go.Proofs.Ythffegfcgmhppaa
/-- the bytes that are left, the error -/
structure RS where
  l : List UInt8
  e : Nat
def RS.fail (s : RS) (f : Nat) : RS := ⟨s.l, if s.e = 0 then f else s.e⟩
def rUint (s : RS) : Nat × RS := if s.e = 0 then ((fnum s.l 0 0).1, ⟨s.l.drop (fnum s.l 0 0).2.1, (fnum s.l 0 0).2.2⟩) else (0, s)
def rInt (s : RS) : Int × RS := (zag (rUint s).1, (rUint s).2)
def rBool (s : RS) : Bool × RS := if s.e = 0 then (match s.l with | [] => (false, ⟨[], 6⟩) | b :: r => (b.toNat == 1, ⟨r, if 1 < b.toNat then 7 else 0⟩)) else (false, s)
def rLen (s : RS) (most : Int) : Nat × RS := if most < 0 ∨ most < ((rUint s).1 : Int) then (0, (rUint s).2.fail 2) else rUint s
def rText (s : RS) (most : Int) : List UInt8 × RS := if (rLen s most).2.l.length < (rLen s most).1 then ([], (rLen s most).2.fail 6) else ((rLen s most).2.l.take (rLen s most).1, ⟨(rLen s most).2.l.drop (rLen s most).1, (rLen s most).2.e⟩)
def rIntsGo : Nat → List Int → RS → List Int × RS
  | 0, acc, s => (acc, s)
  | n + 1, acc, s => if (rInt s).2.e = 0 then rIntsGo n (acc ++ [(rInt s).1]) (rInt s).2 else ([], (rInt s).2)
def rInts (s : RS) (most : Int) : List Int × RS := rIntsGo (rLen s most).1 [] (rLen s most).2
theorem fnum_size : ∀ (l : List UInt8) (i acc : Nat), (fnum l i acc).2.1 ≤ i + l.length := by
  intro l
  induction l with
  | nil => intro i acc; simp [fnum]
  | cons b r ih =>
    intro i acc
    rw [fnum]
    split
    · simp
    · split
      · have := ih (i + 1) (acc + b.toNat % 128 * 128 ^ i); simp only [List.length_cons]; omega
      · split
        · simp
        · simp only [List.length_cons]; omega
theorem fnum_size_pos : ∀ (l : List UInt8) (i acc : Nat), (fnum l i acc).2.2 = 0 → i < (fnum l i acc).2.1 := by
  intro l
  induction l with
  | nil => intro i acc h; simp [fnum] at h
  | cons b r ih =>
    intro i acc h
    rw [fnum] at h ⊢
    split at h
    · simp at h
    · rename_i h1
      rw [if_neg h1]
      split at h
      · rename_i h2; rw [if_pos h2]; have := ih _ _ h; omega
      · rename_i h2
        rw [if_neg h2]
        split at h
        · simp at h
        · rename_i h3; rw [if_neg h3]; simp
theorem fnum_val (l : List UInt8) : (fnum l 0 0).1 < 18446744073709551616 := by
  rcases fnum_err l 0 0 with h | h | h
  · have hv : fnum l 0 0 = ((fnum l 0 0).1, (fnum l 0 0).2.1, 0) := by rw [Prod.ext_iff, Prod.ext_iff]; exact ⟨rfl, rfl, h⟩
    obtain ⟨n, r, _, hv, _, hn, _⟩ := fnum_ok l 0 0 _ _ hv (by omega)
    rw [hv]; simpa using hn
  · rw [h]; decide
  · rw [h]; decide
theorem rUint_val (s : RS) : (rUint s).1 < 18446744073709551616 := by
  unfold rUint
  split
  · exact fnum_val _
  · show 0 < 18446744073709551616
    omega
theorem rUint_err (s : RS) (h : s.e ≠ 0) : rUint s = (0, s) := by unfold rUint; rw [if_neg h]
theorem rUint_ok (s : RS) (h : s.e = 0) : rUint s = ((fnum s.l 0 0).1, ⟨s.l.drop (fnum s.l 0 0).2.1, (fnum s.l 0 0).2.2⟩) := by unfold rUint; rw [if_pos h]
theorem rUint_len (s : RS) : (rUint s).2.l.length ≤ s.l.length := by
  unfold rUint
  split
  · simp
  · exact Nat.le_refl _
theorem rUint_shorter (s : RS) (h : s.e = 0) (h2 : (rUint s).2.e = 0) : (rUint s).2.l.length < s.l.length := by
  rw [rUint_ok s h] at h2 ⊢
  simp only [List.length_drop] at h2 ⊢
  have h3 := fnum_size_pos _ _ _ h2
  have h4 := fnum_size s.l 0 0
  omega
theorem rInt_bd (s : RS) : -9223372036854775808 ≤ (rInt s).1 ∧ (rInt s).1 ≤ 9223372036854775807 := zag_bd _ (rUint_val s)
theorem rLen_len (s : RS) (most : Int) : (rLen s most).2.l.length ≤ s.l.length := by
  unfold rLen
  split
  · exact rUint_len s
  · exact rUint_len s
theorem rInt_ok (s : RS) (h : (rInt s).2.e = 0) : s.e = 0 := by
  unfold rInt at h
  by_cases he : s.e = 0
  · exact he
  · rw [rUint_err s he] at h; exact h
theorem rIntsGo_ok (n : Nat) : ∀ (acc : List Int) (s : RS), (∀ x ∈ acc, -9223372036854775808 ≤ x ∧ x ≤ 9223372036854775807) → ∀ x ∈ (rIntsGo n acc s).1, -9223372036854775808 ≤ x ∧ x ≤ 9223372036854775807 := by
  induction n with
  | zero => intro acc s h; exact h
  | succ n ih =>
    intro acc s h
    rw [rIntsGo]
    split
    · exact ih _ _ (fun x hx => by
        rcases List.mem_append.1 hx with hx | hx
        · exact h x hx
        · rw [List.mem_singleton.1 hx]; exact rInt_bd s)
    · intro x hx; cases hx
theorem rText_len (s : RS) (most : Int) : (rText s most).1.length ≤ s.l.length := by
  unfold rText
  split
  · simp
  · have := rLen_len s most
    simp only [List.length_take]
    omega
end Go.Proofs.Ythffegfcgmhppaa
namespace Go.Proofs.Ythffegfcgmhppaa
open Go.RowKit
theorem zig_pos (n : Int) (h : 0 ≤ n) : 2 * n = ((zig n : Nat) : Int) := by unfold zig; rw [if_neg (by omega)]; omega
theorem zig_neg (n : Int) (h : n < 0) : 2 * (-(n + 1)) + 1 = ((zig n : Nat) : Int) := by unfold zig; rw [if_pos h]; omega
theorem encI_len (n : Int) (h1 : -9223372036854775808 ≤ n) (h2 : n ≤ 9223372036854775807) : (encI n).length ≤ 10 := encU_len10 _ (zig_lt n h1 h2)
theorem encIs_len (l : List Int) (h : Ok64 l) : (l.flatMap encI).length ≤ 10 * l.length := by
  induction l with
  | nil => simp
  | cons x r ih =>
    have h1 := encI_len x (h x (by simp)).1 (h x (by simp)).2
    have h2 := ih (fun y hy => h y (by simp [hy]))
    simp only [List.flatMap_cons, List.length_append, List.length_cons]
    omega
theorem Ok64.take {l : List Int} (h : Ok64 l) (i : Nat) : Ok64 (l.take i) := fun x hx => h x (List.mem_of_mem_take hx)
theorem take_enc (l : List Int) (i : Nat) (h : i < l.length) : (l.take (i + 1)).flatMap encI = (l.take i).flatMap encI ++ encI l[i] := by
  rw [List.take_succ_eq_append_getElem h, List.flatMap_append]; simp
end Go.Proofs.Ythffegfcgmhppaa
namespace Go.Proofs.Ythffegfcgmhppaa
open Go.RowKit
set_option linter.unusedSimpArgs false
set_option linter.unusedVariables false
theorem Own.empty (w : World) : Own (w.alloc (.cells #[] 5)) 5 1 (some w.heap.size) (.slice (some ⟨w.heap.size, 0, none⟩) 0 0) 0 [] := Own.made w 5 1 #[] 0 (Nat.zero_le _) rfl
set_option maxRecDepth 100000 in
set_option maxHeartbeats 400000 in
theorem clone_any (D : Nat → Prop) (a : Option Addr) (n c : Nat) (l : List UInt8) (w : World) (hB : Bs D w a n c l) (hn : n ≤ 100000000000000) :
    Calls Try.prog 43 #[.slice a n c] w fun e w' => ∃ v, e = .returned v ∧ Made w v l w' := by
  obtain ⟨i0, hi, hz0, hz1, hz2⟩ := info_parts info5
  cases a with
  | none =>
    have ke := fun (w : World) => Lib.run_eql_slice_nil (P := Try.prog) w 32 5 none n c 0 0 Try.underlying32
    have h0 := hB.2.2.2.2.1 rfl
    have h1 := hB.2.2.1
    subst h0
    obtain rfl : n = 0 := by omega
    obtain rfl : l = [] := List.eq_nil_of_length_eq_zero hB.1
    clear hB
    go_enter Try.func43, Try.ntmps43
    go_wp2
    go_ret
    exact ⟨_, rfl, none, Own.nil _ _ _, (fun _ h => by cases h), Below.refl _ _⟩
  | some ad =>
    have HB := Lib.hid hB
    have HL := Lib.hid hB.1
    have ke := fun (w : World) => Lib.run_eql_slice_nil (P := Try.prog) w 32 5 (some ad) n c 0 0 Try.underlying32
    clear hB
    go_enter Try.func43, Try.ntmps43
    go_wp2_with (at_builtin; refine wpList_append_any _ rfl (.tmp 5) (.tmp 6) 32 32 rfl 5 i0 (.int .u8 0) 1 1 Try.underlying32 hi hz0 hz1 hz2 rfl (some w.heap.size) _ 0 [] rfl (Own.empty w) n (vals l) ((HB.out.kept ((Kept.refl (fun _ => False) w).alloc _) (fun _ _ _ h => h)).src Try.underlying32) (by unfold maxLen; omega) (by omega) ?_)
    intro k' v' w' ho hf hK hn
    have R : Made w v' l w' := ⟨k', by rw [HL.out]; exact ho, fun j hj => by
      rcases hf j hj with h | h
      · cases h; exact Nat.le_refl _
      · omega, ((Below.refl w.heap.size w).alloc (Nat.le_refl _) _).trans (hK.below (by simp) (fun j hj h => by cases h; omega))⟩
    have HR := Lib.hid R
    clear R ho hf hK hn
    go_wp2
    go_ret
    exact ⟨_, rfl, HR.out⟩
end Go.Proofs.Ythffegfcgmhppaa
namespace Go.Proofs.Ythffegfcgmhppaa
open Go.RowKit
set_option linter.unusedSimpArgs false
set_option linter.unusedVariables false
def failed (e f : Nat) : Nat := if e = 0 then f else e
def endE (e n : Nat) : Nat := if e = 0 ∧ 0 < n then 7 else e
theorem vals_drop (l : List UInt8) (n : Nat) : vals (l.drop n) = (vals l).drop n := by simp [vals, List.map_drop]
theorem Bs.from {D : Nat → Prop} {w : World} {a : Option Addr} {n c : Nat} {l : List UInt8} (h : Bs D w a n c l) (F : Nat) (hF : F ≤ n) : Bs D w (if c = F then a else a.map (fun x => x.add F)) (n - F) (c - F) (l.drop F) := by
  obtain ⟨h1, h2, h3, h4, h5, h6⟩ := h
  have h4' : c ≤ maxLen := h4
  refine ⟨by rw [List.length_drop]; omega, ?_, by omega, by unfold maxLen at *; omega, ?_, fun hp => ?_⟩
  · rw [vals_len, List.length_drop]; omega
  · intro ha
    by_cases hcF : c = F
    · omega
    · rw [if_neg hcF] at ha
      cases a with
      | none => have := h5 rfl; omega
      | some x => cases ha
  · obtain ⟨b, off, hD, rfl, hr⟩ := h6 (by omega)
    rw [if_neg (by omega)]
    refine ⟨b, off + F, hD, by rw [Option.map_some, Addr.add_mid], fun j v hv => ?_⟩
    rw [vals_drop, List.getElem?_drop] at hv
    rw [Nat.add_assoc]
    exact hr (F + j) v hv
end Go.Proofs.Ythffegfcgmhppaa
namespace Go.Proofs.Ythffegfcgmhppaa
open Go.RowKit
set_option linter.unusedSimpArgs false
set_option linter.unusedVariables false
theorem FreshI.kept {S : Nat → Prop} {w w1 w2 : World} {v : Value} {l : List Int} (h : FreshI w v l w1) (hk : Kept S w1 w2) (hs : ∀ j, w.heap.size ≤ j → ¬ S j) : FreshI w v l w2 := by
  obtain ⟨kk, ho, hf⟩ := h
  exact ⟨kk, ho.kept hk (fun j hj => hs j (hf j hj)), hf⟩
end Go.Proofs.Ythffegfcgmhppaa
namespace Go.Proofs.Ythffegfcgmhppaa
open Go.RowKit
set_option linter.unusedSimpArgs false
set_option linter.unusedVariables false
/-- a slice of bytes of one's own -/
def baccO (v : Value) (l : List UInt8) : Obj := ⟨fun B w => ∃ k, Own w 5 1 k v l.length (vals l) ∧ ∀ j, k = some j → B j, fun {B S w w'} h hk hs => by
  obtain ⟨k, h1, h2⟩ := h
  exact ⟨k, h1.kept hk (fun j hj => hs j (h1.lt j hj) (h2 j hj)), h2⟩⟩
theorem Lv.bacc0 {w0 w : World} {L : List Obj} (h : Lv w0 w L) : Lv w0 w (baccO (.slice none 0 0) [] :: L) :=
  h.cons (Below.refl _ _) (B := fun _ => False) ⟨none, Own.nil _ _ _, (fun _ h => by cases h)⟩ (fun _ h => h.elim)
theorem Lv.baccBytes {w0 w : World} {L : List Obj} (h : Lv w0 w L) {i : Nat} {v : Value} {l : List UInt8} (hi : L[i]? = some (baccO v l)) : Lv w0 w (L.set i (bytesO v l)) := by
  refine h.weaken hi (fun B hB => ?_)
  obtain ⟨k, h1, h2⟩ := hB
  obtain ⟨a, c, hv, hs⟩ := h1.sl
  exact ⟨a, c, hv, rfl, hs.dom (fun b hb => h2 b hb)⟩
theorem wpList_bacc {w0 w : World} {L : List Obj} (h : Lv w0 w L) {i : Nat} {v : Value} {l : List UInt8} (hi : L[i]? = some (baccO v l)) {ops : Array Oper} {rest : List Oper} {o : Oper} {a : Act} {Q : Exit → Act → World → Prop} (hgd : o.guard = none) (s x : Operand)
    (ho : o.op = .call { callee := .builtin .append, args := #[s, x], argTypes := #[32, 32] }) (hs : a.eval s = v) (us : List UInt8) (hx : Src Try.prog 1 32 (a.eval x) us.length (vals us) w) (hb : l.length + us.length ≤ 1000000)
    (K : ∀ v' w', Lv w0 w' (L.set i (baccO v' (l ++ us))) → wpList Try.prog ops Q rest (a.put o.dst v') w') : wpList Try.prog ops Q (o :: rest) a w := by
  obtain ⟨i0, hi0, hz0, hz1, hz2⟩ := info_parts info5
  obtain ⟨B, ⟨k, h1, h2⟩, hlt, _, hset⟩ := h.get hi
  refine wpList_append_any w hgd s x _ _ ho 5 i0 _ 1 1 Try.underlying32 hi0 hz0 hz1 hz2 rfl k v l.length (vals l) hs h1 us.length (vals us) hx (by unfold maxLen; omega) (by omega) ?_
  intro k' v' w' ho' hf' hK' hn'
  refine K v' w' (hset w' _ (fun j => k' = some j) ⟨k', ?_, fun _ h => h⟩ (hK'.mono (fun j _ hj => h2 j hj)) (fun j hj => (hf' j hj).imp (fun e => h2 j e) id) (fun j hj => ho'.lt j hj))
  rw [List.length_append, vals_app]
  exact ho'
theorem run_mk64 (W : World) : (Instr.makeSlice 32 (.int .i64 64) (.int .i64 64)).run Try.prog W = .ok (.slice (some ⟨W.heap.size, 0, none⟩) 64 64) (W.alloc (.cells Z64 5)) := by kernel_rfl
theorem Z64_vals : Z64 = (vals zeroB).toArray := by simp [Z64, zeroB, vals]
/-- some bytes, filled up with zeros -/
def padB (l : List UInt8) : List UInt8 := l ++ zeroB.drop l.length
theorem zeroB_len : zeroB.length = 64 := by simp [zeroB]
theorem padB_len (l : List UInt8) (h : l.length ≤ 64) : (padB l).length = 64 := by
  unfold padB; rw [List.length_append, List.length_drop, zeroB_len]; omega
theorem splice_pad (l : List UInt8) : splice (vals zeroB) 0 (vals l) = vals (padB l) := by
  unfold splice padB
  rw [vals_app, List.take_zero, List.nil_append, Nat.zero_add, vals_len, vals_drop]
/-- what is written to the sectors -/
def blkB (b : List UInt8) (i : Nat) : List UInt8 := padB ((b.drop (i * 64)).take 64)
theorem blkB_len (b : List UInt8) (i : Nat) : (blkB b i).length = 64 := padB_len _ (by rw [List.length_take]; omega)
theorem blkB_get (b : List UInt8) (i j : Nat) (hj : j < 64) : (blkB b i)[j]? = if i * 64 + j < b.length then b[i * 64 + j]? else some 0 := by
  have hl : ((b.drop (i * 64)).take 64).length = min 64 (b.length - i * 64) := by rw [List.length_take, List.length_drop]
  unfold blkB padB
  by_cases h : i * 64 + j < b.length
  · rw [if_pos h, List.getElem?_append_left (by rw [hl]; omega), List.getElem?_take, if_pos hj, List.getElem?_drop]
  · rw [if_neg h, List.getElem?_append_right (by rw [hl]; omega), List.getElem?_drop]
    unfold zeroB
    rw [List.getElem?_replicate, if_pos (by rw [hl]; omega)]
theorem blkB_far (b : List UInt8) (i : Nat) (h : b.length ≤ i * 64) : blkB b i = zeroB := by
  unfold blkB
  rw [List.drop_of_length_le h]
  rfl
def allB (b : List UInt8) (n : Nat) : List UInt8 := ((List.range n).map (blkB b)).flatten
theorem allB_succ (b : List UInt8) (n : Nat) : allB b (n + 1) = allB b n ++ blkB b n := by simp [allB, List.range_succ]
theorem allB_len (b : List UInt8) (n : Nat) : (allB b n).length = 64 * n := by
  induction n with
  | zero => rfl
  | succ n ih => rw [allB_succ, List.length_append, ih, blkB_len]; omega
theorem allB_get (b : List UInt8) (n : Nat) : ∀ j, j < 64 * n → (allB b n)[j]? = if j < b.length then b[j]? else some 0 := by
  induction n with
  | zero => intro j hj; omega
  | succ n ih =>
    intro j hj
    rw [allB_succ]
    by_cases h : j < 64 * n
    · rw [List.getElem?_append_left (by rw [allB_len]; exact h), ih j h]
    · rw [List.getElem?_append_right (by rw [allB_len]; omega), allB_len, blkB_get b n (j - 64 * n) (by omega), show n * 64 + (j - 64 * n) = j by omega]
theorem allB_take (b : List UInt8) (n : Nat) (h : b.length ≤ 64 * n) : (allB b n).take b.length = b := by
  apply List.ext_getElem?
  intro j
  rw [List.getElem?_take]
  by_cases hj : j < b.length
  · rw [if_pos hj, allB_get b n j (by omega), if_pos hj]
  · rw [if_neg hj, List.getElem?_eq_none (by omega)]
/-- the disk when the first i sectors have been written -/
def wr0 (b : List UInt8) : Nat → DM
  | 0 => DM.new 16
  | i + 1 => (wr0 b i).write i (blkB b i)
theorem wr0_fuse (b : List UInt8) (i : Nat) : (wr0 b i).fuse = 0 := by
  induction i with
  | zero => rfl
  | succ i ih => exact (write_fuse ih).trans ih
theorem wr0_on (b : List UInt8) (i : Nat) : (wr0 b i).on = true := by
  induction i with
  | zero => rfl
  | succ i ih => exact (write_on (wr0_fuse b i)).trans ih
theorem wr0_len (b : List UInt8) (i : Nat) : (wr0 b i).S.length = 16 := by
  induction i with
  | zero => simp [wr0, DM.new]
  | succ i ih => exact (write_len _ _ _).trans ih
theorem wr0_ok (b : List UInt8) (i : Nat) : (wr0 b i).Ok i := by
  induction i with
  | zero => exact DM.new_ok (by omega) (by omega)
  | succ i ih => exact DM.write_ok ih (blkB_len b i)
theorem write_get (d : DM) (k : Nat) (l : List UInt8) (j : Nat) : (d.write k l).S[j]? = if k = j then d.S[j]?.map (· ++ [l]) else d.S[j]? := by
  unfold DM.write
  rw [DM.burn_S]
  simp only [List.getElem?_modify]
  split <;> simp
theorem wr0_get (b : List UInt8) (i k : Nat) (hk : k < 16) : (wr0 b i).S[k]? = some (if k < i then [zeroB, blkB b k] else [zeroB]) := by
  induction i with
  | zero =>
    show (List.replicate 16 [zeroB])[k]? = _
    rw [List.getElem?_replicate, if_pos hk, if_neg (by omega)]
  | succ i ih =>
    show ((wr0 b i).write i (blkB b i)).S[k]? = _
    rw [write_get, ih]
    by_cases e : i = k
    · subst e; simp
    · rw [if_neg e]
      by_cases h : k < i
      · rw [if_pos h, if_pos (by omega)]
      · rw [if_neg h, if_neg (by omega)]
/-- the first eight sectors have the blocks, flushed -/
def Has8 (b : List UInt8) (d : DM) : Prop := ∀ k, k < 8 → d.S[k]? = some [blkB b k]
theorem has8_flush (b : List UInt8) (i : Nat) (h : b.length ≤ i * 64) : Has8 b (wr0 b i).flush := by
  intro k hk
  unfold DM.flush
  rw [DM.burn_S]
  simp only [List.getElem?_map, wr0_get b i k (by omega), Option.map_some]
  by_cases hi : k < i
  · rw [if_pos hi]; rfl
  · rw [if_neg hi, blkB_far b k (Nat.le_trans h (Nat.mul_le_mul_right _ (by omega)))]; rfl
theorem Has8.write {b : List UInt8} {d : DM} (h : Has8 b d) {k : Nat} (hk : 8 ≤ k) (l : List UInt8) : Has8 b (d.write k l) := by
  intro j hj
  rw [write_get, if_neg (by omega)]
  exact h j hj
theorem setFuse_S (d : DM) (n : Int) : (d.setFuse n).S = d.S := by unfold DM.setFuse; split <;> rfl
theorem Has8.restart {b : List UInt8} {d : DM} (h : Has8 b d) (ts : List TM) (k : Nat) (hk : k < 8) (h2 : k < (d.restart ts).S.length) : lastB ((d.restart ts).S[k]'h2) = blkB b k := by
  have hd : k < d.S.length := by rw [restart_len] at h2; exact h2
  have e : d.S[k] = [blkB b k] := Option.some.inj ((List.getElem?_eq_getElem hd).symm.trans (h k hk))
  rw [restart_get d ts k hd h2, e]
  cases firstOf ts k with
  | none => rfl
  | some t => simp [surv]
theorem encL_pos (z : List Int) : 0 < (encL z).length := by
  unfold encL
  have := encU_len_pos z.length
  rw [List.length_append]; omega
theorem encL_le (z : List Int) (h : Ok64 z) (hz : z.length ≤ 30) : (encL z).length ≤ 310 := by
  unfold encL
  have h1 := encU_len10 z.length (by omega)
  have h2 := encIs_len z h
  rw [List.length_append]; omega
theorem rUint_enc (n : Nat) (r : List UInt8) (h : n < 18446744073709551616) : rUint ⟨encU n ++ r, 0⟩ = (n, ⟨r, 0⟩) := by
  rw [rUint_ok _ rfl]
  have := fnum_enc n r 0 0 (by simpa using h) (by omega) (by omega)
  simp only [this, Nat.zero_add, Nat.pow_zero, Nat.mul_one, List.drop_left]
theorem rInt_enc (n : Int) (r : List UInt8) (h1 : -9223372036854775808 ≤ n) (h2 : n ≤ 9223372036854775807) : rInt ⟨encI n ++ r, 0⟩ = (n, ⟨r, 0⟩) := by
  unfold rInt encI
  rw [rUint_enc _ _ (zig_lt n h1 h2)]
  simp only [zag_zig]
theorem rLen_enc (n : Nat) (r : List UInt8) (most : Int) (h : n < 18446744073709551616) (hm : (n : Int) ≤ most) : rLen ⟨encU n ++ r, 0⟩ most = (n, ⟨r, 0⟩) := by
  unfold rLen
  rw [rUint_enc n r h, if_neg (by simp only; omega)]
theorem rIntsGo_enc (l : List Int) : ∀ (acc : List Int) (r : List UInt8), Ok64 l → rIntsGo l.length acc ⟨l.flatMap encI ++ r, 0⟩ = (acc ++ l, ⟨r, 0⟩) := by
  induction l with
  | nil => intro acc r _; simp [rIntsGo]
  | cons x t ih =>
    intro acc r h
    have hx := h x (by simp)
    have ht : Ok64 t := fun y hy => h y (by simp [hy])
    rw [List.flatMap_cons, List.length_cons, rIntsGo, List.append_assoc, rInt_enc x _ hx.1 hx.2, if_pos rfl, ih _ _ ht]
    simp
theorem rInts_enc (l : List Int) (r : List UInt8) (most : Int) (h : Ok64 l) (hl : l.length < 18446744073709551616) (hm : (l.length : Int) ≤ most) : rInts ⟨encL l ++ r, 0⟩ most = (l, ⟨r, 0⟩) := by
  unfold rInts encL
  rw [List.append_assoc, rLen_enc _ _ most hl hm]
  simpa using rIntsGo_enc l [] r h
end Go.Proofs.Ythffegfcgmhppaa
namespace Go.Proofs.Ythffegfcgmhppaa
open Go.RowKit
set_option linter.unusedSimpArgs false
set_option linter.unusedVariables false
/-- nothing -/
def noO : Obj := ⟨fun _ _ => True, fun _ _ _ => trivial⟩
/-- two things that lie apart -/
def pairO (o1 o2 : Obj) : Obj := ⟨fun B w => ∃ B1 B2, o1.at' B1 w ∧ o2.at' B2 w ∧ (∀ x, B1 x → ¬ B2 x) ∧ (∀ x, B1 x → B x) ∧ ∀ x, B2 x → B x, fun {B S w w'} h hk hs => by
  obtain ⟨B1, B2, h1, h2, h3, h4, h5⟩ := h
  exact ⟨B1, B2, o1.kept h1 hk (fun j hj hb => hs j hj (h4 j hb)), o2.kept h2 hk (fun j hj hb => hs j hj (h5 j hb)), h3, h4, h5⟩⟩
theorem Lv.join {w0 w : World} {L : List Obj} (h : Lv w0 w L) {i j : Nat} {o1 o2 : Obj} (hij : i ≠ j) (hi : L[i]? = some o1) (hj : L[j]? = some o2) : Lv w0 w ((L.set i (pairO o1 o2)).set j noO) := by
  obtain ⟨h1, Bs, h2, h3, h4⟩ := h
  have hil : i < L.length := (List.getElem?_eq_some_iff.1 hi).1
  have hjl : j < L.length := (List.getElem?_eq_some_iff.1 hj).1
  have hBi : Bs[i]? = some Bs[i] := List.getElem?_eq_getElem (by omega)
  have hBj : Bs[j]? = some Bs[j] := List.getElem?_eq_getElem (by omega)
  obtain ⟨e1, e2⟩ := h3 i o1 _ hi hBi
  obtain ⟨f1, f2⟩ := h3 j o2 _ hj hBj
  refine ⟨h1, (Bs.set i (fun x => Bs[i] x ∨ Bs[j] x)).set j (fun _ => False), by simp [h2], fun k o B hk hB => ?_, fun k l A C hkl hA hC x hx hx2 => ?_⟩
  · rw [List.getElem?_set] at hk hB
    by_cases e : j = k
    · subst e
      rw [if_pos rfl, if_pos (by simpa using hjl)] at hk
      rw [if_pos rfl, if_pos (by simp; omega)] at hB
      cases hk; cases hB
      exact ⟨trivial, fun _ h => h.elim⟩
    · rw [if_neg e, List.getElem?_set] at hk hB
      by_cases e3 : i = k
      · subst e3
        rw [if_pos rfl, if_pos hil] at hk
        rw [if_pos rfl, if_pos (by omega)] at hB
        cases hk; cases hB
        exact ⟨⟨_, _, e1, f1, h4 i j _ _ hij hBi hBj, fun _ h => .inl h, fun _ h => .inr h⟩, fun x hx => hx.elim (e2 x) (f2 x)⟩
      · rw [if_neg e3] at hk hB
        exact h3 k o B hk hB
  · have key : ∀ (k l : Nat) (A C : Nat → Prop), k ≠ l → ((Bs.set i (fun x => Bs[i] x ∨ Bs[j] x)).set j (fun _ => False))[k]? = some A → ((Bs.set i (fun x => Bs[i] x ∨ Bs[j] x)).set j (fun _ => False))[l]? = some C → k = i → ∀ x, A x → ¬ C x := by
      intro k l A C hkl hA hC e x hx hx2
      subst e
      rw [List.getElem?_set, if_neg (fun e => hij e.symm), List.getElem?_set, if_pos rfl, if_pos (by omega)] at hA
      cases hA
      rw [List.getElem?_set] at hC
      by_cases e : j = l
      · rw [if_pos e, if_pos (by simp; omega)] at hC
        cases hC
        exact hx2
      · rw [if_neg e, List.getElem?_set, if_neg hkl] at hC
        exact hx.elim (fun hx => h4 k l _ _ hkl hBi hC x hx hx2) (fun hx => h4 j l _ _ e hBj hC x hx hx2)
    by_cases ek : k = i
    · exact key k l A C hkl hA hC ek x hx hx2
    · by_cases el : l = i
      · exact key l k C A (fun e => hkl e.symm) hC hA el x hx2 hx
      · rw [List.getElem?_set] at hA hC
        by_cases e : j = k
        · rw [if_pos e, if_pos (by simp; omega)] at hA
          cases hA
          exact hx
        · rw [if_neg e, List.getElem?_set, if_neg (fun e => ek e.symm)] at hA
          by_cases e2 : j = l
          · rw [if_pos e2, if_pos (by simp; omega)] at hC
            cases hC
            exact hx2
          · rw [if_neg e2, List.getElem?_set, if_neg (fun e => el e.symm)] at hC
            exact h4 k l A C hkl hA hC x hx hx2
/-- a slice of slices of bytes: its row in block k, the bytes in Bf -/
def Recs (w : World) (k : Option Nat) (Bf : Nat → Prop) (v : Value) (rs : List (List UInt8)) : Prop :=
  ∃ ys, Rw w 32 k v rs.length ys ∧ ∀ j (hj : j < rs.length), ∃ a c, ys[j]? = some (.slice a rs[j].length c) ∧ Bs Bf w a rs[j].length c rs[j]
theorem Recs.kept {S Bf : Nat → Prop} {w w' : World} {k : Option Nat} {v : Value} {rs : List (List UInt8)} (h : Recs w k Bf v rs) (hk : Kept S w w') (hr : ∀ x, k = some x → ¬ S x) (hb : ∀ x, x < w.heap.size → Bf x → ¬ S x) : Recs w' k Bf v rs := by
  obtain ⟨ys, h1, h2⟩ := h
  refine ⟨ys, h1.kept hk hr, fun j hj => ?_⟩
  obtain ⟨a, c, h3, h4⟩ := h2 j hj
  exact ⟨a, c, h3, h4.kept hk hb⟩
theorem Recs.dom {Bf Bf' : Nat → Prop} {w : World} {k : Option Nat} {v : Value} {rs : List (List UInt8)} (h : Recs w k Bf v rs) (hb : ∀ x, Bf x → Bf' x) : Recs w k Bf' v rs := by
  obtain ⟨ys, h1, h2⟩ := h
  exact ⟨ys, h1, fun j hj => by obtain ⟨a, c, h3, h4⟩ := h2 j hj; exact ⟨a, c, h3, h4.dom hb⟩⟩
theorem Recs.lt {Bf : Nat → Prop} {w : World} {k : Option Nat} {v : Value} {rs : List (List UInt8)} (h : Recs w k Bf v rs) : ∀ x, k = some x → x < w.heap.size := by
  obtain ⟨ys, h1, _⟩ := h
  exact h1.lt
theorem Recs.nil (w : World) : Recs w none (fun _ => False) (.slice none 0 0) [] := ⟨[], Rw.nil _ _, fun j hj => absurd hj (by simp)⟩
/-- a slice value of such records -/
theorem Rw.shape {w : World} {e : TypeId} {k : Option Nat} {v : Value} {n : Nat} {xs : List Value} (h : Rw w e k v n xs) : ∃ a c, v = .slice a n c ∧ n ≤ c ∧ c ≤ 9223372036854775807 := by
  rcases h.2 with ⟨_, rfl, rfl⟩ | ⟨g, off, cap, cur, _, rfl, _, h1, h2, _⟩
  · exact ⟨none, 0, rfl, Nat.le_refl _, by omega⟩
  · exact ⟨_, _, rfl, h1, h2⟩
theorem Recs.shape {Bf : Nat → Prop} {w : World} {k : Option Nat} {v : Value} {rs : List (List UInt8)} (h : Recs w k Bf v rs) : ∃ a c, v = .slice a rs.length c ∧ rs.length ≤ c ∧ c ≤ 9223372036854775807 := by
  obtain ⟨ys, h1, _⟩ := h
  exact h1.shape
/-- record j of them, as it is read -/
theorem Recs.look {Bf : Nat → Prop} {w : World} {k : Option Nat} {a : Option Addr} {n c : Nat} {rs : List (List UInt8)} (h : Recs w k Bf (.slice a n c) rs) (j : Nat) (hj : j < rs.length) :
    ∃ g off b cb, k = some g ∧ a = some ⟨g, off, none⟩ ∧ g < w.heap.size ∧ w.cell? ⟨g, off + j, none⟩ = some (.slice b rs[j].length cb) ∧ Bs Bf w b rs[j].length cb rs[j] := by
  obtain ⟨ys, h1, h2⟩ := h
  obtain ⟨g, off, cap, hk, hv, _, _, hg, hc⟩ := h1.at (by omega)
  obtain ⟨b, cb, h3, h4⟩ := h2 j hj
  have hjl : j < ys.length := by rw [h1.1]; exact hj
  have := hc j hjl
  rw [List.getElem?_eq_getElem hjl] at h3
  rw [Option.some.inj h3] at this
  cases hv
  exact ⟨g, off, b, cb, hk, rfl, hg, this, h4⟩
/-- records that can be read -/
def RdR (D : Nat → Prop) (w : World) (a : Option Addr) (n c : Nat) (rs : List (List UInt8)) : Prop :=
  rs.length = n ∧ n ≤ c ∧ c ≤ 9223372036854775807 ∧ ∀ j (hj : j < rs.length), ∃ g off b cb, D g ∧ a = some ⟨g, off, none⟩ ∧ g < w.heap.size ∧ w.cell? ⟨g, off + j, none⟩ = some (.slice b rs[j].length cb) ∧ Bs D w b rs[j].length cb rs[j]
theorem RdR.kept {S D : Nat → Prop} {w w' : World} {a : Option Addr} {n c : Nat} {rs : List (List UInt8)} (h : RdR D w a n c rs) (hk : Kept S w w') (hs : ∀ x, x < w.heap.size → D x → ¬ S x) : RdR D w' a n c rs := by
  obtain ⟨h1, h2, h3, h4⟩ := h
  refine ⟨h1, h2, h3, fun j hj => ?_⟩
  obtain ⟨g, off, b, cb, e1, e2, e3, e4, e5⟩ := h4 j hj
  exact ⟨g, off, b, cb, e1, e2, Nat.lt_of_lt_of_le e3 hk.size, (hk.cell (p := ⟨g, off + j, none⟩) e3 (hs g e3 e1)).trans e4, e5.kept hk hs⟩
theorem RdR.below {D : Nat → Prop} {w w' : World} {a : Option Addr} {n c : Nat} {rs : List (List UInt8)} (h : RdR D w a n c rs) (hb : Below w.heap.size w w') : RdR D w' a n c rs := h.kept (Kept.of_below (fun _ => False) hb) (fun _ _ _ h => h)
theorem Recs.rd {Bf D : Nat → Prop} {w : World} {k : Option Nat} {a : Option Addr} {n c : Nat} {rs : List (List UInt8)} (h : Recs w k Bf (.slice a n c) rs) (hk : ∀ x, k = some x → D x) (hb : ∀ x, Bf x → D x) : RdR D w a n c rs := by
  obtain ⟨a', c', e, h1, h2⟩ := h.shape
  cases e
  refine ⟨rfl, h1, h2, fun j hj => ?_⟩
  obtain ⟨g, off, b, cb, e1, e2, e3, e4, e5⟩ := h.look j hj
  exact ⟨g, off, b, cb, hk g e1, e2, e3, e4, e5.dom hb⟩
theorem RdR.from {D : Nat → Prop} {w : World} {a : Option Addr} {n c : Nat} {rs : List (List UInt8)} (h : RdR D w a n c rs) (s : Nat) (hs : s ≤ n) : RdR D w (if c = s then a else Option.map (fun x => x.add s) a) (n - s) (c - s) (rs.drop s) := by
  obtain ⟨h1, h2, h3, h4⟩ := h
  refine ⟨by rw [List.length_drop, h1], by omega, by omega, fun j hj => ?_⟩
  rw [List.length_drop] at hj
  obtain ⟨g, off, b, cb, e1, rfl, e3, e4, e5⟩ := h4 (s + j) (by omega)
  rw [if_neg (by omega)]
  refine ⟨g, off + s, b, cb, e1, by simp [Addr.add_mid], e3, ?_, ?_⟩
  · rw [Nat.add_assoc, e4, List.getElem_drop]
  · rw [List.getElem_drop]; exact e5
theorem RdR.upto {D : Nat → Prop} {w : World} {a : Option Addr} {n c : Nat} {rs : List (List UInt8)} (h : RdR D w a n c rs) (s : Nat) (hs : s ≤ n) : RdR D w a s c (rs.take s) := by
  obtain ⟨h1, h2, h3, h4⟩ := h
  refine ⟨by rw [List.length_take]; omega, by omega, h3, fun j hj => ?_⟩
  rw [List.length_take] at hj
  obtain ⟨g, off, b, cb, e⟩ := h4 j (by omega)
  refine ⟨g, off, b, cb, ?_⟩
  simp only [List.getElem_take]
  exact e
theorem RdR.nil (w : World) : RdR (fun _ => False) w none 0 0 [] := ⟨rfl, Nat.le_refl _, by omega, fun j hj => absurd hj (by simp)⟩
/-- some records as a thing -/
def recsO (v : Value) (rs : List (List UInt8)) : Obj := ⟨fun B w => ∃ k Bf, Recs w k Bf v rs ∧ (∀ x, k = some x → B x ∧ ¬ Bf x) ∧ ∀ x, Bf x → B x, fun {B S w w'} h hk hs => by
  obtain ⟨k, Bf, h1, h2, h3⟩ := h
  exact ⟨k, Bf, h1.kept hk (fun x hx => hs x (h1.lt x hx) (h2 x hx).1) (fun x hx hb => hs x hx (h3 x hb)), h2, h3⟩⟩
theorem Lv.recs0 {w0 w : World} {L : List Obj} (h : Lv w0 w L) : Lv w0 w (recsO (.slice none 0 0) [] :: L) :=
  h.cons (Below.refl _ _) (B := fun _ => False) ⟨none, fun _ => False, Recs.nil w, (fun _ h => by cases h), fun _ h => h⟩ (fun _ h => h.elim)
/-- a log: its place, its round and its end, its records, how many are durable, what they count for -/
structure LM where
  frm : Nat
  n : Nat
  rnd : Nat
  en : Nat
  recs : List (List UInt8)
  syn : Nat
  tak : Nat
def LM.cells (g : Nat) (m : LM) (v : Value) : List Value := [.pointer (some ⟨g, 0, none⟩), .int .i64 (m.frm : Int), .int .i64 (m.n : Int), .int .u8 (m.rnd : Int), .int .i64 (m.en : Int), v, .int .i64 (m.syn : Int), .int .i64 (m.tak : Int)]
structure Lg (w : World) (gl g : Nat) (k : Option Nat) (Bf : Nat → Prop) (v : Value) (m : LM) : Prop where
  self : w.heap[gl]? = some (.cells (LM.cells g m v).toArray 78 (0, 0))
  recs : Recs w k Bf v m.recs
  ap : k ≠ some gl ∧ ¬ Bf gl ∧ ∀ x, k = some x → ¬ Bf x
  lt : ∀ x, Bf x → x < w.heap.size
def LBlk (gl : Nat) (k : Option Nat) (Bf : Nat → Prop) (x : Nat) : Prop := x = gl ∨ k = some x ∨ Bf x
theorem Lg.blk_lt {w : World} {gl g : Nat} {k : Option Nat} {Bf : Nat → Prop} {v : Value} {m : LM} (h : Lg w gl g k Bf v m) : ∀ x, LBlk gl k Bf x → x < w.heap.size := by
  rintro x (rfl | hx | hx)
  · exact (Array.getElem?_eq_some_iff.1 h.self).1
  · exact h.recs.lt x hx
  · exact h.lt x hx
theorem Lg.kept {S : Nat → Prop} {w w' : World} {gl g : Nat} {k : Option Nat} {Bf : Nat → Prop} {v : Value} {m : LM} (h : Lg w gl g k Bf v m) (hk : Kept S w w') (hs : ∀ x, LBlk gl k Bf x → ¬ S x) : Lg w' gl g k Bf v m :=
  ⟨hk.heap h.self (hs gl (.inl rfl)), h.recs.kept hk (fun x hx => hs x (.inr (.inl hx))) (fun x _ hx => hs x (.inr (.inr hx))), h.ap, fun x hx => Nat.lt_of_lt_of_le (h.lt x hx) hk.size⟩
def logO (gl g : Nat) (m : LM) : Obj := ⟨fun B w => ∃ k Bf v, Lg w gl g k Bf v m ∧ ∀ x, LBlk gl k Bf x → B x, fun {B S w w'} h hk hs => by
  obtain ⟨k, Bf, v, h1, h2⟩ := h
  exact ⟨k, Bf, v, h1.kept hk (fun x hx => hs x (h1.blk_lt x hx) (h2 x hx)), h2⟩⟩
/-- what a walk reads of a log -/
theorem Lg.facts {w : World} {gl g : Nat} {k : Option Nat} {Bf : Nat → Prop} {v : Value} {m : LM} (h : Lg w gl g k Bf v m) : ∃ a c, v = .slice a m.recs.length c ∧ m.recs.length ≤ c ∧ c ≤ 9223372036854775807 ∧ gl < w.heap.size ∧
    w.cell? ⟨gl, 0, none⟩ = some (.pointer (some ⟨g, 0, none⟩)) ∧ w.cell? ⟨gl, 1, none⟩ = some (.int .i64 (m.frm : Int)) ∧ w.cell? ⟨gl, 2, none⟩ = some (.int .i64 (m.n : Int)) ∧ w.cell? ⟨gl, 3, none⟩ = some (.int .u8 (m.rnd : Int)) ∧ w.cell? ⟨gl, 4, none⟩ = some (.int .i64 (m.en : Int)) ∧
    w.cell? ⟨gl, 5, none⟩ = some (.slice a m.recs.length c) ∧ w.cell? ⟨gl, 6, none⟩ = some (.int .i64 (m.syn : Int)) ∧ w.cell? ⟨gl, 7, none⟩ = some (.int .i64 (m.tak : Int)) ∧ ∀ j, w.frozen? ⟨gl, j, none⟩ = false := by
  obtain ⟨a, c, rfl, h1, h2⟩ := h.recs.shape
  have hc : ∀ j u, (LM.cells g m (.slice a m.recs.length c))[j]? = some u → w.cell? ⟨gl, j, none⟩ = some u := by
    intro j u hu
    rw [cell_of_row w gl j _ _ _ h.self]
    simpa using hu
  exact ⟨a, c, rfl, h1, h2, (Array.getElem?_eq_some_iff.1 h.self).1, hc 0 _ rfl, hc 1 _ rfl, hc 2 _ rfl, hc 3 _ rfl, hc 4 _ rfl, hc 5 _ rfl, hc 6 _ rfl, hc 7 _ rfl, fun j => frozen_of_row w gl j _ _ h.self⟩
theorem Lv.log {w0 w : World} {L : List Obj} (h : Lv w0 w L) {i gl g : Nat} {m : LM} (hi : L[i]? = some (logO gl g m)) : ∃ k Bf v B, Lg w gl g k Bf v m ∧ (∀ x, LBlk gl k Bf x → B x) ∧ (∀ j, B j → w0.heap.size ≤ j ∧ j < w.heap.size) ∧
    ∀ (w' : World) (k' : Option Nat) (Bf' : Nat → Prop) (v' : Value) (m' : LM), Lg w' gl g k' Bf' v' m' → Kept B w w' → (∀ x, LBlk gl k' Bf' x → B x ∨ w.heap.size ≤ x) → Lv w0 w' (L.set i (logO gl g m')) := by
  obtain ⟨B, ⟨k, Bf, v, h1, h2⟩, h3, _, h4⟩ := h.get hi
  exact ⟨k, Bf, v, B, h1, h2, h3, fun w' k' Bf' v' m' hl hk hB => h4 w' _ (LBlk gl k' Bf') ⟨k', Bf', v', hl, fun _ h => h⟩ hk hB (fun j hj => hl.blk_lt j hj)⟩
/-- the log's own block is changed, its records stay -/
theorem Lg.put {w w' : World} {gl g : Nat} {k : Option Nat} {Bf : Nat → Prop} {v : Value} {m m' : LM} (h : Lg w gl g k Bf v m) (hr : m'.recs = m.recs) (hs : w'.heap[gl]? = some (.cells (LM.cells g m' v).toArray 78 (0, 0))) (hk : Kept (fun x => x = gl) w w') : Lg w' gl g k Bf v m' :=
  ⟨hs, by rw [hr]; exact h.recs.kept hk (fun x hx e => h.ap.1 (by rw [hx, e])) (fun x _ hx e => h.ap.2.1 (by rw [← e]; exact hx)), h.ap, fun x hx => Nat.lt_of_lt_of_le (h.lt x hx) hk.size⟩
theorem Lv.logFacts {w0 w : World} {L : List Obj} (h : Lv w0 w L) {i gl g : Nat} {m : LM} (hi : L[i]? = some (logO gl g m)) : ∃ a c, m.recs.length ≤ c ∧ c ≤ 9223372036854775807 ∧ gl < w.heap.size ∧
    w.cell? ⟨gl, 0, none⟩ = some (.pointer (some ⟨g, 0, none⟩)) ∧ w.cell? ⟨gl, 1, none⟩ = some (.int .i64 (m.frm : Int)) ∧ w.cell? ⟨gl, 2, none⟩ = some (.int .i64 (m.n : Int)) ∧ w.cell? ⟨gl, 3, none⟩ = some (.int .u8 (m.rnd : Int)) ∧ w.cell? ⟨gl, 4, none⟩ = some (.int .i64 (m.en : Int)) ∧
    w.cell? ⟨gl, 5, none⟩ = some (.slice a m.recs.length c) ∧ w.cell? ⟨gl, 6, none⟩ = some (.int .i64 (m.syn : Int)) ∧ w.cell? ⟨gl, 7, none⟩ = some (.int .i64 (m.tak : Int)) ∧ ∀ j, w.frozen? ⟨gl, j, none⟩ = false := by
  obtain ⟨k, Bf, v, B, h1, _⟩ := h.log hi
  obtain ⟨a, c, _, h2⟩ := h1.facts
  exact ⟨a, c, h2⟩
end Go.Proofs.Ythffegfcgmhppaa
namespace Go.Proofs.Ythffegfcgmhppaa
open Go.RowKit
set_option linter.unusedSimpArgs false
set_option linter.unusedVariables false
theorem or_mul (a b i m : Nat) (hm : m = 2 ^ i) (h : a < m) : a ||| (b * m) = b * m + a := by
  subst hm
  rw [Nat.or_comm, ← Nat.shiftLeft_eq, Nat.shiftLeft_add_eq_or_of_lt h]
theorem i64_or_nat (a b : Nat) (ha : a < 4294967296) (hb : b < 4294967296) : bits .or .i64 (a : Int) (b : Int) = ((a ||| b : Nat) : Int) := by
  have hab : a ||| b < 4294967296 := Nat.or_lt_two_pow (n := 32) ha hb
  show IntKind.i64.wrap ((BitVec.ofInt 64 (a : Int) ||| BitVec.ofInt 64 (b : Int)).toNat : Int) = _
  have e1 : (BitVec.ofInt 64 (a : Int)).toNat = a := by simp [BitVec.toNat_ofInt]; omega
  have e2 : (BitVec.ofInt 64 (b : Int)).toNat = b := by simp [BitVec.toNat_ofInt]; omega
  rw [BitVec.toNat_or, e1, e2]
  exact i64_id _ (by omega) (by omega)
theorem or_three (h m l : Nat) (hh : h < 256) (hm : m < 256) (hl : l < 256) : bits .or .i64 (bits .or .i64 ((h : Int) * 65536) ((m : Int) * 256)) (l : Int) = ((h * 65536 + m * 256 + l : Nat) : Int) := by
  have e1 : ((h : Int) * 65536) = ((h * 65536 : Nat) : Int) := by omega
  have e2 : ((m : Int) * 256) = ((m * 256 : Nat) : Int) := by omega
  rw [e1, e2, i64_or_nat _ _ (by omega) (by omega), Nat.or_comm, or_mul (m * 256) h 16 65536 (by decide) (by omega), i64_or_nat _ _ (by omega) (by omega), Nat.or_comm]
  have e3 : h * 65536 + m * 256 = (h * 256 + m) * 256 := by omega
  rw [e3, or_mul l (h * 256 + m) 8 256 (by decide) (by omega)]
theorem or_two (h l : Nat) (hh : h < 256) (hl : l < 256) : bits .or .i64 ((h : Int) * 256) (l : Int) = ((h * 256 + l : Nat) : Int) := by
  have e1 : ((h : Int) * 256) = ((h * 256 : Nat) : Int) := by omega
  rw [e1, i64_or_nat _ _ (by omega) (by omega), Nat.or_comm, or_mul l h 8 256 (by decide) (by omega)]
theorem run_allocS (W : World) : (Instr.alloc 76 true (.tuple #[])).run Try.prog W = .ok (.pointer (some ⟨W.heap.size, 0, none⟩)) (W.alloc (.cells #[.int .u8 0, .int .i64 0] 76)) := by kernel_rfl
theorem run_buildS (r e : Int) (W : World) : (Instr.build 76 #[(0, .int .u8 r), (1, .int .i64 e)]).run Try.prog W = .ok (.agg #[.int .u8 r, .int .i64 e]) W := by kernel_rfl
theorem sizeS (r e : Value) : (Try.prog.info? 76).map (·.size) = some (#[r, e] : Array Value).size := by kernel_rfl
theorem oneS (r e : Int) : (#[.int .u8 r, .int .i64 e] : Array Value).all (·.oneCell') = true := by simp [Value.oneCell']
set_option maxRecDepth 100000 in
set_option maxHeartbeats 1000000 in
theorem decode_any (r h m l : Nat) (hr : r < 256) (hh : h < 256) (hm : m < 256) (hl : l < 256) (w : World) :
    Calls Try.prog 58 #[.int .u8 (r : Int), .int .u8 (h : Int), .int .u8 (m : Int), .int .u8 (l : Int)] w fun e w' => e = .returned (.agg #[.int .u8 (r : Int), .int .i64 ((h * 65536 + m * 256 + l : Nat) : Int)]) ∧ Below w.heap.size w w' := by
  have hb := run_buildS
  have ho := or_three h m l hh hm hl
  obtain ⟨E, hE⟩ : ∃ E, E = h * 65536 + m * 256 + l := ⟨_, rfl⟩
  rw [← hE] at ho ⊢
  have HO := Lib.hid ho
  clear hE ho
  go_enter Try.func58, Try.ntmps58
  go_wp2_with (first
    | (refine wpList_alloc_z rfl 76 rfl _ 76 run_allocS ?_)
    | (refine wpList_store_row rfl 76 (.tmp 8) (.tmp 20) rfl w.heap.size _ rfl rfl 76 _ (heap_new rfl) (sizeS _ _) rfl (oneS _ _) ?_))
  refine bodyPost_ret (results_cell_row rfl _ _ w.heap.size 76 _ (0, 0) _ rfl (setRow_heap _ _ _ _ _ _ (heap_new rfl)) Try.underlying76 rfl (sizeS _ _)) rfl ⟨?_, below_setRow ((Below.refl _ _).alloc (Nat.le_refl _) _) (Nat.le_refl _) _⟩
  rw [HO.out]
end Go.Proofs.Ythffegfcgmhppaa
namespace Go.Proofs.Ythffegfcgmhppaa
open Go.RowKit
set_option linter.unusedSimpArgs false
set_option linter.unusedVariables false
/-- max(x, y) -/
theorem wpList_max2 {P : Program} {ops : Array Oper} {rest : List Oper} {o : Oper} {a : Act} {w : World} {Q : Exit → Act → World → Prop} (hgd : o.guard = none) (x y : Operand) (t1 t2 : TypeId)
    (ho : o.op = .call { callee := .builtin .max, args := #[x, y], argTypes := #[t1, t2] }) (n m r : Int) (hx : a.eval x = .int .i64 n) (hy : a.eval y = .int .i64 m) (hr0 : max n m = r)
    (h : wpList P ops Q rest (a.put o.dst (.int .i64 r)) w) : wpList P ops Q (o :: rest) a w := by
  have hr : (Builtin.max_ #[t1, t2] o.type #[.int .i64 n, .int .i64 m]).run P w = .ok (.int .i64 r) w := by
    subst hr0
    by_cases hn : n < m
    · have e : max n m = m := by omega
      rw [e]
      simp [Builtin.max_, Builtin.max2, hn, Result.andThen]
    · have e : max n m = n := by omega
      rw [e]
      simp [Builtin.max_, Builtin.max2, hn, Result.andThen]
  refine wpList_plain hgd fun K hK => ?_
  unfold Oper.wp execOp
  simp only [ho, resolve, invoke, builtin, Sem.run_bind, Sem.run_pure, Result.andThen_ok, List.map_toArray, List.map_cons, List.map_nil, hx, hy, hr]
  exact hK _ _ h
section
variable {w0 w : World} {L : List Obj} {gl g i : Nat} {m : LM} {d : DM}
theorem synced_lv (h : Lv w0 w L) (hi : L[i]? = some (logO gl g m)) :
    Calls Try.prog 42 #[.pointer (some ⟨gl, 0, none⟩)] w fun e w' => e = .returned (.int .i64 (m.syn : Int)) ∧ w = w' := by
  obtain ⟨a, c, h1, h2, hg, c0, c1, c2, c3, c4, c5, c6, c7, f0⟩ := h.logFacts hi
  clear h hi
  go_enter Try.func42, Try.ntmps42
  go_wp2
  go_ret
  exact ⟨rfl, rfl⟩
theorem below_drewN (w : World) (n : Nat) : Below w.heap.size w (w.drewN n) := ⟨rfl, rfl, rfl, Nat.le_refl _, fun _ _ => rfl⟩
/-- what is left, and the longest record -/
def roomZ (n : Nat) (tak : Int) : Int := max (min ((n : Int) * 64 - 128 - tak - 12) 4000) (-1)
set_option maxRecDepth 100000 in
set_option maxHeartbeats 1000000 in
theorem room_lv (h : Lv w0 w L) (hi : L[i]? = some (logO gl g m)) (hn : m.n ≤ 4096) (ht : m.tak ≤ 1000000) :
    Calls Try.prog 29 #[.pointer (some ⟨gl, 0, none⟩)] w fun e w' => e = .returned (.int .i64 (roomZ m.n m.tak)) ∧ Below w.heap.size w w' := by
  obtain ⟨a, c, h1, h2, hg, c0, c1, c2, c3, c4, c5, c6, c7, f0⟩ := h.logFacts hi
  obtain ⟨R, hR⟩ : ∃ R, R = roomZ m.n m.tak := ⟨_, rfl⟩
  rw [← hR]
  have HR := Lib.hid hR
  have w1 : IntKind.i64.wrap ((m.n : Int) * 64) = (m.n : Int) * 64 := i64_id _ (by omega) (by omega)
  have w2 : IntKind.i64.wrap ((m.n : Int) * 64 - 128) = (m.n : Int) * 64 - 128 := i64_id _ (by omega) (by omega)
  have w3 : IntKind.i64.wrap ((m.n : Int) * 64 - 128 - (m.tak : Int)) = (m.n : Int) * 64 - 128 - (m.tak : Int) := i64_id _ (by omega) (by omega)
  have w4 : IntKind.i64.wrap ((m.n : Int) * 64 - 128 - (m.tak : Int) - 12) = (m.n : Int) * 64 - 128 - (m.tak : Int) - 12 := i64_id _ (by omega) (by omega)
  obtain ⟨M, hM⟩ : ∃ M, M = min ((m.n : Int) * 64 - 128 - (m.tak : Int) - 12) 4000 := ⟨_, rfl⟩
  have HM : Hid (min ((m.n : Int) * 64 - 128 - (m.tak : Int) - 12) 4000 = M) := Lib.hid hM.symm
  have HX : Hid (max M (-1) = R) := Lib.hid (by rw [hR, hM]; rfl)
  clear h hi hR hM
  go_enter Try.func29, Try.ntmps29
  go_wp2_with fail
  go_quiet (fail)
  go_wp2_with (first
    | (refine wpList_min2 rfl (.tmp 16) (.const (.int .i64 4000)) 3 3 rfl _ 4000 M rfl rfl HM.out ?_)
    | (refine wpList_max2 rfl (.tmp 17) (.const (.int .i64 (-1))) 3 3 rfl M (-1) R rfl rfl HX.out ?_))
  go_ret
  exact ⟨rfl, below_drewN _ _⟩
def validB (S : Nat) (f n : Int) : Bool := decide (4 ≤ n ∧ 0 ≤ f ∧ n ≤ (S : Int) - f)
set_option maxRecDepth 100000 in
set_option maxHeartbeats 1000000 in
theorem valid_lv (h : Lv w0 w L) (hi : L[i]? = some (diskO g d)) (f n : Int) (f1 : -9223372036854775808 ≤ f) (f2 : f ≤ 9223372036854775807) (n1 : -9223372036854775808 ≤ n) (n2 : n ≤ 9223372036854775807) :
    Calls Try.prog 40 #[.pointer (some ⟨g, 0, none⟩), .int .i64 f, .int .i64 n] w fun e w' => e = .returned (.bool (validB d.S.length f n)) ∧ w = w' := by
  have hS := (h.ok hi).2.1
  obtain ⟨B, hB⟩ : ∃ B, B = validB d.S.length f n := ⟨_, rfl⟩
  obtain ⟨S, hSS⟩ : ∃ S, S = d.S.length := ⟨_, rfl⟩
  have HS := Lib.hid hSS
  rw [← hB]
  rw [← hSS] at hS hB
  unfold validB at hB
  have HB := Lib.hid hB
  have HL := Lib.hid h
  have HI := Lib.hid hi
  clear h hi hB hSS
  by_cases a1 : 4 ≤ n
  · by_cases a2 : 0 ≤ f
    · have w1 : IntKind.i64.wrap ((S : Int) - f) = (S : Int) - f := i64_id _ (by omega) (by omega)
      by_cases a3 : n ≤ (S : Int) - f
      · have HT : Hid (B = true) := Lib.hid (by rw [HB.out, decide_eq_true ⟨a1, a2, a3⟩])
        go_enter Try.func40, Try.ntmps40
        go_wp2_with (go_at_call 55; refine (len_lv HL.out HI.out).mono ?_; rintro e w3 ⟨rfl, rfl⟩; rw [← HS.out])
        go_ret
        exact ⟨by rw [HT.out]; rfl, rfl⟩
      · have HT : Hid (B = false) := Lib.hid (by rw [HB.out, decide_eq_false (fun h => a3 h.2.2)])
        have a4 : decide (n ≤ (S : Int) - f) = false := by simpa using a3
        have a5 : (S : Int) - f < n := by omega
        clear a3
        go_enter Try.func40, Try.ntmps40
        go_wp2_with (go_at_call 55; refine (len_lv HL.out HI.out).mono ?_; rintro e w3 ⟨rfl, rfl⟩; rw [← HS.out])
        go_ret
        exact ⟨by rw [HT.out]; rfl, rfl⟩
    · have HT : Hid (B = false) := Lib.hid (by rw [HB.out, decide_eq_false (fun h => a2 h.2.1)])
      have a4 : decide (0 ≤ f) = false := by simpa using a2
      have a5 : f < 0 := by omega
      clear a2
      go_enter Try.func40, Try.ntmps40
      go_wp2
      go_ret
      exact ⟨by rw [HT.out]; rfl, rfl⟩
  · have HT : Hid (B = false) := Lib.hid (by rw [HB.out, decide_eq_false (fun h => a1 h.1)])
    have a4 : decide (4 ≤ n) = false := by simpa using a1
    have a5 : n < 4 := by omega
    clear a1
    go_enter Try.func40, Try.ntmps40
    go_wp2
    go_ret
    exact ⟨by rw [HT.out]; rfl, rfl⟩
end
end Go.Proofs.Ythffegfcgmhppaa
namespace Go.Proofs.Ythffegfcgmhppaa
open Go.RowKit
set_option linter.unusedSimpArgs false
set_option linter.unusedVariables false
theorem run_build0b (W : World) : (Instr.buildSlice 32 0 #[]).run Try.prog W = .ok (.slice (some ⟨W.heap.size, 0, none⟩) 0 0) (W.alloc (.cells #[] 5)) := by kernel_rfl
set_option maxRecDepth 100000 in
set_option maxHeartbeats 400000 in
theorem cloneB_any (Z : Nat → Prop) (a : Option Addr) (n c : Nat) (l : List UInt8) (w : World) (hB : Bs Z w a n c l) (hn : n ≤ 1000000) :
    Calls Try.prog 43 #[.slice a n c] w fun e w' => ∃ v, e = .returned v ∧ Made w v l w' := by
  obtain ⟨i0, hi, hz0, hz1, hz2⟩ := info_parts info5
  have hl := hB.1
  have hc1 : n ≤ c := hB.2.2.1
  have hc2 : c ≤ 9223372036854775807 := hB.2.2.2.1
  match a, hB with
  | none, hB =>
    have hc0 : c = 0 := hB.2.2.2.2.1 rfl
    obtain rfl : n = 0 := by omega
    subst hc0
    obtain rfl : l = [] := List.eq_nil_of_length_eq_zero hl
    clear hB
    have ke := fun (w : World) => Lib.run_eql_slice_nil (P := Try.prog) w 32 5 none 0 0 0 0 Try.underlying32
    go_enter Try.func43, Try.ntmps43
    go_wp2
    go_ret
    exact ⟨_, rfl, none, Own.nil _ _ _, (fun j h => by cases h), Below.refl _ _⟩
  | some ad, hB =>
    have HB := Lib.hid hB
    have ke := fun (w : World) => Lib.run_eql_slice_nil (P := Try.prog) w 32 5 (some ad) n c 0 0 Try.underlying32
    have hb0 := run_build0b
    have HLn := Lib.hid hl
    clear hB hl
    go_enter Try.func43, Try.ntmps43
    go_wp2_with (at_builtin; refine wpList_append_any _ rfl (.tmp 5) (.tmp 6) 32 32 rfl 5 i0 _ 1 1 Try.underlying32 hi hz0 hz1 hz2 rfl (some w.heap.size) _ 0 [] rfl (Own.made w 5 1 #[] 0 (Nat.zero_le _) rfl) n (vals l) ((HB.out.kept ((Kept.refl (fun _ => False) w).alloc _) (fun _ _ _ h => h)).src Try.underlying32) (by unfold maxLen; omega) (by omega) ?_)
    intro k' v' w' ho hf hK hn
    have R : Made w v' l w' := ⟨k', by rw [HLn.out]; first | exact ho | (rw [Nat.zero_add] at ho; exact ho), fun j hj => by
      rcases hf j hj with h | h
      · cases h; exact Nat.le_refl _
      · exact Nat.le_trans (by simp) h, ((Below.refl w.heap.size w).alloc (Nat.le_refl _) _).trans (hK.below (by simp) (fun j hj h => by cases h; omega))⟩
    have HR := Lib.hid R
    clear R ho hf hK hn
    go_wp2
    go_ret
    exact ⟨_, rfl, HR.out⟩
/-- a record behind its length -/
def joinB (rs : List (List UInt8)) : List UInt8 := rs.flatMap fun r => UInt8.ofNat (r.length / 256) :: UInt8.ofNat r.length :: r
theorem joinB_snoc (rs : List (List UInt8)) (r : List UInt8) : joinB (rs ++ [r]) = (joinB rs ++ [UInt8.ofNat (r.length / 256), UInt8.ofNat r.length]) ++ r := by simp [joinB]
theorem joinB_app (rs qs : List (List UInt8)) : joinB (rs ++ qs) = joinB rs ++ joinB qs := by simp [joinB]
def lenB (rs : List (List UInt8)) : Nat := (rs.map fun r => r.length + 2).sum
theorem joinB_len (rs : List (List UInt8)) : (joinB rs).length = lenB rs := by
  induction rs with
  | nil => rfl
  | cons r rs ih =>
    have e1 : joinB (r :: rs) = UInt8.ofNat (r.length / 256) :: UInt8.ofNat r.length :: (r ++ joinB rs) := by simp [joinB]
    have e2 : lenB (r :: rs) = r.length + 2 + lenB rs := by simp [lenB]
    rw [e1, e2, List.length_cons, List.length_cons, List.length_append, ih]
    omega
theorem lenB_take (rs : List (List UInt8)) (i : Nat) : lenB (rs.take i) ≤ lenB rs := by
  induction rs generalizing i with
  | nil => simp [lenB]
  | cons r rs ih =>
    cases i with
    | zero => simp [lenB]
    | succ i =>
      have := ih i
      simp only [lenB, List.take_succ_cons, List.map_cons, List.sum_cons] at this ⊢
      omega
theorem run_build2b (x y : Int) (W : World) : (Instr.buildSlice 32 2 #[(0, .int .u8 x), (1, .int .u8 y)]).run Try.prog W = .ok (.slice (some ⟨W.heap.size, 0, none⟩) 2 2) (W.alloc (.cells #[.int .u8 x, .int .u8 y] 5)) := by kernel_rfl
theorem src_bytes {w : World} {g : Nat} {us : List UInt8} (hg : w.heap[g]? = some (.cells (vals us).toArray 5 (0, 0))) : Src Try.prog 1 32 (.slice (some ⟨g, 0, none⟩) us.length us.length) us.length (vals us) w :=
  Src.ofSlice w Try.underlying32 ⟨g, 0, none⟩ us.length us.length (vals us) (by rw [vals_len]; omega) (fun j u hu => by rw [Addr.add_mid, Nat.zero_add, cell_of_row w g j _ _ _ hg]; simpa using hu) (vals_one us)
theorem u8_ofNat (n : Nat) : ((UInt8.ofNat n).toNat : Int) = ((n % 256 : Nat) : Int) := by rw [UInt8.toNat_ofNat']
theorem Lv.madeOf {w w' : World} {v : Value} {l : List UInt8} (h : Lv w w' [baccO v l]) : Made w v l w' := by
  obtain ⟨B, ⟨k, h1, h2⟩, h3, _⟩ := h.get (i := 0) rfl
  exact ⟨k, h1, fun j hj => (h3 j (h2 j hj)).1, h.args⟩
set_option maxRecDepth 100000 in
set_option maxHeartbeats 2000000 in
theorem join_any (Bf : Nat → Prop) (a : Option Addr) (n c : Nat) (rs : List (List UInt8)) (w : World) (hR : RdR Bf w a n c rs) (h64 : ∀ r ∈ rs, r.length < 65536) (hb : lenB rs ≤ 1000000) :
    Calls Try.prog 44 #[.slice a n c] w fun e w' => ∃ v, e = .returned v ∧ Made w v (joinB rs) w' := by
  obtain ⟨hn, hs1, hs2, hlook⟩ := hR
  have hR : RdR Bf w a n c rs := ⟨hn, hs1, hs2, hlook⟩
  have HR := Lib.hid hR
  have H64 := Lib.hid h64
  have HB := Lib.hid hb
  have hsm : rs.length ≤ 1000000 := by
    have : ∀ rs : List (List UInt8), rs.length ≤ lenB rs := by
      intro rs
      induction rs with
      | nil => exact Nat.le_refl _
      | cons r rs ih => simp only [lenB, List.map_cons, List.sum_cons, List.length_cons] at ih ⊢; omega
    exact Nat.le_trans (this rs) hb
  have HSM := Lib.hid hsm
  have HLK := Lib.hid hlook
  have HN := Lib.hid hn.symm
  rw [hn] at HSM
  clear hR h64 hb hsm hlook hn
  go_enter Try.func44, Try.ntmps44
  go_wp2_with fail
  go_loopw [3, 8] (fun u t wr => ∃ (i : Nat) (v0 : Value), i ≤ n ∧ v0 = u ∧ t = .int .i64 (i : Int) ∧ Lv w wr [baccO v0 (joinB (rs.take i))]) (fun _ t _ => n - (intOf t).toNat)
  case atStart => exact ⟨0, _, Nat.zero_le _, rfl, rfl, (Lv.refl w).bacc0⟩
  case round =>
    obtain ⟨i, v0, hi, hv0, rfl, hL⟩ := hrel
    subst hv0
    have HL := Lib.hid hL
    clear hL
    by_cases hlt : i < n
    · have hn2 : (i : Int) < (n : Int) := by omega
      have hw1 : IntKind.i64.wrap ((i : Int) + 1) = (i : Int) + 1 := i64_id _ (by omega) (by omega)
      obtain ⟨r, hr⟩ : ∃ r, r = rs[i]'(by rw [← HN.out]; exact hlt) := ⟨_, rfl⟩
      obtain ⟨g, off, b, cb, -, rfl, hg, hcell0, hbs⟩ := HLK.out i (by rw [← HN.out]; exact hlt)
      have hcell := (HL.out.args.cell (p := ⟨g, off + i, none⟩) hg).trans hcell0
      clear hcell0
      rw [← hr] at hcell hbs
      have hr64 : r.length < 65536 := H64.out r (by rw [hr]; exact List.getElem_mem _)
      have HBS := Lib.hid hbs
      have hcb1 : r.length ≤ cb := hbs.2.2.1
      have hcb2 : cb ≤ 9223372036854775807 := hbs.2.2.2.1
      have hbld := run_build2b
      obtain ⟨R, hRl⟩ : ∃ R, R = r.length := ⟨_, rfl⟩
      obtain ⟨us, hus⟩ : ∃ us : List UInt8, us = [UInt8.ofNat (R / 256), UInt8.ofNat R] := ⟨_, rfl⟩
      have hm1 : IntKind.u8.wrap ((R : Int) / 256) = ((R / 256 : Nat) : Int) := by rw [IntKind.wrap_u8]; omega
      have hm2 : IntKind.u8.wrap (R : Int) = ((R % 256 : Nat) : Int) := by rw [IntKind.wrap_u8]; omega
      have HUV : Hid (vals us = [.int .u8 ((R / 256 : Nat) : Int), .int .u8 ((R % 256 : Nat) : Int)]) := Lib.hid (by
        rw [hus]
        have : R / 256 % 256 = R / 256 := by omega
        simp only [vals, List.map_cons, List.map_nil, u8_ofNat, this])
      have HUL : Hid (us.length = 2) := Lib.hid (by rw [hus]; rfl)
      have HTK : Hid (joinB (rs.take (i + 1)) = (joinB (rs.take i) ++ us) ++ r) := Lib.hid (by
        rw [List.take_succ_eq_append_getElem (by rw [← HN.out]; exact hlt), joinB_snoc, hus, ← hr, hRl])
      have HLE : Hid ((joinB (rs.take i)).length + us.length + r.length ≤ 1000000) := Lib.hid (by
        have e1 := joinB_len (rs.take (i + 1))
        have e2 := lenB_take rs (i + 1)
        rw [HTK.out, List.length_append, List.length_append] at e1
        have := HB.out
        omega)
      rw [← hRl] at hcell hr64 hcb1 HBS
      have HRL := Lib.hid hRl
      obtain ⟨JT, hJT⟩ : ∃ JT, JT = joinB (rs.take i) := ⟨_, rfl⟩
      rw [← hJT] at HL HTK HLE
      obtain ⟨RH, hRH⟩ : ∃ RH, RH = R / 256 := ⟨_, rfl⟩
      obtain ⟨RM, hRM⟩ : ∃ RM, RM = R % 256 := ⟨_, rfl⟩
      rw [← hRH] at hm1 HUV
      rw [← hRM] at hm2 HUV
      have HSRC : Hid (Src Try.prog 1 32 (.slice (some ⟨wr.heap.size, 0, none⟩) 2 2) us.length (vals us) (wr.alloc (.cells #[.int .u8 (RH : Int), .int .u8 (RM : Int)] 5))) := Lib.hid (by
        have := src_bytes (us := us) (g := wr.heap.size) (w := wr.alloc (.cells #[.int .u8 (RH : Int), .int .u8 (RM : Int)] 5)) (by rw [HUV.out]; exact heap_new rfl)
        rw [HUL.out] at this ⊢
        exact this)
      have HLn : Hid (Lv w (wr.alloc (.cells #[.int .u8 (RH : Int), .int .u8 (RM : Int)] 5)) [baccO v0 JT]) := Lib.hid (HL.out.below ((Below.refl _ _).alloc (Nat.le_refl _) _))
      have HG1 : Hid True := Lib.hid trivial
      clear hr hJT hus hRH hRM hRl hg hbs HL
      go_wp2_with (first
        | (have x1 := HG1; at_builtin; refine wpList_bacc HLn.out (i := 0) (v := v0) (l := JT) rfl rfl (.tmp 12) (.tmp 20) rfl rfl us HSRC.out (by have := HLE.out; omega) ?_; clear HLn HSRC; intro v2 w2 hl2; have HL2 := Lib.hid hl2; have HG2 := x1; clear hl2 x1 HG1)
        | (have x1 := HG2; at_builtin; refine wpList_bacc HL2.out (i := 0) (v := v2) (l := JT ++ us) rfl rfl (.tmp 22) (.tmp 23) rfl rfl r (by have e := HRL.out; have hb := HBS.out; subst e; exact (hb.kept (Kept.of_below (fun _ => False) HL2.out.args) (fun _ _ _ h => h)).src Try.underlying32) (by rw [List.length_append]; have := HLE.out; omega) ?_; clear HL2; intro v3 w3 hl3; have HL3 := Lib.hid hl3; clear hl3 x1 HG2))
      go_roundw
      case rel => exact ⟨i + 1, _, by omega, rfl, by go_num, by rw [HTK.out]; exact HL3.out⟩
      case measure => simp [intOf]; omega
    · obtain rfl : i = n := by omega
      have hm := HL.out.madeOf
      have e1 : rs.take i = rs := List.take_of_length_le (by rw [← HN.out]; exact Nat.le_refl _)
      rw [e1] at hm
      have HM := Lib.hid hm
      clear hm e1 HL
      go_wp2
      go_ret
      exact ⟨_, rfl, HM.out⟩
end Go.Proofs.Ythffegfcgmhppaa
namespace Go.Proofs.Ythffegfcgmhppaa
open Go.RowKit
set_option linter.unusedSimpArgs false
set_option linter.unusedVariables false
def Dsc4 : List (Option Tmp) := [some 27, some 28, some 29, some 30, some 31, some 32, some 33, some 34, some 35]
def Lsc4 : List (List Nat) := [[], [0], [], [], [], [], [5], [2, 3, 4, 6], [1, 7]]
theorem run_build4b (x y z t : Int) (W : World) : (Instr.buildSlice 32 4 #[(0, .int .u8 x), (1, .int .u8 y), (2, .int .u8 z), (3, .int .u8 t)]).run Try.prog W = .ok (.slice (some ⟨W.heap.size, 0, none⟩) 4 4) (W.alloc (.cells #[.int .u8 x, .int .u8 y, .int .u8 z, .int .u8 t] 5)) := by kernel_rfl
def headB (r e : Nat) : List UInt8 := [UInt8.ofNat r, UInt8.ofNat (e / 65536), UInt8.ofNat (e / 256), UInt8.ofNat e]
def footB (r e : Nat) : List UInt8 := [UInt8.ofNat e, UInt8.ofNat (e / 256), UInt8.ofNat (e / 65536), UInt8.ofNat r]
/-- the sector of a description -/
def desB (r e : Nat) : List UInt8 := headB r e ++ List.replicate 56 0 ++ footB r e
theorem desB_len (r e : Nat) : (desB r e).length = 64 := by simp [desB, headB, footB]
set_option maxRecDepth 100000 in
set_option maxHeartbeats 4000000 in
theorem sector_any (r e : Nat) (hr : r < 256) (he : e < 16777216) (w : World) :
    Calls Try.prog 56 #[.agg #[.int .u8 (r : Int), .int .i64 (e : Int)]] w fun x w' => ∃ g, x = .returned (.slice (some ⟨g, 0, none⟩) 64 64) ∧ w.heap.size ≤ g ∧ Bs (fun b => b = g) w' (some ⟨g, 0, none⟩) 64 64 (desB r e) ∧ Below w.heap.size w w' := by
  obtain ⟨h, hh⟩ : ∃ h, h = e / 65536 := ⟨_, rfl⟩
  obtain ⟨m, hm⟩ : ∃ m, m = e / 256 % 256 := ⟨_, rfl⟩
  obtain ⟨l, hl⟩ : ∃ l, l = e % 256 := ⟨_, rfl⟩
  have w1 : IntKind.u8.wrap ((e : Int) / 65536) = (h : Int) := by rw [IntKind.wrap_u8]; omega
  have w2 : IntKind.u8.wrap ((e : Int) / 256) = (m : Int) := by rw [IntKind.wrap_u8]; omega
  have w3 : IntKind.u8.wrap (e : Int) = (l : Int) := by rw [IntKind.wrap_u8]; omega
  obtain ⟨us1, hu1⟩ : ∃ us1, us1 = headB r e := ⟨_, rfl⟩
  obtain ⟨us2, hu2⟩ : ∃ us2, us2 = footB r e := ⟨_, rfl⟩
  have HU1 : Hid (vals us1 = [.int .u8 (r : Int), .int .u8 (h : Int), .int .u8 (m : Int), .int .u8 (l : Int)]) := Lib.hid (by
    rw [hu1, hh, hm, hl]
    have a1 : r % 256 = r := by omega
    have a2 : e / 65536 % 256 = e / 65536 := by omega
    simp only [headB, vals, List.map_cons, List.map_nil, u8_ofNat, a1, a2])
  have HU2 : Hid (vals us2 = [.int .u8 (l : Int), .int .u8 (m : Int), .int .u8 (h : Int), .int .u8 (r : Int)]) := Lib.hid (by
    rw [hu2, hh, hm, hl]
    have a1 : r % 256 = r := by omega
    have a2 : e / 65536 % 256 = e / 65536 := by omega
    simp only [footB, vals, List.map_cons, List.map_nil, u8_ofNat, a1, a2])
  have HL1 : Hid ((vals us1).length = Nat.min 4 64) := Lib.hid (by rw [HU1.out]; rfl)
  have HL2 : Hid ((vals us2).length = Nat.min 4 4) := Lib.hid (by rw [HU2.out]; rfl)
  obtain ⟨s1, hs1⟩ : ∃ s1 : List UInt8, s1 = us1 ++ List.replicate 60 0 := ⟨_, rfl⟩
  have HS1 : Hid (splice (vals zeroB) 0 (vals us1) = vals s1) := Lib.hid (by rw [hs1, hu1]; simp [splice, zeroB, vals, headB])
  have HS2 : Hid (splice (vals s1) 60 (vals us2) = vals (desB r e)) := Lib.hid (by rw [hs1, hu1, hu2]; simp [splice, vals, headB, footB, desB])
  have HF1 : Hid (0 + (vals us1).length ≤ (vals zeroB).length) := Lib.hid (by rw [HU1.out, vals_len, zeroB_len]; show 0 + 4 ≤ 64; omega)
  have HF2 : Hid (60 + (vals us2).length ≤ (vals s1).length) := Lib.hid (by rw [HU2.out, vals_len, hs1, hu1]; simp [headB])
  obtain ⟨q1, hq1⟩ : ∃ q1, q1 = w.alloc (.cells #[.int .u8 (r : Int), .int .i64 (e : Int)] 76) := ⟨_, rfl⟩
  obtain ⟨g1, hg1⟩ : ∃ g1, g1 = w.heap.size := ⟨_, rfl⟩
  have HB1 : Hid (Below w.heap.size w q1) := Lib.hid (by rw [hq1]; exact (Below.refl _ _).alloc (Nat.le_refl _) _)
  have HR1 : Hid (q1.heap[g1]? = some (.cells #[.int .u8 (r : Int), .int .i64 (e : Int)] 76 (0, 0))) := Lib.hid (by rw [hq1, hg1]; exact heap_new rfl)
  have HG1 : Hid (w.heap.size ≤ g1 ∧ g1 < q1.heap.size) := Lib.hid ⟨by omega, (Array.getElem?_eq_some_iff.1 HR1.out).1⟩
  have c10 : q1.cell? ⟨g1, 0, none⟩ = some (.int .u8 (r : Int)) := by rw [cell_of_row q1 g1 0 _ _ _ HR1.out]; rfl
  have c11 : q1.cell? ⟨g1, 1, none⟩ = some (.int .i64 (e : Int)) := by rw [cell_of_row q1 g1 1 _ _ _ HR1.out]; rfl
  have hq1h := Lib.hid hq1
  have hg1h := Lib.hid hg1
  have hmk := run_mk64
  clear hh hm hl hu1 hu2 hs1 hq1 hg1
  go_enter Try.func56, Try.ntmps56
  go_wp2_with fail
  rw [← hq1h.out, ← hg1h.out]
  go_quiet (fail)
  go_upto_region 3 with fail
  obtain ⟨q2, hq2⟩ : ∃ q2, q2 = (q1.drewN nq).alloc (.cells Z64 5) := ⟨_, rfl⟩
  obtain ⟨g6, hg6⟩ : ∃ g6, g6 = q1.heap.size := ⟨_, rfl⟩
  rw [← hq2, ← hg6]
  have hb2 : Below q1.heap.size q1 q2 := by rw [hq2]; exact (below_drewN q1 nq).alloc (Nat.le_refl _) _
  have HR2 : Hid (q2.heap[g6]? = some (.cells (vals zeroB).toArray 5 (0, 0))) := Lib.hid (by rw [hq2, hg6, ← Z64_vals]; exact heap_new rfl)
  have HB2 : Hid (Below w.heap.size w q2) := Lib.hid (HB1.out.trans (hb2.mono HB1.out.size))
  have HG6 : Hid (w.heap.size ≤ g6) := Lib.hid (by have := HB1.out.size; omega)
  have HG16 : Hid (¬ g1 = g6) := Lib.hid (by have := HG1.out.2; omega)
  have C10 : Hid (q2.cell? ⟨g1, 0, none⟩ = some (.int .u8 (r : Int))) := Lib.hid ((hb2.cell (p := ⟨g1, 0, none⟩) HG1.out.2).trans c10)
  have HG12 : Hid (g1 < q2.heap.size) := Lib.hid (Nat.lt_of_lt_of_le HG1.out.2 hb2.size)
  have c12 := C10.out
  have hb4 := run_build4b
  have HS3 : Hid (∀ j v, (vals us1)[j]? = some v → (q2.alloc (.cells #[.int .u8 (r : Int), .int .u8 (h : Int), .int .u8 (m : Int), .int .u8 (l : Int)] 5)).cell? ((⟨q2.heap.size, 0, none⟩ : Addr).add j) = some v) := Lib.hid (fun j v hv => by rw [Addr.add_mid, Nat.zero_add, cell_of_row _ q2.heap.size j _ _ _ (heap_new rfl)]; rw [HU1.out] at hv; simpa using hv)
  have hba : Below q2.heap.size q2 (q2.alloc (.cells #[.int .u8 (r : Int), .int .u8 (h : Int), .int .u8 (m : Int), .int .u8 (l : Int)] 5)) := (Below.refl _ _).alloc (Nat.le_refl _) _
  have HR3a : Hid ((q2.alloc (.cells #[.int .u8 (r : Int), .int .u8 (h : Int), .int .u8 (m : Int), .int .u8 (l : Int)] 5)).heap[g6]? = some (.cells (vals zeroB).toArray 5 (0, 0))) := Lib.hid ((Kept.of_below (fun _ => False) hba).heap HR2.out (fun h => h))
  have HB2a : Hid (Below w.heap.size w (q2.alloc (.cells #[.int .u8 (r : Int), .int .u8 (h : Int), .int .u8 (m : Int), .int .u8 (l : Int)] 5))) := Lib.hid (HB2.out.trans (hba.mono HB2.out.size))
  have HK2 : Hid (∀ w7 : World, Kept (fun x => x = g6) q2 w7 → w7.cell? ⟨g1, 0, none⟩ = some (.int .u8 (r : Int)) ∧ g1 < w7.heap.size) := Lib.hid (fun w7 hk => ⟨(hk.cell (p := ⟨g1, 0, none⟩) HG12.out HG16.out).trans C10.out, Nat.lt_of_lt_of_le HG12.out hk.size⟩)
  clear hq2 hg6 hb2 c10 c11 hba
  go_upto_region 4 with (first
    | (refine wpList_copy_own rfl (.tmp 19) (.tmp 25) 32 32 rfl 5 Try.underlying32 (by kernel_rfl) g6 0 64 64 ⟨q2.heap.size, 0, none⟩ 4 4 rfl rfl (vals zeroB).toArray 5 HR3a.out (vals us1) HL1.out HS3.out (by simpa using HF1.out) (vals_one us1) ?_))
  obtain ⟨q3, hq3⟩ : ∃ q3, q3 = (q2.alloc (.cells #[.int .u8 (r : Int), .int .u8 (h : Int), .int .u8 (m : Int), .int .u8 (l : Int)] 5)).setRow g6 (splice (vals zeroB) 0 (vals us1)).toArray := ⟨_, rfl⟩
  show Code.wp _ _ _ _ ((q2.alloc (.cells #[.int .u8 (r : Int), .int .u8 (h : Int), .int .u8 (m : Int), .int .u8 (l : Int)] 5)).setRow g6 (splice (vals zeroB) 0 (vals us1)).toArray)
  rw [← hq3]
  have hk3 : Kept (fun x => x = g6) q2 q3 := by rw [hq3]; exact (((Kept.refl (fun x => x = g6) q2).alloc _).setRow (fun _ => rfl) _)
  have HR3 : Hid (q3.heap[g6]? = some (.cells (vals s1).toArray 5 (0, 0))) := Lib.hid (by rw [hq3, HS1.out]; exact setRow_heap _ _ _ _ _ _ HR3a.out)
  have HB3 : Hid (Below w.heap.size w q3) := Lib.hid (by rw [hq3]; exact below_setRow HB2a.out HG6.out _)
  have hk4 := HK2.out q3 hk3
  have C1q := Lib.hid hk4.1
  have HG1q := Lib.hid hk4.2
  have HG6q : Hid (g6 < q3.heap.size) := Lib.hid (Array.getElem?_eq_some_iff.1 HR3.out).1
  simp only [Act.put, List.setIfInBounds_toArray, List.set_cons_zero, List.set_cons_succ]
  clear hq3 hk3 HR3a HB2a hk4 HK2 c12 HB2 HR2 C10 HG12 HS3
  refine Roll.region_w 9 37 Dsc4 Lsc4 [(1, .pointer (some ⟨g1, 0, none⟩)), (3, .int .u8 (h : Int)), (4, .int .u8 (m : Int)), (5, .int .u8 (l : Int)), (6, .slice (some ⟨g6, 0, none⟩) 64 64)] 8 [true, true, true, true, true, true, true, false, false] (fun p => Below q3.heap.size q3 p) (fun vv p => p.heap[g6]? = some (.cells (splice (vals s1) 60 (vals us2)).toArray 5 (0, 0)) ∧ Kept (fun x => x = g6) q3 p) (fun p => Kept (fun x => x = g6) q3 p) (fun p p2 => Kept (fun x => x = g6) p p2) [fun vv p => (vv 0) = .slice (some ⟨g6, 0, none⟩) 64 64, fun vv p => (vv 1) = .slice (some ⟨g6, 60, none⟩) 4 4, fun vv p => (vv 2) = .int .u8 (l : Int), fun vv p => (vv 3) = .int .u8 (m : Int), fun vv p => (vv 4) = .int .u8 (h : Int), fun vv p => (vv 5) = .pointer (some ⟨g1, 0, none⟩), fun vv p => (vv 6) = .int .u8 (r : Int), fun vv p => ∃ x, (vv 7) = .slice (some ⟨x, 0, none⟩) 4 4 ∧ q3.heap.size ≤ x ∧ p.heap[x]? = some (.cells #[.int .u8 (l : Int), .int .u8 (m : Int), .int .u8 (h : Int), .int .u8 (r : Int)] 5 (0, 0)), fun vv p => True] (by kernel_rfl) (by kernel_rfl) rfl ⟨rfl, rfl, rfl, rfl, rfl, trivial⟩ ((Below.refl _ _).drew) (by decide) (by kernel_rfl) (fun _ h => Kept.of_below _ h) (fun _ _ h => h.2) (fun _ => Kept.refl _ _) ?_ ?_ ?_
  · exact ⟨fun _ _ _ _ h => h, fun _ _ _ _ h => h, fun _ _ _ _ h => h, fun _ _ _ _ h => h, fun _ _ _ _ h => h, fun _ _ _ _ h => h, fun _ _ _ _ h => h, fun _ _ _ hs h => by obtain ⟨x, e1, e2, e3⟩ := h; exact ⟨x, e1, e2, hs.heap e3 (fun e => by have := HG6q.out; omega)⟩, fun _ _ _ _ h => h, trivial⟩
  · intro b0 hN hlv
    refine ⟨?_, ?_, ?_, ?_, ?_, ?_, ?_, ?_, ?_, trivial⟩
    · intro vs p hI0 hp
      have hI := Roll.inw_pure (by decide) rfl hI0
      clear hI0
      have e6 : (Roll.putD Dsc4 vs [] b0).eval (.tmp 6) = .slice (some ⟨g6, 0, none⟩) 64 64 := (Roll.eval_old rfl).trans (hlv.at 4 (6, .slice (some ⟨g6, 0, none⟩) 64 64) rfl)
      clear hp hlv hN
      unfold Roll.Goes
      simp only [Lsc4, List.getD_cons_zero, List.getD_cons_succ]
      generalize Roll.putD Dsc4 vs [] b0 = a1 at *
      refine Roll.goes_val (w' := p) (.slice (some ⟨g6, 0, none⟩) 64 64) rfl ?_ ⟨(Roll.outw_pure (by decide) rfl), rfl⟩
      (have ec : ∀ x, a1.eval (.const x) = x := fun _ => rfl); (have ef : ∀ x, a1.eval (.func x) = .func (.func x) #[] #[] := fun _ => rfl); generalize a1.eval = ρ at *
      skip
      go_simp <;> (intros; first | (exfalso; omega) | rfl)
    · intro vs p hI0 hp
      have hI := Roll.inw_pure (by decide) rfl hI0
      clear hI0
      have h0 : (vs 0) = .slice (some ⟨g6, 0, none⟩) 64 64 := hp 0 (by simp [Lsc4])
      have e27 : (Roll.putD Dsc4 vs [0] b0).eval (.tmp 27) = .slice (some ⟨g6, 0, none⟩) 64 64 := (Roll.eval_new 0 rfl (by decide) (by decide) (by omega)).trans h0
      clear hp hlv hN
      unfold Roll.Goes
      simp only [Lsc4, List.getD_cons_zero, List.getD_cons_succ]
      generalize Roll.putD Dsc4 vs [0] b0 = a1 at *
      refine Roll.goes_val (w' := p) (.slice (some ⟨g6, 60, none⟩) 4 4) rfl ?_ ⟨(Roll.outw_pure (by decide) rfl), rfl⟩
      (have ec : ∀ x, a1.eval (.const x) = x := fun _ => rfl); (have ef : ∀ x, a1.eval (.func x) = .func (.func x) #[] #[] := fun _ => rfl); generalize a1.eval = ρ at *
      clear h0
      go_simp <;> (intros; first | (exfalso; omega) | rfl)
    · intro vs p hI0 hp
      have hI := Roll.inw_pure (by decide) rfl hI0
      clear hI0
      have e5 : (Roll.putD Dsc4 vs [] b0).eval (.tmp 5) = .int .u8 (l : Int) := (Roll.eval_old rfl).trans (hlv.at 3 (5, .int .u8 (l : Int)) rfl)
      clear hp hlv hN
      unfold Roll.Goes
      simp only [Lsc4, List.getD_cons_zero, List.getD_cons_succ]
      generalize Roll.putD Dsc4 vs [] b0 = a1 at *
      refine Roll.goes_val (w' := p) (.int .u8 (l : Int)) rfl ?_ ⟨(Roll.outw_pure (by decide) rfl), rfl⟩
      (have ec : ∀ x, a1.eval (.const x) = x := fun _ => rfl); (have ef : ∀ x, a1.eval (.func x) = .func (.func x) #[] #[] := fun _ => rfl); generalize a1.eval = ρ at *
      skip
      go_simp <;> (intros; first | (exfalso; omega) | rfl)
    · intro vs p hI0 hp
      have hI := Roll.inw_pure (by decide) rfl hI0
      clear hI0
      have e4 : (Roll.putD Dsc4 vs [] b0).eval (.tmp 4) = .int .u8 (m : Int) := (Roll.eval_old rfl).trans (hlv.at 2 (4, .int .u8 (m : Int)) rfl)
      clear hp hlv hN
      unfold Roll.Goes
      simp only [Lsc4, List.getD_cons_zero, List.getD_cons_succ]
      generalize Roll.putD Dsc4 vs [] b0 = a1 at *
      refine Roll.goes_val (w' := p) (.int .u8 (m : Int)) rfl ?_ ⟨(Roll.outw_pure (by decide) rfl), rfl⟩
      (have ec : ∀ x, a1.eval (.const x) = x := fun _ => rfl); (have ef : ∀ x, a1.eval (.func x) = .func (.func x) #[] #[] := fun _ => rfl); generalize a1.eval = ρ at *
      skip
      go_simp <;> (intros; first | (exfalso; omega) | rfl)
    · intro vs p hI0 hp
      have hI := Roll.inw_pure (by decide) rfl hI0
      clear hI0
      have e3 : (Roll.putD Dsc4 vs [] b0).eval (.tmp 3) = .int .u8 (h : Int) := (Roll.eval_old rfl).trans (hlv.at 1 (3, .int .u8 (h : Int)) rfl)
      clear hp hlv hN
      unfold Roll.Goes
      simp only [Lsc4, List.getD_cons_zero, List.getD_cons_succ]
      generalize Roll.putD Dsc4 vs [] b0 = a1 at *
      refine Roll.goes_val (w' := p) (.int .u8 (h : Int)) rfl ?_ ⟨(Roll.outw_pure (by decide) rfl), rfl⟩
      (have ec : ∀ x, a1.eval (.const x) = x := fun _ => rfl); (have ef : ∀ x, a1.eval (.func x) = .func (.func x) #[] #[] := fun _ => rfl); generalize a1.eval = ρ at *
      skip
      go_simp <;> (intros; first | (exfalso; omega) | rfl)
    · intro vs p hI0 hp
      have hI := Roll.inw_pure (by decide) rfl hI0
      clear hI0
      have e1 : (Roll.putD Dsc4 vs [] b0).eval (.tmp 1) = .pointer (some ⟨g1, 0, none⟩) := (Roll.eval_old rfl).trans (hlv.at 0 (1, .pointer (some ⟨g1, 0, none⟩)) rfl)
      clear hp hlv hN
      unfold Roll.Goes
      simp only [Lsc4, List.getD_cons_zero, List.getD_cons_succ]
      generalize Roll.putD Dsc4 vs [] b0 = a1 at *
      refine Roll.goes_val (w' := p) (.pointer (some ⟨g1, 0, none⟩)) rfl ?_ ⟨(Roll.outw_pure (by decide) rfl), rfl⟩
      (have ec : ∀ x, a1.eval (.const x) = x := fun _ => rfl); (have ef : ∀ x, a1.eval (.func x) = .func (.func x) #[] #[] := fun _ => rfl); generalize a1.eval = ρ at *
      skip
      go_simp <;> (intros; first | (exfalso; omega) | rfl)
    · intro vs p hI0 hp
      have hI := Roll.inw_pure (by decide) rfl hI0
      clear hI0
      have h5 : (vs 5) = .pointer (some ⟨g1, 0, none⟩) := hp 5 (by simp [Lsc4])
      have e32 : (Roll.putD Dsc4 vs [5] b0).eval (.tmp 32) = .pointer (some ⟨g1, 0, none⟩) := (Roll.eval_new 5 rfl (by decide) (by decide) (by omega)).trans h5
      clear hp hlv hN
      unfold Roll.Goes
      simp only [Lsc4, List.getD_cons_zero, List.getD_cons_succ]
      generalize Roll.putD Dsc4 vs [5] b0 = a1 at *
      have cf : p.cell? ⟨g1, 0, none⟩ = some (.int .u8 (r : Int)) := (hI.cell (p := ⟨g1, 0, none⟩) HG1q.out HG16.out).trans C1q.out
      refine Roll.goes_val (w' := p) (.int .u8 (r : Int)) rfl ?_ ⟨(Roll.outw_pure (by decide) rfl), rfl⟩
      (have ec : ∀ x, a1.eval (.const x) = x := fun _ => rfl); (have ef : ∀ x, a1.eval (.func x) = .func (.func x) #[] #[] := fun _ => rfl); generalize a1.eval = ρ at *
      clear h5
      go_simp <;> (intros; first | (exfalso; omega) | rfl)
    · intro vs p hI0 hp
      have hI := Roll.inw_pre (by decide) rfl hI0
      clear hI0
      have h2 : (vs 2) = .int .u8 (l : Int) := hp 2 (by simp [Lsc4])
      have h3 : (vs 3) = .int .u8 (m : Int) := hp 3 (by simp [Lsc4])
      have h4 : (vs 4) = .int .u8 (h : Int) := hp 4 (by simp [Lsc4])
      have h6 : (vs 6) = .int .u8 (r : Int) := hp 6 (by simp [Lsc4])
      have e29 : (Roll.putD Dsc4 vs [2, 3, 4, 6] b0).eval (.tmp 29) = .int .u8 (l : Int) := (Roll.eval_new 2 rfl (by decide) (by decide) (by omega)).trans h2
      have e30 : (Roll.putD Dsc4 vs [2, 3, 4, 6] b0).eval (.tmp 30) = .int .u8 (m : Int) := (Roll.eval_new 3 rfl (by decide) (by decide) (by omega)).trans h3
      have e31 : (Roll.putD Dsc4 vs [2, 3, 4, 6] b0).eval (.tmp 31) = .int .u8 (h : Int) := (Roll.eval_new 4 rfl (by decide) (by decide) (by omega)).trans h4
      have e33 : (Roll.putD Dsc4 vs [2, 3, 4, 6] b0).eval (.tmp 33) = .int .u8 (r : Int) := (Roll.eval_new 6 rfl (by decide) (by decide) (by omega)).trans h6
      clear hp hlv hN
      unfold Roll.Goes
      simp only [Lsc4, List.getD_cons_zero, List.getD_cons_succ]
      generalize Roll.putD Dsc4 vs [2, 3, 4, 6] b0 = a1 at *
      have hal : Below p.heap.size p (p.alloc (.cells #[.int .u8 (l : Int), .int .u8 (m : Int), .int .u8 (h : Int), .int .u8 (r : Int)] 5)) := (Below.refl _ _).alloc (Nat.le_refl _) _
      refine Roll.goes_val (w' := p.alloc (.cells #[.int .u8 (l : Int), .int .u8 (m : Int), .int .u8 (h : Int), .int .u8 (r : Int)] 5)) (.slice (some ⟨p.heap.size, 0, none⟩) 4 4) rfl (by have ec : ∀ x, a1.eval (.const x) = x := fun _ => rfl; have ef : ∀ x, a1.eval (.func x) = .func (.func x) #[] #[] := fun _ => rfl; have hbs := run_build4b; generalize a1.eval = ρ at *; go_simp <;> (intros; first | (exfalso; omega) | rfl)) ⟨Roll.outw_pre (by decide) rfl (hI.trans (hal.mono hI.size)) (Kept.of_below _ hal), p.heap.size, rfl, hI.size, heap_new rfl⟩
    · intro vs p hI0 hp
      have hI := Roll.inw_k0 rfl hI0
      clear hI0
      have h1 : (vs 1) = .slice (some ⟨g6, 60, none⟩) 4 4 := hp 1 (by simp [Lsc4])
      have h7 : ∃ x, (vs 7) = .slice (some ⟨x, 0, none⟩) 4 4 ∧ q3.heap.size ≤ x ∧ p.heap[x]? = some (.cells #[.int .u8 (l : Int), .int .u8 (m : Int), .int .u8 (h : Int), .int .u8 (r : Int)] 5 (0, 0)) := hp 7 (by simp [Lsc4])
      have e28 : (Roll.putD Dsc4 vs [1, 7] b0).eval (.tmp 28) = .slice (some ⟨g6, 60, none⟩) 4 4 := (Roll.eval_new 1 rfl (by decide) (by decide) (by omega)).trans h1
      have e34 : (Roll.putD Dsc4 vs [1, 7] b0).eval (.tmp 34) = vs 7 := (Roll.eval_new 7 rfl (by decide) (by decide) (by omega))
      clear hp hlv hN
      unfold Roll.Goes
      simp only [Lsc4, List.getD_cons_zero, List.getD_cons_succ]
      generalize Roll.putD Dsc4 vs [1, 7] b0 = a1 at *
      obtain ⟨x, hv7, hx, hhx⟩ := h7
      rw [hv7] at e34
      have HS4 : ∀ j v, (vals us2)[j]? = some v → p.cell? ((⟨x, 0, none⟩ : Addr).add j) = some v := fun j v hv => by rw [Addr.add_mid, Nat.zero_add, cell_of_row p x j _ _ _ hhx]; rw [HU2.out] at hv; simpa using hv
      have HR4 : p.heap[g6]? = some (.cells (vals s1).toArray 5 (0, 0)) := (Kept.of_below (fun _ => False) hI).heap HR3.out (fun h => h)
      refine wpList_copy_own rfl (.tmp 28) (.tmp 34) 32 32 rfl 5 Try.underlying32 (by kernel_rfl) g6 60 4 4 ⟨x, 0, none⟩ 4 4 e28 e34 (vals s1).toArray 5 HR4 (vals us2) HL2.out HS4 (by simpa using HF2.out) (vals_one us2) ?_
      refine wpList_nil ?_
      have hk : Kept (fun x => x = g6) p (p.setRow g6 (splice (vals s1) 60 (vals us2)).toArray) := (Kept.refl (fun x => x = g6) p).setRow (fun _ => rfl) _
      exact ⟨_, rfl, Roll.outw_k0 rfl ⟨setRow_heap _ _ _ _ _ _ HR4, (Kept.of_below (fun x => x = g6) hI).trans hk (fun _ _ h => h)⟩ hk, trivial⟩
  · intro vs p hI hR
    have h0 : (vs 0) = .slice (some ⟨g6, 0, none⟩) 64 64 := hR 0 (by omega)
    have h1 : (vs 1) = .slice (some ⟨g6, 60, none⟩) 4 4 := hR 1 (by omega)
    have h2 : (vs 2) = .int .u8 (l : Int) := hR 2 (by omega)
    have h3 : (vs 3) = .int .u8 (m : Int) := hR 3 (by omega)
    have h4 : (vs 4) = .int .u8 (h : Int) := hR 4 (by omega)
    have h5 : (vs 5) = .pointer (some ⟨g1, 0, none⟩) := hR 5 (by omega)
    have h6 : (vs 6) = .int .u8 (r : Int) := hR 6 (by omega)
    have h7 : ∃ x, (vs 7) = .slice (some ⟨x, 0, none⟩) 4 4 ∧ q3.heap.size ≤ x ∧ p.heap[x]? = some (.cells #[.int .u8 (l : Int), .int .u8 (m : Int), .int .u8 (h : Int), .int .u8 (r : Int)] 5 (0, 0)) := hR 7 (by omega)
    have h8 : True := hR 8 (by omega)
    clear hR
    simp only [List.range_succ, List.range_zero, List.nil_append, List.cons_append, Roll.putD, Act.put, List.getD_cons_zero, List.getD_cons_succ, List.setIfInBounds_toArray, List.set_cons_zero, List.set_cons_succ, List.drop_succ_cons, List.drop_zero, Dsc4]
    simp only [h0, h1, h2, h3, h4, h5, h6]
    clear h0 h1 h2 h3 h4 h5 h6
    generalize vs 7 = v7 at *
    generalize vs 8 = v8 at *
    clear h7 h8
    have HF := Lib.hid hI.1
    have HBp : Hid (Below w.heap.size w p) := Lib.hid (HB3.out.trans (hI.2.below HB3.out.size (fun j hj e => by have := HG6.out; omega)))
    clear hI
    go_wp2_with fail
    go_ret
    have hfin := HF.out
    rw [HS2.out] at hfin
    have := bs_block hfin (by rw [desB_len]; decide)
    rw [desB_len] at this
    exact ⟨g6, rfl, HG6.out, this, HBp.out⟩
end Go.Proofs.Ythffegfcgmhppaa

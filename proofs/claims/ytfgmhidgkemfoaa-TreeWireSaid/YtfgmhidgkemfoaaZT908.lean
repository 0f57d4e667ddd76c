/-
  Texts OL, P6, P0, P1, P2, P3, OM, PK, PL, one behind the other.
-/
import Derived.WalkKit
import Derived.WalkSpells
import Derived.WalkLawsBesides
import Derived.Laws.AppendOwn
import Derived.Laws.OwnMore
import Derived.Deep.AppendSrc
import Derived.Deep.MidRow
import Derived.Lib.Hide
import GoSem.Claim
import Derived.Lib.Bytealg
import Derived.Laws.Externs
import Derived.Deep.QuietTactic
import Derived.BigQuiet
import Derived.Deep.CutBlock
import Derived.OwnWalk
import Derived.Deep.DrawnRows
import Derived.Deep.CutRange
import Derived.Deep.LoopGhost
import Derived.Laws.Tables
import Derived.Laws.ResultCell
import Derived.Deep.WholeRow
import Derived.Lib.Strings
import Derived.Shelf.Spec.SlicesInsert
import Derived.Lib.AppendZerosOnto
import Derived.Lib.Overlaps
import Derived.Laws.CopyRow
import Derived.Deep.RegionLaw
import Derived.StillTailTactics
import Derived.RangeFuncNested
import Derived.RangeFuncBound
import Derived.RangeFuncCalls
import Derived.RangeFuncLeaves
import Derived.Shelf.Abstract
import Derived.Shelf.RegionOpen
import Derived.OwnWalkIn
import Derived.TacticsInMore
import Derived.LoopNIn
import Derived.LoopIn
import Derived.RangeFuncBox
import Derived.Sort.CutIn
import Derived.Orders
import Derived.Tactics
import Derived.ProofKit
import Derived.OpenShut
import Derived.Carry
import Derived.Deep.Slices
import Derived.Deep.Fields
import Derived.JoinedCond
import Derived.ChangeMaps5
import Derived.Sort.AtCall
import Derived.Laws.BytesString
import Derived.Laws.AppendOwnNone
import Derived.Laws.ShiftsVarLaws
import Derived.Laws.BitsAllLaws
import Derived.Test.YtfgmhidgkemfoaaRows
import Derived.Test.YtfgmhidgkemfoaaProg
import Derived.Test.YtfgmhidgkemfoaaChecked
import Derived.Test.YtfgmhidgkemfoaaZT907
namespace Go.Proofs.Ytfgmhidgkemfoaa
open Go.RowKit
set_option linter.unusedSimpArgs false
set_option linter.unusedVariables false
def s1 (a : UInt8) : ByteArray := ⟨#[a]⟩
def livA : List KV := [⟨s1 98, s1 49⟩, ⟨s1 100, s1 50⟩]
def livB : List KV := [⟨s1 100, s1 51⟩, ⟨s1 101, s1 52⟩]
def livE : List ED := [⟨s1 98, emptyS, true⟩, ⟨s1 100, s1 51, false⟩, ⟨s1 101, s1 52, false⟩]
theorem livA_eq : insL (insL [] ⟨s1 100, s1 50⟩) ⟨s1 98, s1 49⟩ = livA := by decide
theorem livB_eq : insL (insL [] ⟨s1 101, s1 52⟩) ⟨s1 100, s1 51⟩ = livB := by decide
theorem livE_eq : diffR livA livB = livE := by rw [← diffP_eq]; decide
theorem livF : floorL livA (s1 99) = some ⟨s1 98, s1 49⟩ := by decide
theorem livG : floorL livA (s1 97) = none := by decide
theorem livR : rngL (s1 98) (s1 100) livA = [⟨s1 98, s1 49⟩] := by decide
def nineL (i : Nat) : List KV := (List.range i).foldl (fun l j => insL l ⟨keyB j, xB⟩) []
theorem nine_succ (i : Nat) : nineL (i + 1) = insL (nineL i) ⟨keyB i, xB⟩ := by unfold nineL; rw [List.range_succ, List.foldl_append]; rfl
theorem nine_len : ∀ i, i ≤ 9 → (nineL i).length = i := by decide
theorem Sl.new {W : World} {t : TypeId} (cs : List Value) (size : Nat) (hs : cs.length = size) (n : Nat) (hn : n ≤ maxLen) (xs : List Value) (hx : xs.length = n * size) (hz : 0 < size) (h0 : 0 < n) : Sl (fun _ => True) (W.alloc (.cells xs.toArray t)) (some ⟨W.heap.size, 0, none⟩) n n xs size := by
  refine ⟨hx, Nat.le_refl _, hn, by simp, fun _ => ⟨W.heap.size, 0, trivial, rfl, fun j v hv => ?_⟩⟩
  rw [Nat.zero_add, cell_of_row (W.alloc (.cells xs.toArray t)) W.heap.size j xs.toArray _ _ (World.alloc_heap_new W _)]
  simpa using hv
theorem Ps.new1 (W : World) (k v : ByteArray) : Ps (fun _ => True) (W.alloc (.cells #[.string k, .string v] 65)) (some ⟨W.heap.size, 0, none⟩) 1 1 [⟨k, v⟩] := ⟨rfl, Sl.new [.string k, .string v] 2 rfl 1 (by decide) [.string k, .string v] rfl (by decide) (by decide)⟩
theorem Es.new3 (W : World) (a b c : ED) : Es (fun _ => True) (W.alloc (.cells #[.string a.k, .string a.v, .bool a.d, .string b.k, .string b.v, .bool b.d, .string c.k, .string c.v, .bool c.d] 61)) (some ⟨W.heap.size, 0, none⟩) 3 3 [a, b, c] := ⟨rfl, Sl.new [.string a.k, .string a.v, .bool a.d] 3 rfl 3 (by decide) (ecells [a, b, c]) rfl (by decide) (by decide)⟩
end Go.Proofs.Ytfgmhidgkemfoaa
namespace Go.Proofs.Ytfgmhidgkemfoaa
open Go.RowKit
set_option linter.unusedSimpArgs false
set_option linter.unusedVariables false
theorem cmpK_self (a : ByteArray) : cmpK a a = 0 := (cmpK_eq a a).2 rfl
theorem sorted_ext : ∀ {l1 l2 : List KV}, Sorted l1 → Sorted l2 → (∀ p, p ∈ l1 ↔ p ∈ l2) → l1 = l2
  | [], [], _, _, _ => rfl
  | [], b :: r, _, _, h => by have := (h b).2 (List.mem_cons_self ..); cases this
  | a :: r, [], _, _, h => by have := (h a).1 (List.mem_cons_self ..); cases this
  | a :: r1, b :: r2, h1, h2, h => by
    obtain ⟨ha, hs1⟩ := sorted_cons.1 h1
    obtain ⟨hb, hs2⟩ := sorted_cons.1 h2
    have hab : a = b := by
      rcases List.mem_cons.1 ((h a).1 (List.mem_cons_self ..)) with e | e
      · exact e
      · rcases List.mem_cons.1 ((h b).2 (List.mem_cons_self ..)) with e2 | e2
        · exact e2.symm
        · have x := hb a e
          have y := ha b e2
          have z := cmpK_flip a.k b.k
          omega
    subst hab
    rw [sorted_ext hs1 hs2 (fun p => ⟨fun hp => by
      rcases List.mem_cons.1 ((h p).1 (List.mem_cons_of_mem _ hp)) with e | e
      · have := ha p hp; rw [e, cmpK_self] at this; omega
      · exact e, fun hp => by
      rcases List.mem_cons.1 ((h p).2 (List.mem_cons_of_mem _ hp)) with e | e
      · have := hb p hp; rw [e, cmpK_self] at this; omega
      · exact e⟩)]
theorem diffR_self : ∀ l : List KV, diffR l l = []
  | [] => by rw [diffR]
  | a :: l => by
    rw [diffR, if_neg (by rw [cmpK_self]; omega), if_neg (by rw [cmpK_self]; omega), if_pos rfl, diffR_self l]
    rfl
theorem mem_insL {l : List KV} {p q : KV} : p ∈ insL l q ↔ p = q ∨ (p ∈ l ∧ p.k ≠ q.k) := by
  unfold insL
  rw [List.mem_append, List.mem_cons, List.mem_filter, List.mem_filter]
  have h : p.k ≠ q.k ↔ (cmpK p.k q.k < 0 ∨ 0 < cmpK p.k q.k) := by
    rw [Ne, ← cmpK_eq]
    omega
  rw [h]
  simp only [decide_eq_true_eq]
  constructor
  · rintro (⟨h1, h2⟩ | h1 | ⟨h1, h2⟩)
    · exact .inr ⟨h1, .inl h2⟩
    · exact .inl h1
    · exact .inr ⟨h1, .inr h2⟩
  · rintro (h1 | ⟨h1, h2 | h2⟩)
    · exact .inr (.inl h1)
    · exact .inl ⟨h1, h2⟩
    · exact .inr (.inr ⟨h1, h2⟩)
theorem mem_delL {l : List KV} {p : KV} {key : ByteArray} : p ∈ delL l key ↔ p ∈ l ∧ p.k ≠ key := by
  unfold delL
  rw [List.mem_filter]
  simp
theorem u8_inj {a b : Nat} (ha : a < 256) (hb : b < 256) (h : UInt8.ofNat a = UInt8.ofNat b) : a = b := by
  have := congrArg UInt8.toNat h
  simp [UInt8.toNat_ofNat'] at this
  omega
theorem keyB_inj {a b : Nat} (ha : a < 4000) (hb : b < 4000) (h : keyB a = keyB b) : a = b := by
  unfold keyB at h
  have h1 : (#[UInt8.ofNat (97 + a % 20), UInt8.ofNat (97 + a / 20 % 20), UInt8.ofNat (48 + a / 400)] : Array UInt8) = #[UInt8.ofNat (97 + b % 20), UInt8.ofNat (97 + b / 20 % 20), UInt8.ofNat (48 + b / 400)] := congrArg ByteArray.data h
  have h2 := congrArg Array.toList h1
  simp only [List.cons.injEq, and_true] at h2
  obtain ⟨e1, e2, e3⟩ := h2
  have e1 := u8_inj (by omega) (by omega) e1
  have e2 := u8_inj (by omega) (by omega) e2
  have e3 := u8_inj (by omega) (by omega) e3
  omega
def vB : ByteArray := ⟨#[118]⟩
def kvj (j : Nat) : KV := ⟨keyB j, vB⟩
/-- every number below 256 is met -/
theorem inv256a : ∀ s, s < 60 → (2 * s + 1) * ((2 * s + 1) ^ 63 % 256) % 256 = 1 := by decide
theorem inv256 (s : Nat) (h : s < 60) : ∃ t, t < 256 ∧ (2 * s + 1) * t % 256 = 1 := ⟨(2 * s + 1) ^ 63 % 256, Nat.mod_lt _ (by decide), inv256a s h⟩
theorem met (s j : Nat) (hs : s < 60) (hj : j < 256) : ∃ i, i < 256 ∧ i * (2 * s + 1) % 256 = j := by
  obtain ⟨t, ht, h⟩ := inv256 s hs
  refine ⟨j * t % 256, Nat.mod_lt _ (by decide), ?_⟩
  rw [Nat.mod_mul_mod, show j * t * (2 * s + 1) = j * ((2 * s + 1) * t) by rw [Nat.mul_assoc, Nat.mul_comm t], Nat.mul_mod, h, Nat.mul_one, Nat.mod_mod, Nat.mod_eq_of_lt hj]
end Go.Proofs.Ytfgmhidgkemfoaa
namespace Go.Proofs.Ytfgmhidgkemfoaa
theorem own : ownKnob Try.prog.godebug = none := by kernel_rfl
theorem laidOut : laidOutB Try.prog = true := by kernel_rfl
end Go.Proofs.Ytfgmhidgkemfoaa
namespace Go.Proofs.Ytfgmhidgkemfoaa
open Go.ChangeShapes Go.WideShapes Go.ChangeAt Go.RowKit
set_option linter.unusedSimpArgs false
set_option linter.unusedVariables false
def Old (W : World) (b : Nat) : Prop := b < W.heap.size
theorem Sl.of_cells {W : World} {ad : Addr} {n c : Nat} {xs : List Value} {size : Nat} (hz : 0 < size) (hl : xs.length = n * size) (hn : n ≤ c) (hm : c ≤ maxLen) (hc : ∀ j u, xs[j]? = some u → W.cell? (ad.add j) = some u) : Sl (Old W) W (some ad) n c xs size := by
  refine ⟨hl, hn, hm, (fun h => by cases h), fun hp => ?_⟩
  obtain ⟨ab, ao, spot⟩ := ad
  have h0 : xs[0]? = some (xs[0]'(by rw [hl]; exact Nat.mul_pos hp hz)) := List.getElem?_eq_getElem _
  have hspot : spot = none := by simpa [Addr.add] using World.cell?_spot (hc 0 _ h0)
  subst hspot
  have hr : W.rangeAt ab ao xs := fun j u hu => by have := hc j u hu; rwa [Addr.add_mid] at this
  exact ⟨ab, ao, range_lt hr (by rw [hl]; exact Nat.mul_pos hp hz), rfl, hr⟩
theorem cells3o : Try.prog.cellsOf 29 = 3 := by kernel_rfl
/-- a change of the laws -/
structure OpM where
  kind : Int
  key : Int
  val : Int
def OpM.cells (m : OpM) : List Value := [.int .u8 m.kind, .int .i64 m.key, .int .u8 m.val]
theorem OpM.cells_len (m : OpM) : m.cells.length = 3 := rfl
def OpOk (m : OpM) : Prop := (0 ≤ m.kind ∧ m.kind ≤ 255) ∧ (-9223372036854775808 ≤ m.key ∧ m.key ≤ 9223372036854775807) ∧ (0 ≤ m.val ∧ m.val ≤ 255)
def opcells (ms : List OpM) : List Value := ms.flatMap OpM.cells
theorem opcells_len (ms : List OpM) : (opcells ms).length = ms.length * 3 := by
  unfold opcells
  induction ms with
  | nil => rfl
  | cons m r ih => rw [List.flatMap_cons, List.length_append, OpM.cells_len, ih, List.length_cons]; omega
theorem opcells_get (ms : List OpM) (i j : Nat) (hi : i < ms.length) (hj : j < 3) : (opcells ms)[i * 3 + j]? = ms[i].cells[j]? := by
  unfold opcells
  induction ms generalizing i with
  | nil => simp at hi
  | cons m r ih =>
    rw [List.flatMap_cons]
    cases i with
    | zero =>
      rw [List.getElem?_append_left (by rw [OpM.cells_len]; omega), Nat.zero_mul, Nat.zero_add]
      rfl
    | succ i =>
      rw [List.getElem?_append_right (by rw [OpM.cells_len]; omega), show (i + 1) * 3 + j - m.cells.length = i * 3 + j by rw [OpM.cells_len]; omega, ih i (by simpa using hi)]
      rfl
/-- a slice of changes -/
def Ops (D : Nat → Prop) (w : World) (a : Option Addr) (n c : Nat) (ms : List OpM) : Prop := ms.length = n ∧ Sl D w a n c (opcells ms) 3 ∧ ∀ m ∈ ms, OpOk m
section
variable {H : Type} {enc : TypeId × Value → H} {W : World} {base : Nat} {held : Bool}
set_option maxRecDepth 100000 in
theorem op_of_trod {fuel : Nat} {cs : List Value} {x : DataW H × List MemPlace} (h : DataW.trod enc Try.prog W base (fun _ => true) held fuel 29 cs = some x) : ∃ m : OpM, cs = m.cells ∧ OpOk m := by
  obtain ⟨ys, n, _, _, hlen, hyl, hf⟩ := DataW.trod_struct Try.underlying29 h
  rw [cells3o] at hlen
  match cs, hlen with
  | [c0, c1, c2], _ =>
    match ys, hyl with
    | [y0, y1, y2], _ =>
      have h0 : DataW.trod enc Try.prog W base (fun _ => true) held n 5 [c0] = some y0 := hf 0 _ rfl
      have h1 : DataW.trod enc Try.prog W base (fun _ => true) held n 3 [c1] = some y1 := hf 1 _ rfl
      have h2 : DataW.trod enc Try.prog W base (fun _ => true) held n 5 [c2] = some y2 := hf 2 _ rfl
      obtain ⟨i0, e0, _, w0⟩ := DataW.trod_int Try.underlying5 h0
      obtain ⟨i1, e1, _, w1⟩ := DataW.trod_int Try.underlying3 h1
      obtain ⟨i2, e2, _, w2⟩ := DataW.trod_int Try.underlying5 h2
      cases e0; cases e1; cases e2
      exact ⟨⟨i0, i1, i2⟩, rfl, bounds_u8 w0, bounds_i64 w1, bounds_u8 w2⟩
set_option maxRecDepth 100000 in
theorem open_ops {base0 : Nat} {v : Value} {d : DataW H} {p : List MemPlace} (hval : Value.okWide Try.prog W .any base0 22 v) (h : DataW.Trod enc Try.prog W base (fun _ => true) held 22 v d p) :
    ∃ a n c ms, v = .slice a n c ∧ Ops (Old W) W a n c ms := by
  obtain ⟨a1, n, c, rfl⟩ := okWide_slice Try.underlying22 hval
  obtain ⟨fuel, hf⟩ := h
  rcases Go.Deep.open_slice Try.underlying22 hf with ⟨hcs, hx⟩ | ⟨a, n', c', m, fu, D, Pl, hcs, _, hl, hm, hmm, hx, hi⟩
  · simp [Value.cells] at hcs
    obtain ⟨rfl, rfl, rfl⟩ := hcs
    exact ⟨none, 0, 0, [], rfl, rfl, Sl.empty _ _ _ _ _ (Nat.zero_le _) (fun _ => rfl), fun _ h => by cases h⟩
  · simp [Value.cells] at hcs
    obtain ⟨rfl, rfl, rfl⟩ := hcs
    simp only [if_true] at hmm
    have hex : ∀ i, i < n → ∃ x : OpM, (∀ j u, x.cells[j]? = some u → W.cell? (a.add (i * 3 + j)) = some u) ∧ OpOk x := by
      intro i hin
      obtain ⟨cs', hc, ht⟩ := hi i (by omega)
      rw [cells3o] at hc
      obtain ⟨_, hlen, hat⟩ := World.cells?_some hc
      obtain ⟨x, rfl, hx⟩ := op_of_trod ht
      refine ⟨x, fun j u hu => ?_, hx⟩
      have hj : j < 3 := by have := (List.getElem?_eq_some_iff.1 hu).1; rwa [OpM.cells_len] at this
      rw [← Go.Deep.add_add, hat j hj, hu]
    refine ⟨some a, n, c, (List.range n).attach.map fun i => (hex i.1 (List.mem_range.1 i.2)).choose, rfl, by simp, Sl.of_cells (by decide) (by rw [opcells_len]; simp) hl hm fun j u hu => ?_, fun x hx => ?_⟩
    · have hjl : j < n * 3 := by
        have := (List.getElem?_eq_some_iff.1 hu).1
        rw [opcells_len] at this
        simpa using this
      have e : j = j / 3 * 3 + j % 3 := by omega
      have hi6 : j / 3 < n := by omega
      rw [e] at hu ⊢
      rw [opcells_get _ (j / 3) (j % 3) (by simpa using hi6) (by omega)] at hu
      simp only [List.getElem_map, List.getElem_attach, List.getElem_range] at hu
      exact (hex (j / 3) hi6).choose_spec.1 _ _ hu
    · obtain ⟨i, _, rfl⟩ := List.mem_map.1 hx
      exact (hex i.1 (List.mem_range.1 i.2)).choose_spec.2

end
theorem Ops.kept {D S : Nat → Prop} {w w' : World} {a : Option Addr} {n c : Nat} {ms : List OpM} (h : Ops D w a n c ms) (hk : Kept S w w') (hd : ∀ b, b < w.heap.size → D b → ¬ S b) : Ops D w' a n c ms :=
  ⟨h.1, h.2.1.kept (by decide) hk hd, h.2.2⟩
theorem Ops.below {D : Nat → Prop} {w w' : World} {a : Option Addr} {n c : Nat} {ms : List OpM} (h : Ops D w a n c ms) (hb : Below w.heap.size w w') : Ops D w' a n c ms := h.kept (Kept.of_below (fun _ => False) hb) (fun _ _ _ h => h)
theorem Ops.at {D : Nat → Prop} {w : World} {a : Option Addr} {n c : Nat} {ms : List OpM} (h : Ops D w a n c ms) (hp : 0 < n) : ∃ b off, D b ∧ b < w.heap.size ∧ a = some ⟨b, off, none⟩ ∧ ∀ (i : Nat) (hi : i < ms.length), w.rangeAt b (off + i * 3) ms[i].cells := by
  obtain ⟨h1, ⟨h2, h3, h4, h5, h6⟩, h7⟩ := h
  obtain ⟨b, off, hD, ha, hr⟩ := h6 hp
  refine ⟨b, off, hD, range_lt hr (by omega), ha, fun i hi j v hv => ?_⟩
  have hj : j < 3 := (List.getElem?_eq_some_iff.1 hv).1
  rw [Nat.add_assoc]
  exact hr (i * 3 + j) v (by rw [opcells_get ms i j hi hj]; exact hv)

def loadOpA (v : Value) : Sem Next := do pure (.value (← Instr.loadAt 29 v))
theorem exec_loadOp (ρ : Operand → Value) (d : Option Tmp) (x : Operand) (ty : TypeId) (pos : String) (af : Array Edge) (gd : Option (Nat × Bool)) :
    execOp ρ { dst := d, op := .load 29 x, type := ty, pos := pos, after := af, guard := gd } = loadOpA (ρ x) := rfl
theorem run_loadOp {w : World} {b o : Nat} {m : OpM} (h : w.rangeAt b o m.cells) : (loadOpA (.pointer (some ⟨b, o, none⟩))).run Try.prog w = .ok (.value (.agg #[.int .u8 m.kind, .int .i64 m.key, .int .u8 m.val])) w := by
  unfold loadOpA
  simp only [Sem.run_bind, Sem.run_pure, Result.andThen_ok, run_loadAt_mid w b o 29 m.cells _ h Try.underlying29 rfl (by rw [OpM.cells_len]; kernel_rfl)]
  rfl
theorem run_boxOp (k x v : Int) (W : World) : (Instr.box 29 (.agg #[.int .u8 k, .int .i64 x, .int .u8 v])).run Try.prog W = .ok (.pointer (some ⟨W.heap.size, 0, none⟩)) (W.alloc (.cells #[.int .u8 k, .int .i64 x, .int .u8 v] 29)) := by kernel_rfl
end Go.Proofs.Ytfgmhidgkemfoaa
namespace Go.Proofs.Ytfgmhidgkemfoaa
open Go.RowKit
set_option linter.unusedSimpArgs false
set_option linter.unusedVariables false
attribute [local go_sem ↓] exec_loadOp exec_at_zeroP exec_at_succP Go.wp_at_zero Go.wp_at_succ
attribute [local go_sem] run_boxOp
def OpM.agg (m : OpM) : Value := .agg #[.int .u8 m.kind, .int .i64 m.key, .int .u8 m.val]
/-- the key and the value of a change -/
def chK (m : OpM) (most : Int) : ByteArray := keyB (aroundT (aroundT m.key most) 4000).toNat
def chV (m : OpM) : ByteArray := ⟨#[118]⟩ ++ dig (m.val % 8).toNat
theorem chK_size (m : OpM) (most : Int) : (chK m most).size = 3 := rfl
theorem chV_size (m : OpM) : (chV m).size ≤ 1000 := by show 2 ≤ 1000; omega
def chL (l : List KV) (m : OpM) (most : Int) : List KV := if m.kind % 2 = 1 then delL l (chK m most) else insL l ⟨chK m most, chV m⟩
theorem chL_len {l : List KV} (hs : Sorted l) (m : OpM) (most : Int) : (chL l m most).length ≤ l.length + 1 := by
  unfold chL
  split
  · exact Nat.le_trans (delL_le _ _) (by omega)
  · exact insL_len_le hs
theorem chL_sorted {l : List KV} (hs : Sorted l) (m : OpM) (most : Int) : Sorted (chL l m most) := by
  unfold chL
  split
  · exact delL_sorted hs
  · exact insL_sorted hs
set_option maxRecDepth 100000 in
set_option maxHeartbeats 2000000 in
theorem value_any (m : OpM) (hm : OpOk m) (w : World) : Calls Try.prog 44 #[m.agg] w fun e w' => e = .returned (.string (chV m)) ∧ Below w.heap.size w w' := by
  obtain ⟨hk, hx, hv⟩ := hm
  obtain ⟨q, hq⟩ : ∃ q : Nat, m.val % 8 = (q : Int) := ⟨(m.val % 8).toNat, by omega⟩
  have hq2 : m.val.tmod 8 = (q : Int) := by rw [Int.tmod_eq_emod_of_nonneg (by omega)]; exact hq
  have hq9 : q ≤ 9 := by omega
  have HV : Hid (chV m = ⟨#[118]⟩ ++ dig q) := Lib.hid (by unfold chV; rw [hq]; rfl)
  have hwq : IntKind.i64.wrap (q : Int) = (q : Int) := i64_id _ (by omega) (by omega)
  have HD := Lib.hid (fun u => decimal_any q hq9 u)
  have hsz : (dig q).size = 1 := rfl
  unfold OpM.agg
  obtain ⟨K, hK⟩ : ∃ K, K = m.kind := ⟨_, rfl⟩
  obtain ⟨X, hX⟩ : ∃ X, X = m.key := ⟨_, rfl⟩
  obtain ⟨V, hV⟩ : ∃ V, V = m.val := ⟨_, rfl⟩
  rw [← hV] at hq hq2 hv
  rw [← hK, ← hX, ← hV]
  clear hK hX hV hk hx hq9
  go_enter Try.func44, Try.ntmps44
  go_wp2_with (go_at_call 45; refine (HD.out _).mono ?_; rintro e w2 ⟨rfl, rfl⟩)
  go_ret
  rw [HV.out]
  exact ⟨rfl, (Below.refl _ w).alloc (Nat.le_refl _) _⟩
def ChgT (w : World) (t : Option BT) (H : Nat) (m : OpM) (most : Int) (e : Ending) (w' : World) : Prop := ∃ g' t' H', e = .returned (.pointer (some ⟨g', 0, none⟩)) ∧ TT w' g' t' H' ∧ treeL t' = chL (treeL t) m most ∧ (∀ P, tcnt P t' ≤ tcnt P t + (3 * H + 2)) ∧ Below w.heap.size w w'
set_option maxRecDepth 100000 in
set_option maxHeartbeats 2000000 in
theorem change_any {w : World} {g : Nat} {t : Option BT} {H : Nat} (ht : TT w g t H) (hlen : (treeL t).length ≤ 100000) (m : OpM) (hm : OpOk m) (most : Int) (h0 : 0 < most) (h63 : most ≤ 1000000) :
    Calls Try.prog 13 #[.pointer (some ⟨g, 0, none⟩), m.agg, .int .i64 most] w (ChgT w t H m most) := by
  have HVAL := Lib.hid (fun u => value_any m hm u)
  have hbd := aroundT_bd m.key most h0
  have HAR := Lib.hid (fun u => aroundT_any m.key most u hm.2.1.1 hm.2.1.2 h0 (by omega))
  have HKEY := Lib.hid (fun u => key_any (aroundT m.key most) (by omega) (by omega) u)
  have HT := Lib.hid ht
  have HLEN := Lib.hid hlen
  obtain ⟨y, hy⟩ : ∃ y, y = aroundT m.key most := ⟨_, rfl⟩
  obtain ⟨kb, hkb⟩ : ∃ kb, kb = chK m most := ⟨_, rfl⟩
  obtain ⟨vb, hvb⟩ : ∃ vb, vb = chV m := ⟨_, rfl⟩
  have hkb2 : kb = keyB (aroundT y 4000).toNat := by rw [hkb, hy]; rfl
  rw [← hy] at HAR HKEY
  rw [← hkb2] at HKEY
  rw [← hvb] at HVAL
  have HKS : Hid (kb.size ≤ 60) := Lib.hid (by rw [hkb, chK_size]; omega)
  have HVS : Hid (vb.size ≤ 1000) := Lib.hid (by rw [hvb]; exact chV_size m)
  have HDEL : Hid (m.kind % 2 = 1 → chL (treeL t) m most = delL (treeL t) kb) := Lib.hid (fun h => by unfold chL; rw [if_pos h, hkb])
  have HINS : Hid (¬ m.kind % 2 = 1 → chL (treeL t) m most = insL (treeL t) ⟨kb, vb⟩) := Lib.hid (fun h => by unfold chL; rw [if_neg h, hkb, hvb])
  obtain ⟨r, hr⟩ : ∃ r : Nat, m.kind % 2 = (r : Int) := ⟨(m.kind % 2).toNat, by have := hm.1; omega⟩
  have hr2 : m.kind.tmod 2 = (r : Int) := by rw [Int.tmod_eq_emod_of_nonneg hm.1.1]; exact hr
  have HR := Lib.hid hr
  have hr3 : r = 0 ∨ r = 1 := by have := hm.1; omega
  have ho : ∀ u : World, (u.alloc (.cells #[.int .u8 m.kind, .int .i64 m.key, .int .u8 m.val] 29)).rangeAt u.heap.size 0 m.cells := fun u j v hj => by
    rw [Nat.zero_add, cell_of_row _ u.heap.size j _ _ _ (World.alloc_heap_new u _)]
    simpa [OpM.cells] using hj
  have HO := Lib.hid ho
  have hmk := hm.1
  unfold OpM.agg at HVAL ⊢
  obtain ⟨K, hK⟩ : ∃ K, K = m.kind := ⟨_, rfl⟩
  obtain ⟨X, hX⟩ : ∃ X, X = m.key := ⟨_, rfl⟩
  obtain ⟨V, hV⟩ : ∃ V, V = m.val := ⟨_, rfl⟩
  have HC := Lib.hid (show m.cells = [.int .u8 K, .int .i64 X, .int .u8 V] by rw [hK, hX, hV]; rfl)
  rw [← hK] at hr hr2 hmk
  rw [← hX] at HAR
  rw [← hK, ← hX, ← hV] at HVAL HO ⊢
  have HLD : Hid (∀ (w2 : World) (b : Nat), w2.rangeAt b 0 m.cells → (loadOpA (.pointer (some ⟨b, 0, none⟩))).run Try.prog w2 = .ok (.value (.agg #[.int .u8 K, .int .i64 X, .int .u8 V])) w2) := Lib.hid (fun w2 b h => by rw [hK, hX, hV]; exact run_loadOp h)
  clear ht hlen hm hbd h0 h63 hy hkb hvb hkb2 hK hX hV ho
  go_enter Try.func13, Try.ntmps13
  obtain ⟨w1, hw1⟩ : ∃ w1, w1 = w.alloc (.cells #[.int .u8 K, .int .i64 X, .int .u8 V] 29) := ⟨_, rfl⟩
  have hal : Below w.heap.size w w1 := by rw [hw1]; exact (Below.refl _ w).alloc (Nat.le_refl _) _
  have HAL := Lib.hid hal
  have HRO : Hid (w1.rangeAt w.heap.size 0 m.cells) := Lib.hid (by rw [hw1]; exact HO.out w)
  go_upto_region 1 with fail
  rw [← hw1]
  have c1 : w1.cell? ⟨w.heap.size, 1, none⟩ = some (.int .i64 X) := by have := HRO.out 1 (.int .i64 X) (by rw [HC.out]; rfl); rwa [Nat.zero_add] at this
  clear hw1 hal HO
  go_upto_region 2 with (first
    | (go_at_call 16; refine (HAR.out _).mono ?_; rintro e w2 ⟨rfl, rfl⟩)
    | (go_at_call 15; refine (HKEY.out _).mono ?_; rintro e w2 ⟨rfl, hb2⟩; have HB2 := Lib.hid hb2; clear hb2))
  clear c1
  have hro : w2.rangeAt w.heap.size 0 m.cells := range_below HRO.out (by rw [OpM.cells_len]; omega) HB2.out
  have c0 : w2.cell? ⟨w.heap.size, 0, none⟩ = some (.int .u8 K) := by have := hro 0 (.int .u8 K) (by rw [HC.out]; rfl); rwa [Nat.zero_add] at this
  have ldo := HLD.out _ _ hro
  have HT2 : Hid (TT w2 g t H) := Lib.hid ((HT.out.under HAL.out).under HB2.out)
  have HBW : Hid (Below w.heap.size w w2) := Lib.hid (HAL.out.trans (HB2.out.mono HAL.out.size))
  clear hro
  rcases hr3 with rfl | rfl
  · go_wp2_with (first
      | (go_at_call 44; refine (HVAL.out _).mono ?_; rintro e w3 ⟨rfl, hb3⟩; have HB3 := Lib.hid hb3; clear hb3)
      | (go_at_call 25; refine (put_tree (HT2.out.under HB3.out) (Nat.le_trans HLEN.out (by omega)) kb vb HKS.out HVS.out).mono ?_; rintro e w4 ⟨g4, t4, H4, rfl, ht4, hl4, -, hc4, hb4⟩; have HT4 := Lib.hid ht4; have HL4 := Lib.hid hl4; have HC4 := Lib.hid hc4; have HB4 := Lib.hid hb4; clear ht4 hl4 hc4 hb4))
    go_ret
    exact ⟨g4, t4, H4, rfl, HT4.out, by rw [HL4.out, HINS.out (by rw [HR.out]; decide)], HC4.out, HBW.out.trans ((HB3.out.trans (HB4.out.mono HB3.out.size)).mono HBW.out.size)⟩
  · go_wp2_with (first
      | (go_at_call 27; refine (del_tree HT2.out (Nat.le_trans HLEN.out (by omega)) kb).mono ?_; rintro e w4 ⟨g4, t4, H4, rfl, ht4, hl4, -, hc4, hb4⟩; have HT4 := Lib.hid ht4; have HL4 := Lib.hid hl4; have HC4 := Lib.hid hc4; have HB4 := Lib.hid hb4; clear ht4 hl4 hc4 hb4))
    go_ret
    exact ⟨g4, t4, H4, rfl, HT4.out, by rw [HL4.out, HDEL.out (by rw [HR.out]; decide)], HC4.out, HBW.out.trans (HB4.out.mono HBW.out.size)⟩
end Go.Proofs.Ytfgmhidgkemfoaa
namespace Go.Proofs.Ytfgmhidgkemfoaa
open Go.RowKit
set_option linter.unusedSimpArgs false
set_option linter.unusedVariables false
attribute [local go_sem ↓] exec_loadOp exec_at_zeroP exec_at_succP Go.wp_at_zero Go.wp_at_succ
attribute [local go_sem] run_boxOp
def Put1R (D : Nat → Prop) (w : World) (ps : List KV) (m : OpM) (most : Int) (e : Ending) (w' : World) : Prop := ∃ a n c, e = .returned (.slice a n c) ∧ Ps (fun b => D b ∨ w.heap.size ≤ b) w' a n c (chL ps m most) ∧ Below w.heap.size w w'
set_option maxRecDepth 100000 in
set_option maxHeartbeats 2000000 in
theorem put1_any {D : Nat → Prop} {w : World} {a : Option Addr} {n c : Nat} {ps : List KV} (hp : Ps D w a n c ps) (hs : Sorted ps) (hn : n ≤ 100000) (m : OpM) (hm : OpOk m) (most : Int) (h0 : 0 < most) (h63 : most ≤ 1000000) :
    Calls Try.prog 14 #[.slice a n c, m.agg, .int .i64 most] w (Put1R D w ps m most) := by
  have HVAL := Lib.hid (fun u => value_any m hm u)
  have hbd := aroundT_bd m.key most h0
  have HAR := Lib.hid (fun u => aroundT_any m.key most u hm.2.1.1 hm.2.1.2 h0 (by omega))
  have HKEY := Lib.hid (fun u => key_any (aroundT m.key most) (by omega) (by omega) u)
  have HP := Lib.hid hp
  have HSO := Lib.hid hs
  have HLEN := Lib.hid hn
  obtain ⟨y, hy⟩ : ∃ y, y = aroundT m.key most := ⟨_, rfl⟩
  obtain ⟨kb, hkb⟩ : ∃ kb, kb = chK m most := ⟨_, rfl⟩
  obtain ⟨vb, hvb⟩ : ∃ vb, vb = chV m := ⟨_, rfl⟩
  have hkb2 : kb = keyB (aroundT y 4000).toNat := by rw [hkb, hy]; rfl
  rw [← hy] at HAR HKEY
  rw [← hkb2] at HKEY
  rw [← hvb] at HVAL
  have HKS : Hid (kb.size ≤ 60) := Lib.hid (by rw [hkb, chK_size]; omega)
  have HVS : Hid (vb.size ≤ 1000) := Lib.hid (by rw [hvb]; exact chV_size m)
  have HDEL : Hid (m.kind % 2 = 1 → chL ps m most = delL ps kb) := Lib.hid (fun h => by unfold chL; rw [if_pos h, hkb])
  have HINS : Hid (¬ m.kind % 2 = 1 → chL ps m most = insL ps ⟨kb, vb⟩) := Lib.hid (fun h => by unfold chL; rw [if_neg h, hkb, hvb])
  obtain ⟨r, hr⟩ : ∃ r : Nat, m.kind % 2 = (r : Int) := ⟨(m.kind % 2).toNat, by have := hm.1; omega⟩
  have hr2 : m.kind.tmod 2 = (r : Int) := by rw [Int.tmod_eq_emod_of_nonneg hm.1.1]; exact hr
  have HR := Lib.hid hr
  have hr3 : r = 0 ∨ r = 1 := by have := hm.1; omega
  have ho : ∀ u : World, (u.alloc (.cells #[.int .u8 m.kind, .int .i64 m.key, .int .u8 m.val] 29)).rangeAt u.heap.size 0 m.cells := fun u j v hj => by
    rw [Nat.zero_add, cell_of_row _ u.heap.size j _ _ _ (World.alloc_heap_new u _)]
    simpa [OpM.cells] using hj
  have HO := Lib.hid ho
  have hmk := hm.1
  unfold OpM.agg at HVAL ⊢
  obtain ⟨K, hK⟩ : ∃ K, K = m.kind := ⟨_, rfl⟩
  obtain ⟨X, hX⟩ : ∃ X, X = m.key := ⟨_, rfl⟩
  obtain ⟨V, hV⟩ : ∃ V, V = m.val := ⟨_, rfl⟩
  have HC := Lib.hid (show m.cells = [.int .u8 K, .int .i64 X, .int .u8 V] by rw [hK, hX, hV]; rfl)
  rw [← hK] at hr hr2 hmk
  rw [← hX] at HAR
  rw [← hK, ← hX, ← hV] at HVAL HO ⊢
  have HLD : Hid (∀ (w2 : World) (b : Nat), w2.rangeAt b 0 m.cells → (loadOpA (.pointer (some ⟨b, 0, none⟩))).run Try.prog w2 = .ok (.value (.agg #[.int .u8 K, .int .i64 X, .int .u8 V])) w2) := Lib.hid (fun w2 b h => by rw [hK, hX, hV]; exact run_loadOp h)
  clear hp hs hn hm hbd h0 h63 hy hkb hvb hkb2 hK hX hV ho
  go_enter Try.func14, Try.ntmps14
  obtain ⟨w1, hw1⟩ : ∃ w1, w1 = w.alloc (.cells #[.int .u8 K, .int .i64 X, .int .u8 V] 29) := ⟨_, rfl⟩
  have hal : Below w.heap.size w w1 := by rw [hw1]; exact (Below.refl _ w).alloc (Nat.le_refl _) _
  have HAL := Lib.hid hal
  have HRO : Hid (w1.rangeAt w.heap.size 0 m.cells) := Lib.hid (by rw [hw1]; exact HO.out w)
  go_upto_region 1 with fail
  rw [← hw1]
  have c1 : w1.cell? ⟨w.heap.size, 1, none⟩ = some (.int .i64 X) := by have := HRO.out 1 (.int .i64 X) (by rw [HC.out]; rfl); rwa [Nat.zero_add] at this
  clear hw1 hal HO
  go_upto_region 2 with (first
    | (go_at_call 16; refine (HAR.out _).mono ?_; rintro e w2 ⟨rfl, rfl⟩)
    | (go_at_call 15; refine (HKEY.out _).mono ?_; rintro e w2 ⟨rfl, hb2⟩; have HB2 := Lib.hid hb2; clear hb2))
  clear c1
  have hro : w2.rangeAt w.heap.size 0 m.cells := range_below HRO.out (by rw [OpM.cells_len]; omega) HB2.out
  have c0 : w2.cell? ⟨w.heap.size, 0, none⟩ = some (.int .u8 K) := by have := hro 0 (.int .u8 K) (by rw [HC.out]; rfl); rwa [Nat.zero_add] at this
  have ldo := HLD.out _ _ hro
  have HP2 : Hid (Ps D w2 a n c ps) := Lib.hid ((HP.out.below HAL.out).below HB2.out)
  have HBW : Hid (Below w.heap.size w w2) := Lib.hid (HAL.out.trans (HB2.out.mono HAL.out.size))
  clear hro
  rcases hr3 with rfl | rfl
  · go_wp2_with (first
      | (go_at_call 44; refine (HVAL.out _).mono ?_; rintro e w3 ⟨rfl, hb3⟩; have HB3 := Lib.hid hb3; clear hb3)
      | (go_at_call 26; refine (refPut_any (HP2.out.below HB3.out) (Nat.le_trans HLEN.out (by omega)) kb vb (Nat.lt_of_le_of_lt HKS.out (by omega)) (Nat.lt_of_le_of_lt HVS.out (by omega))).mono ?_; rintro e w4 ⟨a4, n4, c4, rfl, hp4, hb4⟩; have HP4 := Lib.hid hp4; have HB4 := Lib.hid hb4; clear hp4 hb4))
    go_ret
    refine ⟨a4, n4, c4, rfl, ?_, HBW.out.trans ((HB3.out.trans (HB4.out.mono HB3.out.size)).mono HBW.out.size)⟩
    have h := HP4.out
    rw [putR_ins HSO.out kb vb ⟨HKS.out, HVS.out⟩] at h
    rw [HINS.out (by rw [HR.out]; decide)]
    exact h.dom (fun b hb => hb.imp id (fun h => by have := HBW.out.size; have := HB3.out.size; omega))
  · go_wp2_with (go_at_call 28; refine (refDelete_any HP2.out (Nat.le_trans HLEN.out (by omega)) kb).mono ?_; rintro e w4 ⟨v4, rfl, hr4, hb4⟩; obtain ⟨a4, n4, c4, rfl, hp4⟩ := Ps.row hr4; have HP4 := Lib.hid hp4; have HB4 := Lib.hid hb4; clear hp4 hb4 hr4)
    go_ret
    refine ⟨a4, n4, c4, rfl, ?_, HBW.out.trans (HB4.out.mono HBW.out.size)⟩
    have h := HP4.out
    rw [delR_del] at h
    rw [HDEL.out (by rw [HR.out]; decide)]
    exact h.dom (fun b hb => .inr (Nat.le_trans HBW.out.size hb))
/-- what some changes make of some pairs -/
def chLs (most : Int) (l : List KV) (ms : List OpM) : List KV := ms.foldl (fun l m => chL l m most) l
theorem chLs_sorted (most : Int) : ∀ (ms : List OpM) {l : List KV}, Sorted l → Sorted (chLs most l ms)
  | [], l, h => h
  | m :: ms, l, h => chLs_sorted most ms (chL_sorted h m most)
theorem chLs_len (most : Int) : ∀ (ms : List OpM) {l : List KV}, Sorted l → (chLs most l ms).length ≤ l.length + ms.length
  | [], l, h => Nat.le_refl _
  | m :: ms, l, h => by
    have h1 := chLs_len most ms (chL_sorted h m most)
    have h2 := chL_len h m most
    rw [List.length_cons]
    show (chLs most (chL l m most) ms).length ≤ _
    omega
theorem chLs_snoc (most : Int) (l : List KV) (ms : List OpM) (m : OpM) : chLs most l (ms ++ [m]) = chL (chLs most l ms) m most := by unfold chLs; rw [List.foldl_append]; rfl
def Built (w : World) (ms : List OpM) (most : Int) (e : Ending) (W' : World) : Prop := ∃ g t H a n c, e = .returned (.tuple #[.pointer (some ⟨g, 0, none⟩), .slice a n c, .bool true]) ∧ TP w.heap.size W' g t H a n c ∧ treeL t = chLs most [] ms ∧ Below w.heap.size w W'
set_option maxRecDepth 100000 in
set_option maxHeartbeats 4000000 in
theorem built_any {D : Nat → Prop} {w : World} {a : Option Addr} {n c : Nat} {ms : List OpM} (h : Ops D w a n c ms) (hn : n ≤ 1000) (most : Int) (h0 : 0 < most) (h63 : most ≤ 1000000) :
    Calls Try.prog 24 #[.slice a n c, .int .i64 most] w (Built w ms most) := by
  have HO := Lib.hid h
  have HL := Lib.hid h.1
  have HCH : Hid (∀ (u : World) (g : Nat) (t : Option BT) (H : Nat) (m : OpM), TT u g t H → (treeL t).length ≤ 100000 → OpOk m → Calls Try.prog 13 #[.pointer (some ⟨g, 0, none⟩), m.agg, .int .i64 most] u (ChgT u t H m most)) := Lib.hid (fun u g t H m ht hl hm => change_any ht hl m hm most h0 h63)
  have HP1 : Hid (∀ (u : World) (D : Nat → Prop) (a : Option Addr) (n c : Nat) (ps : List KV) (m : OpM), Ps D u a n c ps → Sorted ps → n ≤ 100000 → OpOk m → Calls Try.prog 14 #[.slice a n c, m.agg, .int .i64 most] u (Put1R D u ps m most)) := Lib.hid (fun u D a n c ps m hp hs hn hm => put1_any hp hs hn m hm most h0 h63)
  have hc1 := h.2.1.2.1
  have hc2 : c ≤ 9223372036854775807 := h.2.1.2.2.1
  clear h h0 h63
  go_enter Try.func24, Try.ntmps24
  go_wp2_with (go_at_call 12; refine (new_any _).mono ?_; rintro e w1 ⟨g0, rfl, ht0, hg0, hb0⟩; have HT0 := Lib.hid ht0; have HB0 := Lib.hid hb0; clear ht0 hb0 hg0)
  go_loopw [7, 8, 9] (fun u v x wr => ∃ (i g : Nat) (t : Option BT) (H : Nat) (a2 : Option Addr) (m c2 : Nat), u = .pointer (some ⟨g, 0, none⟩) ∧ v = .slice a2 m c2 ∧ x = .int .i64 (i : Int) ∧ i ≤ n ∧ TP w.heap.size wr g t H a2 m c2 ∧ treeL t = chLs most [] (ms.take i) ∧ Below w.heap.size w wr) (fun _ _ x _ => n - (intOf x).toNat)
  case atStart => exact ⟨0, g0, none, 0, none, 0, 0, rfl, rfl, rfl, Nat.zero_le _, ⟨HT0.out, Ps.nil _ _⟩, rfl, HB0.out⟩
  case round =>
    obtain ⟨i, g, t, H, a2, m2, c2, rfl, rfl, rfl, hi, htp, hl, hb⟩ := hrel
    have HTP := Lib.hid htp
    have HLT := Lib.hid hl
    have HB := Lib.hid hb
    have HLEN : Hid ((treeL t).length ≤ 1000) := Lib.hid (by rw [hl]; have := chLs_len most (ms.take i) (l := []) List.Pairwise.nil; rw [List.length_take] at this; simp at this; omega)
    clear htp hl hb
    by_cases hlt : i < n
    · have hlt2 : (i : Int) < (n : Int) := by omega
      have hil : i < ms.length := by rw [HL.out]; exact hlt
      obtain ⟨b, off, -, hbs, rfl, hcell⟩ := (HO.out.below HB.out).at (by omega)
      have hr := hcell i hil
      obtain ⟨o, ho⟩ : ∃ o, o = ms[i]'hil := ⟨_, rfl⟩
      have HOK : Hid (OpOk o) := Lib.hid (by rw [ho]; exact HO.out.2.2 _ (List.getElem_mem hil))
      have HTK : Hid (ms.take (i + 1) = ms.take i ++ [o]) := Lib.hid (by rw [List.take_succ_eq_append_getElem hil, ho])
      rw [← ho] at hr
      obtain ⟨ob, hob⟩ : ∃ ob, ob = off + i * 3 := ⟨_, rfl⟩
      rw [← hob] at hr
      have hob2 : off + i * 3 = ob := hob.symm
      have HR := Lib.hid hr
      have ldo := run_loadOp hr
      have HLTi := Lib.hid hlt
      have hwi : IntKind.i64.wrap ((i : Int) + 1) = (i : Int) + 1 := i64_id _ (by omega) (by omega)
      clear hcell hr ho hob hlt hil hbs
      go_upto_region 7 with (go_at_call 13; refine (HCH.out _ _ _ _ o HTP.out.tt (Nat.le_trans HLEN.out (by omega)) HOK.out).mono ?_; rintro e w3 ⟨g3, t3, H3, rfl, ht3, hl3, -, hb3⟩; have HT3 := Lib.hid ht3; have HL3 := Lib.hid hl3; have HB3 := Lib.hid hb3; clear ht3 hl3 hb3)
      clear ldo
      have ldo := run_loadOp (range_below HR.out (by rw [OpM.cells_len]; omega) HB3.out)
      go_wp2_with (go_at_call 14; refine (HP1.out _ _ _ _ _ _ o (HTP.out.pp.below HB3.out) HTP.out.tt.so (by have := HTP.out.pp.1; have := HLEN.out; omega) HOK.out).mono ?_; rintro e w4 ⟨a4, m4, c4, rfl, hp4, hb4⟩; have HP4 := Lib.hid hp4; have HB4 := Lib.hid hb4; clear hp4 hb4)
      go_roundw
      case rel =>
        refine ⟨i + 1, g3, t3, H3, a4, m4, c4, rfl, rfl, by go_num, by have := HLTi.out; omega, ⟨HT3.out.under HB4.out, ?_⟩, ?_, ?_⟩
        · have h := HP4.out
          rw [← HL3.out] at h
          refine h.dom (fun b hb => hb.elim id (fun h2 => Nat.le_trans ?_ h2))
          have := HB.out.size; have := HB3.out.size
          omega
        · rw [HL3.out, HLT.out, HTK.out, chLs_snoc]
        · exact HB.out.trans ((HB3.out.trans (HB4.out.mono HB3.out.size)).mono HB.out.size)
      case measure => (try go_num); (try (simp only [intOf])); have := HLTi.out; omega
    · have hge : ¬ (i : Int) < (n : Int) := by omega
      have HE : Hid (treeL t = chLs most [] ms) := Lib.hid (by rw [HLT.out, show i = ms.length by have := HL.out; omega, List.take_length])
      clear hlt
      go_wp2
      refine bodyPost_ret (results_tmp3 rfl _ _ _) rfl ?_
      exact ⟨g, t, H, a2, m2, c2, rfl, HTP.out, HE.out, HB.out⟩
theorem Ops.upto {D : Nat → Prop} {w : World} {a : Option Addr} {n c : Nat} {ms : List OpM} (h : Ops D w a n c ms) (k : Nat) (hk : k ≤ n) : Ops D w a k c (ms.take k) := by
  obtain ⟨h1, ⟨h2, h3, h4, h5, h6⟩, h7⟩ := h
  have e : opcells (ms.take k) = (opcells ms).take (k * 3) := by
    conv => rhs; rw [← List.take_append_drop k ms]
    have e2 : opcells (ms.take k ++ ms.drop k) = opcells (ms.take k) ++ opcells (ms.drop k) := by unfold opcells; rw [List.flatMap_append]
    have e3 : (opcells (ms.take k)).length = k * 3 := by rw [opcells_len, List.length_take]; congr 1; omega
    rw [e2, ← e3, List.take_left]
  refine ⟨by rw [List.length_take]; omega, ⟨by rw [opcells_len, List.length_take]; congr 1; omega, by omega, h4, h5, fun hp => ?_⟩, fun m hm => h7 m (List.mem_of_mem_take hm)⟩
  obtain ⟨b, off, hD, ha, hr⟩ := h6 (by omega)
  refine ⟨b, off, hD, ha, fun j u hu => hr j u ?_⟩
  rw [e, List.getElem?_take] at hu
  split at hu
  · exact hu
  · cases hu
/-- Put of any key and value -/
theorem put_all {w : World} {g : Nat} {t : Option BT} {H : Nat} (h : TT w g t H) (hlen : (treeL t).length ≤ 1000000) (key value : ByteArray) :
    Calls Try.prog 25 #[.pointer (some ⟨g, 0, none⟩), .string key, .string value] w fun e w' => ∃ g' t' H', e = .returned (.pointer (some ⟨g', 0, none⟩)) ∧ TT w' g' t' H' ∧ treeL t' = putR (treeL t) key value ∧ Below w.heap.size w w' := by
  by_cases hok : key.size ≤ 60 ∧ value.size ≤ 1000
  · refine (put_tree h hlen key value hok.1 hok.2).mono ?_
    rintro e w' ⟨g', t', H', rfl, h1, h2, -, -, h3⟩
    exact ⟨g', t', H', rfl, h1, by rw [h2, putR_ins h.so key value hok], h3⟩
  · refine (put_bad key value hok).mono ?_
    rintro e w' ⟨rfl, rfl⟩
    exact ⟨g, t, H, rfl, h, by rw [putR_bad _ _ _ hok], Below.refl _ _⟩
end Go.Proofs.Ytfgmhidgkemfoaa
namespace Go.Proofs.Ytfgmhidgkemfoaa
open Go.RowKit
set_option linter.unusedSimpArgs false
set_option linter.unusedVariables false
attribute [local go_sem ↓] exec_loadPair exec_storePair exec_at_zeroP exec_at_succP Go.wp_at_zero Go.wp_at_succ
attribute [local go_sem] run_storePair
theorem none_len : (treeL (none : Option BT)).length ≤ 1000000 := by show ([] : List KV).length ≤ 1000000; simp
theorem s1_60 (a : UInt8) : (s1 a).size ≤ 60 := by show 1 ≤ 60; omega
theorem s1_1000 (a : UInt8) : (s1 a).size ≤ 1000 := by show 1 ≤ 1000; omega
theorem ins_one (p : KV) : (insL (treeL (none : Option BT)) p).length ≤ 1000000 := by
  have h := insL_le (treeL (none : Option BT)) p
  have e : (treeL (none : Option BT)).length = 0 := rfl
  omega
set_option maxRecDepth 100000 in
set_option maxHeartbeats 400000 in
theorem lives_any (w : World) : Calls Try.prog 19 #[] w fun e w' => e = .returned (.bool true) ∧ Below w.heap.size w w' := by
  go_enter Try.func19, Try.ntmps19
  go_upto_region 4 with (go_at_call 12; refine (new_any _).mono ?_; rintro e w1 ⟨g0, rfl, ht0, -, hb0⟩; have HT0 := Lib.hid ht0; have HB0 := Lib.hid hb0; clear ht0 hb0)
  go_upto_region 5 with (first
    | (go_at_call_has 25 (Value.pointer (some ⟨g0, 0, none⟩)); refine (put_tree HT0.out none_len (s1 100) (s1 50) (s1_60 _) (s1_1000 _)).mono ?_; rintro e w2 ⟨g1, t1, H1, rfl, ht1, hl1, -, -, hb1⟩; have HT1 := Lib.hid ht1; have HL1 := Lib.hid hl1; have HB1 := Lib.hid hb1; clear ht1 hl1 hb1)
    | (go_at_call_has 25 (Value.pointer (some ⟨g1, 0, none⟩)); refine (put_tree HT1.out (by rw [HL1.out]; exact ins_one _) (s1 98) (s1 49) (s1_60 _) (s1_1000 _)).mono ?_; rintro e w3 ⟨gA, tA, HA, rfl, htA, hlA, -, -, hb2⟩; have HTA := Lib.hid htA; have HLA := Lib.hid hlA; have HB2 := Lib.hid hb2; clear htA hlA hb2))
  have HLA2 : Hid (treeL tA = livA) := Lib.hid (by rw [HLA.out, HL1.out]; exact livA_eq)
  have HBA : Hid (Below w1.heap.size w1 w3) := Lib.hid (HB1.out.trans (HB2.out.mono HB1.out.size))
  have HT03 := Lib.hid (HT0.out.under HBA.out)
  go_upto_region 6 with (first
    | (go_at_call_has 25 (Value.pointer (some ⟨g0, 0, none⟩)); refine (put_tree HT03.out none_len (s1 101) (s1 52) (s1_60 _) (s1_1000 _)).mono ?_; rintro e w4 ⟨g3, t3, H3, rfl, ht3, hl3, -, -, hb3⟩; have HT3 := Lib.hid ht3; have HL3 := Lib.hid hl3; have HB3 := Lib.hid hb3; clear ht3 hl3 hb3)
    | (go_at_call_has 25 (Value.pointer (some ⟨g3, 0, none⟩)); refine (put_tree HT3.out (by rw [HL3.out]; exact ins_one _) (s1 100) (s1 51) (s1_60 _) (s1_1000 _)).mono ?_; rintro e w5 ⟨gB, tB, HB, rfl, htB, hlB, -, -, hb4⟩; have HTB := Lib.hid htB; have HLB := Lib.hid hlB; have HB4 := Lib.hid hb4; clear htB hlB hb4))
  have HLB2 : Hid (treeL tB = livB) := Lib.hid (by rw [HLB.out, HL3.out]; exact livB_eq)
  have HB35 : Hid (Below w3.heap.size w3 w5) := Lib.hid (HB3.out.trans (HB4.out.mono HB3.out.size))
  have HTA5 := Lib.hid (HTA.out.under HB35.out)
  have HT05 := Lib.hid (HT03.out.under HB35.out)
  have HBW : Hid (Below w.heap.size w w5) := Lib.hid (HB0.out.trans ((HBA.out.trans (HB35.out.mono HBA.out.size)).mono HB0.out.size))
  have HFC : Hid (∀ u, Below w5.heap.size w5 u → Calls Try.prog 35 #[.pointer (some ⟨gA, 0, none⟩), .string (s1 99)] u fun e u' => e = .returned (.tuple #[.agg #[.string (s1 98), .string (s1 49)], .bool true]) ∧ Below u.heap.size u u') := Lib.hid (fun u hu => by
    have h := floor_any (HTA5.out.under hu).tr HTA5.out.ok HTA5.out.so (s1 99)
    rw [HLA2.out, livF] at h
    exact h)
  have HFA : Hid (∀ u, Below w5.heap.size w5 u → Calls Try.prog 35 #[.pointer (some ⟨gA, 0, none⟩), .string (s1 97)] u fun e u' => e = .returned (.tuple #[.agg #[.string emptyS, .string emptyS], .bool false]) ∧ Below u.heap.size u u') := Lib.hid (fun u hu => by
    have h := floor_any (HTA5.out.under hu).tr HTA5.out.ok HTA5.out.so (s1 97)
    rw [HLA2.out, livG] at h
    exact h)
  clear HT0 HB0 HT1 HL1 HB1 HLA HBA HT03 HT3 HL3 HB3 HLB HB4 HTA HB2 HB35
  go_upto_region 7 with (go_at_call 35; refine (HFC.out _ (Below.refl _ _)).mono ?_; rintro e w6 ⟨rfl, hb6⟩; have HB6 := Lib.hid hb6; have p6 : PB (w6.alloc (.cells #[.string ⟨#[]⟩, .string ⟨#[]⟩] 65)) w6.heap.size := ⟨⟨⟨#[]⟩, ⟨#[]⟩⟩, heap_new rfl⟩; clear hb6)
  have hx6 : Below w6.heap.size w6 ((w6.alloc (.cells #[.string ⟨#[]⟩, .string ⟨#[]⟩] 65)).setRow w6.heap.size #[.string (s1 98), .string (s1 49)]) :=
    ((((Kept.of_below (fun _ => False) (Below.refl w6.heap.size w6)).alloc _).setRow (fun h => by omega) _).below (Nat.le_refl _) (fun _ _ h => h))
  have hp6 : ((w6.alloc (.cells #[.string ⟨#[]⟩, .string ⟨#[]⟩] 65)).setRow w6.heap.size #[.string (s1 98), .string (s1 49)]).heap[w6.heap.size]? = some (.cells #[.string (s1 98), .string (s1 49)] 65 (0, 0)) := setRow_heap _ _ _ _ _ _ (heap_new rfl)
  obtain ⟨X, hX⟩ : ∃ X, X = w6.heap.size := ⟨_, rfl⟩
  have HB6W : Hid (Below w5.heap.size w5 ((w6.alloc (.cells #[.string ⟨#[]⟩, .string ⟨#[]⟩] 65)).setRow w6.heap.size #[.string (s1 98), .string (s1 49)])) := Lib.hid (HB6.out.trans (hx6.mono HB6.out.size))
  rw [← hX] at HB6W hp6 ⊢
  obtain ⟨W6, hW6⟩ : ∃ W6, W6 = (w6.alloc (.cells #[.string ⟨#[]⟩, .string ⟨#[]⟩] 65)).setRow X #[.string (s1 98), .string (s1 49)] := ⟨_, rfl⟩
  have HP6 := Lib.hid hp6
  rw [← hW6] at HB6W HP6 ⊢
  clear hW6 hX hx6 hp6 HB6 p6 HFC
  go_upto_region 8 with (go_at_call 35; refine (HFA.out _ HB6W.out).mono ?_; rintro e w7 ⟨rfl, hb7⟩; have HB7 := Lib.hid hb7; have p7 : PB (w7.alloc (.cells #[.string ⟨#[]⟩, .string ⟨#[]⟩] 65)) w7.heap.size := ⟨⟨⟨#[]⟩, ⟨#[]⟩⟩, heap_new rfl⟩; clear hb7)
  have hx7 : Below w7.heap.size w7 ((w7.alloc (.cells #[.string ⟨#[]⟩, .string ⟨#[]⟩] 65)).setRow w7.heap.size #[.string emptyS, .string emptyS]) :=
    ((((Kept.of_below (fun _ => False) (Below.refl w7.heap.size w7)).alloc _).setRow (fun h => by omega) _).below (Nat.le_refl _) (fun _ _ h => h))
  obtain ⟨W7, hW7⟩ : ∃ W7, W7 = (w7.alloc (.cells #[.string ⟨#[]⟩, .string ⟨#[]⟩] 65)).setRow w7.heap.size #[.string emptyS, .string emptyS] := ⟨_, rfl⟩
  rw [← hW7] at hx7 ⊢
  have HB67 : Hid (Below W6.heap.size W6 W7) := Lib.hid (HB7.out.trans (hx7.mono HB7.out.size))
  have HB57 : Hid (Below w5.heap.size w5 W7) := Lib.hid (HB6W.out.trans (HB67.out.mono HB6W.out.size))
  have HP7 : Hid (W7.heap[X]? = some (.cells #[.string (s1 98), .string (s1 49)] 65 (0, 0))) := Lib.hid ((HB67.out.block _ (Array.getElem?_eq_some_iff.1 HP6.out).1).trans HP6.out)
  have HTA7 := Lib.hid (HTA5.out.under HB57.out)
  have HTB7 := Lib.hid (HTB.out.under HB57.out)
  have HT07 := Lib.hid (HT05.out.under HB57.out)
  have HBW7 : Hid (Below w.heap.size w W7) := Lib.hid (HBW.out.trans (HB57.out.mono HBW.out.size))
  clear hW7 hx7 HB7 p7 HFA HB67 HB57 HTA5 HTB HT05 HBW HB6W HP6
  have HKEY : Hid (∀ (q : Nat) (u : World), q < 4000 → Calls Try.prog 15 #[.int .i64 (q : Int)] u fun e w' => e = .returned (.string (keyB q)) ∧ Below u.heap.size u w') := Lib.hid (fun q u hq => by
    have h := key_any (q : Int) (by omega) (by omega) u
    have e : (aroundT (q : Int) 4000).toNat = q := by
      unfold aroundT
      rw [if_neg (by omega)]
      omega
    rw [e] at h
    exact h)
  go_wp2
  go_loopw [8, 9] (fun u x wr => ∃ (i g : Nat) (t : Option BT) (H : Nat), u = .pointer (some ⟨g, 0, none⟩) ∧ x = .int .i64 (i : Int) ∧ i ≤ 9 ∧ TT wr g t H ∧ treeL t = nineL i ∧ Below W7.heap.size W7 wr) (fun _ x _ => 9 - (intOf x).toNat)
  case atStart => exact ⟨0, g0, none, 0, rfl, rfl, Nat.zero_le _, HT07.out, rfl, Below.refl _ _⟩
  case round =>
    obtain ⟨i, g, t, H, rfl, rfl, hi, ht, hl, hb⟩ := hrel
    have HT := Lib.hid ht
    have HL := Lib.hid hl
    have HB := Lib.hid hb
    have HLEN : Hid ((treeL t).length = i) := Lib.hid (by rw [hl]; exact nine_len i hi)
    have HHI : Hid (H ≤ 100000) := Lib.hid (Nat.le_trans (tok_high ht.ok 2 (by rw [HLEN.out]; omega)) (by omega))
    clear ht hl hb
    by_cases hlt : i < 9
    · have hlt2 : (i : Int) < 9 := by omega
      have HPUT : Hid (∀ u, Below wr.heap.size wr u → Calls Try.prog 25 #[.pointer (some ⟨g, 0, none⟩), .string (keyB i), .string xB] u (PutT u t H ⟨keyB i, xB⟩)) := Lib.hid (fun u hu => put_tree (HT.out.under hu) (by have := HLEN.out; omega) (keyB i) xB (by rw [keyB_size]; omega) (by show 1 ≤ 1000; omega))
      have HLT := Lib.hid hlt
      by_cases h7 : 0 < i ∧ i < 7
      · have h70 : (0 : Int) < (i : Int) := by omega
        have h71 : (i : Int) < 7 := by omega
        have HH1 : Hid (H = 1) := Lib.hid (by
          have h1 := tok_high HT.out.ok 1 (by rw [HLEN.out]; omega)
          have h2 : H ≠ 0 := fun e => by
            have := (tok_zero HT.out.ok).1 e
            have h3 := HLEN.out
            rw [this] at h3
            simp at h3
            omega
          omega)
        clear hlt h7
        go_wp2_with (first
          | (go_at_call 22; refine (height_any HT.out.tr HT.out.ok HHI.out).mono ?_; rintro e w8 ⟨rfl, hb8⟩; have HB8 := Lib.hid hb8; clear hb8; rw [HH1.out])
          | (go_at_call 15; refine (HKEY.out i _ (by have := HLT.out; omega)).mono ?_; rintro e w9 ⟨rfl, hb9⟩; have HB9 := Lib.hid hb9; clear hb9)
          | (go_at_call 25; refine (HPUT.out _ (HB8.out.trans (HB9.out.mono HB8.out.size))).mono ?_; rintro e w10 ⟨g3, t3, H3, rfl, ht3, hl3, -, -, hb3⟩; have HT3 := Lib.hid ht3; have HL3 := Lib.hid hl3; have HB3 := Lib.hid hb3; clear ht3 hl3 hb3))
        go_roundw
        case rel => exact ⟨i + 1, g3, t3, H3, rfl, by go_num, by have := HLT.out; omega, HT3.out, by rw [HL3.out, HL.out, nine_succ], HB.out.trans (((HB8.out.trans (HB9.out.mono HB8.out.size)).trans (HB3.out.mono (Nat.le_trans HB8.out.size HB9.out.size))).mono HB.out.size)⟩
        case measure => (try go_num); (try (simp only [intOf])); have := HLT.out; omega
      · by_cases h0 : i = 0
        · have h70 : ¬ (0 : Int) < (i : Int) := by omega
          clear hlt h7 h0
          go_wp2_with (first
            | (go_at_call 15; refine (HKEY.out i _ (by have := HLT.out; omega)).mono ?_; rintro e w9 ⟨rfl, hb9⟩; have HB9 := Lib.hid hb9; clear hb9)
            | (go_at_call 25; refine (HPUT.out _ HB9.out).mono ?_; rintro e w10 ⟨g3, t3, H3, rfl, ht3, hl3, -, -, hb3⟩; have HT3 := Lib.hid ht3; have HL3 := Lib.hid hl3; have HB3 := Lib.hid hb3; clear ht3 hl3 hb3))
          go_roundw
          case rel => exact ⟨i + 1, g3, t3, H3, rfl, by go_num, by have := HLT.out; omega, HT3.out, by rw [HL3.out, HL.out, nine_succ], HB.out.trans ((HB9.out.trans (HB3.out.mono HB9.out.size)).mono HB.out.size)⟩
          case measure => (try go_num); (try (simp only [intOf])); have := HLT.out; omega
        · have h70 : (0 : Int) < (i : Int) := by omega
          have h71 : ¬ (i : Int) < 7 := by omega
          clear hlt h7 h0
          go_wp2_with (first
            | (go_at_call 15; refine (HKEY.out i _ (by have := HLT.out; omega)).mono ?_; rintro e w9 ⟨rfl, hb9⟩; have HB9 := Lib.hid hb9; clear hb9)
            | (go_at_call 25; refine (HPUT.out _ HB9.out).mono ?_; rintro e w10 ⟨g3, t3, H3, rfl, ht3, hl3, -, -, hb3⟩; have HT3 := Lib.hid ht3; have HL3 := Lib.hid hl3; have HB3 := Lib.hid hb3; clear ht3 hl3 hb3))
          go_roundw
          case rel => exact ⟨i + 1, g3, t3, H3, rfl, by go_num, by have := HLT.out; omega, HT3.out, by rw [HL3.out, HL.out, nine_succ], HB.out.trans ((HB9.out.trans (HB3.out.mono HB9.out.size)).mono HB.out.size)⟩
          case measure => (try go_num); (try (simp only [intOf])); have := HLT.out; omega
    · have hge : ¬ (i : Int) < 9 := by omega
      have HH2 : Hid (H = 2) := Lib.hid (by
        have h1 := tok_high HT.out.ok 2 (by rw [HLEN.out]; omega)
        have h2 : H ≠ 0 := fun e => by
          have := (tok_zero HT.out.ok).1 e
          have h3 := HLEN.out
          rw [this] at h3
          simp at h3
          omega
        have h3 : H ≠ 1 := fun e => by
          have h4 := (tok_bounds HT.out.ok h2).2
          rw [e, HLEN.out] at h4
          omega
        omega)
      have HRG : Hid (∀ u, Below wr.heap.size wr u → Calls Try.prog 29 #[.pointer (some ⟨gA, 0, none⟩), .string (s1 98), .string (s1 100)] u fun e W' => ∃ a n c, e = .returned (.slice a n c) ∧ Ps (fun _ => True) W' a n c [⟨s1 98, s1 49⟩] ∧ Below u.heap.size u W') := Lib.hid (fun u hu => by
        have h := range_any ((HTA7.out.under HB.out).under hu) (s1 98) (s1 100) (by rw [HLA2.out]; decide)
        rw [HLA2.out, livR] at h
        refine h.mono ?_
        rintro e W' ⟨v, rfl, hr, hb⟩
        obtain ⟨a, n, c, rfl, hp⟩ := Ps.row hr
        exact ⟨a, n, c, rfl, hp.dom (fun _ _ => trivial), hb⟩)
      have HP8 : Hid (wr.heap[X]? = some (.cells #[.string (s1 98), .string (s1 49)] 65 (0, 0))) := Lib.hid ((HB.out.block _ (Array.getElem?_eq_some_iff.1 HP7.out).1).trans HP7.out)
      clear hlt hi
      have HSM : Hid (∀ (u : World) (a : Option Addr) (n c : Nat), Ps (fun _ => True) u a n c [⟨s1 98, s1 49⟩] → Calls Try.prog 30 #[.slice a n c, .slice (some ⟨u.heap.size, 0, none⟩) 1 1] (u.alloc (.cells #[.string ⟨#[98]⟩, .string ⟨#[49]⟩] 65)) fun e W' => e = .returned (.bool true) ∧ Below u.heap.size u W') := Lib.hid (fun u a n c hp => by
        have hal : Below u.heap.size u (u.alloc (.cells #[.string ⟨#[98]⟩, .string ⟨#[49]⟩] 65)) := (Below.refl _ u).alloc (Nat.le_refl _) _
        have h := same_any (hp.below hal) (Ps.new1 u ⟨#[98]⟩ ⟨#[49]⟩)
        have e : decide ([(⟨s1 98, s1 49⟩ : KV)] = [⟨⟨#[98]⟩, ⟨#[49]⟩⟩]) = true := decide_eq_true rfl
        rw [e] at h
        exact h.mono (fun e W' h => ⟨h.1, hal.trans (h.2.mono hal.size)⟩))
      go_upto_region 17 with (first
        | (go_at_call 29; refine (HRG.out _ (Below.refl _ _)).mono ?_; rintro e w11 ⟨a1, n1, c1, rfl, hp1, hb1⟩; have HP1 := Lib.hid hp1; have HB1 := Lib.hid hb1; clear hp1 hb1)
        | (go_at_call 30; refine (HSM.out _ _ _ _ HP1.out).mono ?_; rintro e w12 ⟨rfl, hb12⟩; have HB12 := Lib.hid (HB1.out.trans (hb12.mono HB1.out.size)); have c1 : w12.cell? ⟨X, 1, none⟩ = some (.string ⟨#[49]⟩) := cell_of_row w12 X 1 _ _ _ ((HB12.out.block _ (Array.getElem?_eq_some_iff.1 HP8.out).1).trans HP8.out); clear hb12)
        | (go_at_call 22; refine (height_any (HT.out.under HB12.out).tr HT.out.ok HHI.out).mono ?_; rintro e w13 ⟨rfl, hb13⟩; have HB13 := Lib.hid (HB12.out.trans (hb13.mono HB12.out.size)); clear hb13; rw [HH2.out]))
      have HB713 : Hid (Below W7.heap.size W7 w13) := Lib.hid (HB.out.trans (HB13.out.mono HB.out.size))
      clear c1
      have HDF : Hid (∀ u, Below w13.heap.size w13 u → Calls Try.prog 32 #[.pointer (some ⟨gA, 0, none⟩), .pointer (some ⟨gB, 0, none⟩)] u fun e W' => ∃ a n c, e = .returned (.slice a n c) ∧ Es (fun _ => True) W' a n c livE ∧ Below u.heap.size u W') := Lib.hid (fun u hu => by
        have h := diff_any ((HTA7.out.under HB713.out).under hu) ((HTB7.out.under HB713.out).under hu) (by rw [HLA2.out]; decide) (by rw [HLB2.out]; decide)
        rw [HLA2.out, HLB2.out, livE_eq] at h
        refine h.mono ?_
        rintro e W' ⟨v, rfl, hr, hb⟩
        obtain ⟨a, n, c, rfl, hp⟩ := Es.row hr
        exact ⟨a, n, c, rfl, ⟨hp.1, hp.2.dom (fun _ _ => trivial)⟩, hb⟩)
      go_upto_region 18 with fail
      have hal : Below w13.heap.size w13 (w13.alloc (.cells #[.string ⟨#[98]⟩, .string ⟨#[]⟩, .bool true, .string ⟨#[100]⟩, .string ⟨#[51]⟩, .bool false, .string ⟨#[101]⟩, .string ⟨#[52]⟩, .bool false] 61)) := (Below.refl _ w13).alloc (Nat.le_refl _) _
      have hes : Es (fun _ => True) (w13.alloc (.cells #[.string ⟨#[98]⟩, .string ⟨#[]⟩, .bool true, .string ⟨#[100]⟩, .string ⟨#[51]⟩, .bool false, .string ⟨#[101]⟩, .string ⟨#[52]⟩, .bool false] 61)) (some ⟨w13.heap.size, 0, none⟩) 3 3 livE := Es.new3 w13 ⟨⟨#[98]⟩, ⟨#[]⟩, true⟩ ⟨⟨#[100]⟩, ⟨#[51]⟩, false⟩ ⟨⟨#[101]⟩, ⟨#[52]⟩, false⟩
      obtain ⟨w14, hw14⟩ : ∃ z, z = w13.alloc (.cells #[.string ⟨#[98]⟩, .string ⟨#[]⟩, .bool true, .string ⟨#[100]⟩, .string ⟨#[51]⟩, .bool false, .string ⟨#[101]⟩, .string ⟨#[52]⟩, .bool false] 61) := ⟨_, rfl⟩
      rw [← hw14] at hal hes ⊢
      have HAL := Lib.hid hal
      have HES := Lib.hid hes
      clear hw14 hal hes
      have HSE : Hid (∀ (u : World) (a : Option Addr) (n c : Nat), Below w14.heap.size w14 u → Es (fun _ => True) u a n c livE → Calls Try.prog 33 #[.slice a n c, .slice (some ⟨w13.heap.size, 0, none⟩) 3 3] u fun e W' => e = .returned (.bool true) ∧ Below u.heap.size u W') := Lib.hid (fun u a n c hu hp => by
        have h := sameE_any hp (HES.out.below hu)
        rw [decide_eq_true rfl] at h
        exact h)
      have HL0 : Hid (∀ u, Below w14.heap.size w14 u → Calls Try.prog 23 #[.pointer (some ⟨g0, 0, none⟩)] u fun e W' => e = .returned (.int .i64 0) ∧ u = W') := Lib.hid (fun u hu => len_any (((HT07.out.under HB713.out).under HAL.out).under hu).tr)
      have HLA : Hid (∀ u, Below w14.heap.size w14 u → Calls Try.prog 23 #[.pointer (some ⟨gA, 0, none⟩)] u fun e W' => e = .returned (.int .i64 2) ∧ u = W') := Lib.hid (fun u hu => by
        have h := len_any (((HTA7.out.under HB713.out).under HAL.out).under hu).tr
        rw [HLA2.out] at h
        exact h)
      go_wp2_with (first
        | (go_at_call 32; refine (HDF.out _ HAL.out).mono ?_; rintro e w15 ⟨a2, n2, c2, rfl, hp2, hb2⟩; have HP2 := Lib.hid hp2; have HB2 := Lib.hid hb2; clear hp2 hb2)
        | (go_at_call 33; refine (HSE.out _ _ _ _ HB2.out HP2.out).mono ?_; rintro e w16 ⟨rfl, hb16⟩; have HB16 := Lib.hid (HB2.out.trans (hb16.mono HB2.out.size)); clear hb16)
        | (go_at_call_has 23 (Value.pointer (some ⟨g0, 0, none⟩)); refine (HL0.out _ HB16.out).mono ?_; rintro e w17 ⟨rfl, rfl⟩)
        | (go_at_call_has 23 (Value.pointer (some ⟨gA, 0, none⟩)); refine (HLA.out _ HB16.out).mono ?_; rintro e w17 ⟨rfl, rfl⟩))
      go_ret
      exact ⟨rfl, HBW7.out.trans ((HB713.out.trans ((HAL.out.trans (HB16.out.mono HAL.out.size)).mono HB713.out.size)).mono HBW7.out.size)⟩
end Go.Proofs.Ytfgmhidgkemfoaa
namespace Go.Proofs.Ytfgmhidgkemfoaa
open Go.RowKit
set_option linter.unusedSimpArgs false
set_option linter.unusedVariables false
/-- a tree lives where only a Reader changes -/
theorem TT.reader {w w' : World} {gr : Nat} {a : Option Addr} {n c : Nat} {e : Int} (hr : w.heap[gr]? = some (.cells #[.slice a n c, .int .i64 e] 113 (0, 0))) (hk : Kept (fun j => j = gr) w w') {g : Nat} {t : Option BT} {H : Nat} (h : TT w g t H) : TT w' g t H := by
  obtain ⟨v, h1, h2⟩ := h.tr
  have hgg : g ≠ gr := by
    rintro rfl
    rw [hr] at h1
    simp at h1
  refine ⟨⟨v, hk.heap h1 hgg, ?_⟩, h.ok, h.so⟩
  cases t with
  | none => exact h2
  | some b =>
    obtain ⟨g1, e1, e2⟩ := h2
    refine ⟨g1, e1, e2.1, ?_⟩
    have hnd : ∀ {D : Nat → Prop} {T : BT}, NdD D w T → NdD (fun c => c ≠ gr) w T := by
      intro D T hT
      induction hT with
      | @mk g a' b' n' c' m' e' ps ks h0 h1 h2 h3 h5 ih =>
        refine .mk ?_ h1 ⟨h2.1, ?_⟩ ⟨h3.1, ?_⟩ ih
        · rintro rfl
          rw [hr] at h1
          simp at h1
        · obtain ⟨q1, q2, q3, q4, q5, q6⟩ := h2
          refine ⟨q2, q3, q4, q5, fun hn => ?_⟩
          obtain ⟨b2, off, -, ha, hrr⟩ := q6 hn
          refine ⟨b2, off, ?_, ha, hrr⟩
          rintro rfl
          match ps, q1, hrr with
          | [], q1, _ => simp at q1; omega
          | p :: rest, q1, hrr =>
            have hc := hrr 0 (.string p.k) rfl
            rw [cell_of_row _ b2 (off + 0) _ _ _ hr, Nat.add_zero] at hc
            match off, hc with
            | 0, hc => simp at hc
            | 1, hc => simp at hc
            | off + 2, hc => simp at hc
        · obtain ⟨q1, q2, q3, q4, q5, q6⟩ := h3
          refine ⟨q2, q3, q4, q5, fun hn => ?_⟩
          obtain ⟨b2, off, -, ha, hrr⟩ := q6 hn
          refine ⟨b2, off, ?_, ha, hrr⟩
          rintro rfl
          match ks, q1, hrr with
          | [], q1, _ => simp at q1; omega
          | p :: rest, q1, hrr =>
            have hc := hrr 0 (.pointer (some ⟨p.g, 0, none⟩)) rfl
            rw [cell_of_row _ b2 (off + 0) _ _ _ hr, Nat.add_zero] at hc
            match off, hc with
            | 0, hc => simp at hc
            | 1, hc => simp at hc
            | off + 2, hc => simp at hc
    exact ((hnd e2.2).kept hk (fun c _ hd hs => hd hs)).dom (fun _ _ => trivial)
theorem Rd.reader {w : World} {gr : Nat} {k : Option Nat} {l : List UInt8} {e : Nat} (h : Wi.Rd w gr k l e) : ∃ a c, w.heap[gr]? = some (.cells #[.slice a l.length c, .int .i64 (e : Int)] 113 (0, 0)) := by
  obtain ⟨a, c, h1, -⟩ := h
  exact ⟨a, c, h1⟩
/-- what is written of a pair, of some -/
def encKV (p : KV) : List UInt8 := Wi.encT p.k.data.toList ++ Wi.encT p.v.data.toList
def encAll (l : List KV) : List UInt8 := l.flatMap encKV
theorem encAll_app (a b : List KV) : encAll (a ++ b) = encAll a ++ encAll b := by unfold encAll; rw [List.flatMap_append]
/-- the keys and values of the law's trees are short -/
def Small (l : List KV) : Prop := ∀ p ∈ l, p.k.size ≤ 60 ∧ p.v.size ≤ 100
theorem chLs_small (most : Int) : ∀ (ms : List OpM) {l : List KV}, Small l → Small (chLs most l ms)
  | [], l, h => h
  | m :: ms, l, h => by
    refine chLs_small most ms (l := chL l m most) (fun p hp => ?_)
    unfold chL at hp
    split at hp
    · exact h p (mem_delL.1 hp).1
    · rcases mem_insL.1 hp with rfl | ⟨hp, -⟩
      · exact ⟨by show (chK m most).size ≤ 60; rw [chK_size]; omega, by show 2 ≤ 100; omega⟩
      · exact h p hp
theorem encT_len (s : List UInt8) (h : s.length ≤ 100) : (Wi.encT s).length ≤ 110 := by
  unfold Wi.encT
  rw [List.length_append]
  have := Wi.encU_len10 s.length (by omega)
  omega
theorem encKV_len {p : KV} (h : p.k.size ≤ 60 ∧ p.v.size ≤ 100) : (encKV p).length ≤ 220 := by
  unfold encKV
  rw [List.length_append]
  have h1 := encT_len p.k.data.toList (by have : p.k.data.toList.length = p.k.size := rfl; omega)
  have h2 := encT_len p.v.data.toList (by have : p.v.data.toList.length = p.v.size := rfl; omega)
  omega
theorem encAll_len : ∀ {l : List KV}, Small l → (encAll l).length ≤ 220 * l.length
  | [], _ => by simp [encAll]
  | p :: l, h => by
    have h1 := encKV_len (h p (List.mem_cons_self ..))
    have h2 := encAll_len (l := l) (fun q hq => h q (List.mem_cons_of_mem _ hq))
    have e : encAll (p :: l) = encKV p ++ encAll l := rfl
    rw [e, List.length_append, List.length_cons]
    omega
theorem Small.sub {l l' : List KV} (h : Small l) (hs : ∀ p ∈ l', p ∈ l) : Small l' := fun p hp => h p (hs p hp)
theorem drop_rev (l : List KV) (j : Nat) (hj : j < l.length) : (l.drop j).reverse = (l.drop (j + 1)).reverse ++ [l[j]] := by
  rw [List.drop_eq_getElem_cons hj, List.reverse_cons]
theorem take_rev (l : List KV) (j : Nat) (hj : j < l.length) : encAll (l.take (j + 1)).reverse = encKV l[j] ++ encAll (l.take j).reverse := by
  rw [List.take_succ_eq_append_getElem hj, List.reverse_append, List.reverse_singleton, encAll_app]
  congr 1
  simp [encAll]
theorem ins_front {l : List KV} (hs : Sorted l) (j : Nat) (hj : j < l.length) : insL (l.drop (j + 1)) l[j] = l.drop j := by
  have h1 : l.drop j = l[j] :: l.drop (j + 1) := List.drop_eq_getElem_cons hj
  have h2 : Sorted (l.drop j) := hs.sublist (List.drop_sublist j l)
  rw [h1] at h2
  have h3 := insL_new (A := []) (S := l.drop (j + 1)) (p := l[j]) (by simp) (fun a ha => by
    have h4 := (List.pairwise_cons.1 h2).1 a ha
    have h5 := cmpK_flip l[j].k a.k
    omega)
  rw [h1]
  simpa using h3
theorem str_back (s : ByteArray) : (⟨s.data.toList.toArray⟩ : ByteArray) = s := by cases s; simp
theorem rd_text (s : ByteArray) (r : List UInt8) (most : Int) (h : s.size ≤ 1000) (hm : (s.size : Int) ≤ most) : Wi.rText ⟨Wi.encT s.data.toList ++ r, 0⟩ most = (s.data.toList, ⟨r, 0⟩) := by
  have e : s.data.toList.length = s.size := rfl
  exact Wi.rText_enc _ _ _ (by omega) (by omega)
end Go.Proofs.Ytfgmhidgkemfoaa
namespace Go.Proofs.Ytfgmhidgkemfoaa
open Go.RowKit
set_option linter.unusedSimpArgs false
set_option linter.unusedVariables false
attribute [local go_sem ↓] exec_at_zeroP exec_at_succP Go.wp_at_zero Go.wp_at_succ
set_option maxRecDepth 100000 in
theorem rtext_kv {w : World} {gr : Nat} {k : Option Nat} {s : ByteArray} {r : List UInt8} {most : Int} (h : Wi.Rd w gr k (Wi.encT s.data.toList ++ r) 0) (hs : s.size ≤ 1000) (hm : (s.size : Int) ≤ most) (h63 : most ≤ 1000000) (hr : r.length ≤ 100000) :
    Calls Try.prog 42 #[.pointer (some ⟨gr, 0, none⟩), .int .i64 most] w fun e w' => e = .returned (.string s) ∧ Wi.Rd w' gr k r 0 ∧ Kept (fun j => j = gr) w w' := by
  have e : s.data.toList.length = s.size := rfl
  have h1 := Wi.rtext_any gr k _ 0 most w h (by
    rw [List.length_append]
    unfold Wi.encT
    rw [List.length_append]
    have := Wi.encU_len10 s.data.toList.length (by omega)
    omega) (by omega) (by omega)
  rw [rd_text s r most hs hm] at h1
  refine h1.mono ?_
  rintro x w' ⟨rfl, h2, h3⟩
  exact ⟨by rw [str_back], h2, h3⟩
theorem Ps.kept' {D S : Nat → Prop} {w w' : World} {a : Option Addr} {n c : Nat} {ps : List KV} (h : Ps D w a n c ps) (hk : Kept S w w') (hd : ∀ b, b < w.heap.size → D b → ¬ S b) : Ps D w' a n c ps := ⟨h.1, h.2.kept (by decide) hk hd⟩
set_option maxRecDepth 100000 in
set_option maxHeartbeats 1000000 in
theorem treewire_any {D : Nat → Prop} {w : World} {a : Option Addr} {n c : Nat} {ms : List OpM} (h : Ops D w a n c ms) :
    Calls Try.prog 11 #[.slice a n c] w fun e w' => e = .returned (.bool true) ∧ Below w.heap.size w w' := by
  obtain ⟨k0, hk0⟩ : ∃ k0, k0 = min n 20 := ⟨_, rfl⟩
  have hk0n : k0 ≤ n := by omega
  have HO := Lib.hid (h.upto k0 hk0n)
  have hc1 := h.2.1.2.1
  have hc2 : c ≤ 9223372036854775807 := h.2.1.2.2.1
  have hmin : min (n : Int) 20 = (k0 : Int) := by omega
  have hkc : (k0 : Int) ≤ (c : Int) := by omega
  have HK0 : Hid (k0 ≤ 20) := Lib.hid (by omega)
  have HBU : Hid (Calls Try.prog 24 #[.slice a k0 c, .int .i64 20] w (Built w (ms.take k0) 20)) := Lib.hid (built_any HO.out (Nat.le_trans HK0.out (by omega)) 20 (by omega) (by omega))
  clear h hk0
  go_enter Try.func11, Try.ntmps11
  go_upto_region 2 with (go_at_call 24; refine HBU.out.mono ?_; rintro e w1 ⟨g, t, H, ap, np, cp, rfl, htp, hl, hb1⟩; have HTT := Lib.hid htp.tt; have HLT := Lib.hid hl; have HB1 := Lib.hid hb1; clear htp hl hb1)
  clear hmin hkc HBU HO
  obtain ⟨L, hL⟩ : ∃ L, L = treeL t := ⟨_, rfl⟩
  have HL := Lib.hid hL
  have HSO : Hid (Sorted L) := Lib.hid (by rw [hL]; exact HTT.out.so)
  have HLL : Hid (L.length ≤ 20) := Lib.hid (by
    rw [hL, HLT.out]
    have h := chLs_len 20 (ms.take k0) (l := []) List.Pairwise.nil
    rw [List.length_take] at h
    simp only [List.length_nil] at h
    have := HK0.out
    omega)
  have HSM : Hid (Small L) := Lib.hid (by rw [hL, HLT.out]; exact chLs_small 20 _ (fun p hp => by cases hp))
  clear hL
  go_upto_region 5 with fail
  obtain ⟨w2, hw2⟩ : ∃ w2, w2 = w1.alloc (.cells #[.slice none 0 0] 75) := ⟨_, rfl⟩
  obtain ⟨gw, hgw⟩ : ∃ gw, gw = w1.heap.size := ⟨_, rfl⟩
  have hb2 : Below w1.heap.size w1 w2 := by rw [hw2]; exact (Below.refl _ _).alloc (Nat.le_refl _) _
  have HZ2 : Hid (w2.heap.size = gw + 1) := Lib.hid (by rw [hw2, hgw]; simp)
  have HW2 : Hid (Wi.Wr w2 gw none []) := Lib.hid (by rw [hw2, hgw]; exact ⟨_, heap_new rfl, Own.nil _ _ _, by simp⟩)
  have HT2 := Lib.hid (HTT.out.under hb2)
  have HB2 := Lib.hid hb2
  have HGW := Lib.hid hgw
  rw [← hw2, ← hgw]
  clear hw2 hb2 hgw
  have HRG : Hid (Calls Try.prog 29 #[.pointer (some ⟨g, 0, none⟩), .string emptyS, .string emptyS] w2 fun e w' => ∃ a c, e = .returned (.slice a L.length c) ∧ Ps (fun b => w2.heap.size ≤ b) w' a L.length c L ∧ Below w2.heap.size w2 w') := Lib.hid (by
    have h1 := range_any HT2.out emptyS emptyS (by rw [← HL.out]; have := HLL.out; omega)
    rw [rngL_emp, ← HL.out] at h1
    refine h1.mono ?_
    rintro e w' ⟨v, rfl, h1, h2⟩
    obtain ⟨a, n, c, rfl, h3⟩ := Ps.row h1
    obtain rfl : _ = n := h3.1
    exact ⟨a, c, rfl, h3, h2⟩)
  obtain ⟨N, hN⟩ : ∃ N, N = L.length := ⟨_, rfl⟩
  rw [← hN] at HRG HLL
  have HN := Lib.hid hN
  clear hN
  go_upto_region 6 with (go_at_call 29; refine HRG.out.mono ?_; rintro e w3 ⟨a3, c3, rfl, hps, hb3⟩; have HPS := Lib.hid hps; have HB3 := Lib.hid hb3; have HW3 := Lib.hid (HW2.out.kept (Kept.of_below (fun _ => False) hb3) (fun h => h) (fun _ _ h => h)); clear hps hb3)
  have hwn : IntKind.u64.wrap (N : Int) = (N : Int) := by have := HLL.out; simp only [IntKind.wrap_u64]; omega
  have hN20 := HLL.out
  have hc31 : N ≤ c3 := HPS.out.2.2.1
  have hc32 : c3 ≤ 9223372036854775807 := HPS.out.2.2.2.1
  go_upto_region 7 with (go_at_call 37; refine (Wi.wuint_any gw none [] N _ w3 HW3.out (by simp) (by omega) (by first | rfl | omega | exact hwn)).mono ?_; rintro e w4 ⟨rfl, k4, hw4, hl4⟩; rw [List.nil_append] at hw4; have HW4 := Lib.hid hw4; have HL4 := Lib.hid hl4; clear hw4 hl4)
  have hwm : IntKind.i64.wrap ((N : Int) - 1) = (N : Int) - 1 := i64_id _ (by omega) (by omega)
  have HX4 : Hid (∀ b, k4 = some b → w3.heap.size ≤ b) := Lib.hid (fun b hb => (HL4.out.fresh b hb).elim (fun e => by cases e) id)
  have HK4 : Hid (Kept (fun b => b = gw ∨ w3.heap.size ≤ b) w3 w4) := Lib.hid (HL4.out.kept.mono (fun b _ hb => hb.elim .inl (fun e => by cases e)))
  clear hwn hN20
  go_wp2
  go_loopw [8] (fun u wr => ∃ (j : Nat) (x : Int) (k : Option Nat), u = .int .i64 x ∧ x = (j : Int) - 1 ∧ j ≤ N ∧ Wi.Wr wr gw k (Wi.encU N ++ encAll (L.drop j).reverse) ∧ (∀ b, k = some b → w3.heap.size ≤ b) ∧ Kept (fun b => b = gw ∨ w3.heap.size ≤ b) w3 wr) (fun u _ => (intOf u + 1).toNat)
  case atStart =>
    refine ⟨N, _, k4, rfl, rfl, Nat.le_refl _, ?_, HX4.out, HK4.out⟩
    rw [List.drop_of_length_le (by rw [HN.out]; exact Nat.le_refl _)]
    have e : encAll ([] : List KV).reverse = [] := rfl
    rw [e, List.append_nil]
    exact HW4.out
  case round =>
    obtain ⟨j, x, k, rfl, hx, hj, hW, hk, hK⟩ := hrel
    have HW := Lib.hid hW
    have HKF := Lib.hid hk
    have HK := Lib.hid hK
    clear hW hk hK HW4 HX4 HK4 HL4
    obtain ⟨wX, hwX⟩ : ∃ z, z = wr := ⟨_, rfl⟩
    subst hwX
    have HPX : Hid (Ps (fun b => w2.heap.size ≤ b) wX a3 N c3 L) := Lib.hid (HPS.out.kept' HK.out (fun b hb hd hs => hs.elim (fun e => by have := HZ2.out; omega) (fun e => by omega)))
    by_cases hj0 : j = 0
    · subst hj0
      obtain rfl : x = -1 := by omega
      clear hx hj
      rw [List.drop_zero] at HW
      obtain ⟨B, hB⟩ : ∃ B, B = Wi.encU N ++ encAll L.reverse := ⟨_, rfl⟩
      rw [← hB] at HW
      have HSMR : Hid (∀ i, Small (L.take i).reverse) := Lib.hid (fun i => HSM.out.sub (fun p hp => List.mem_of_mem_take (List.mem_reverse.1 hp)))
      have HEL : Hid (∀ i, (encAll (L.take i).reverse).length ≤ 5000) := Lib.hid (fun i => by
        have h2 := encAll_len (HSMR.out i)
        rw [List.length_reverse, List.length_take] at h2
        have := HLL.out
        have := HN.out
        omega)
      have HBL : Hid (B.length ≤ 6000) := Lib.hid (by
        rw [hB, List.length_append]
        have h1 := Wi.encU_len10 N (by have := HLL.out; omega)
        have h2 := HEL.out L.length
        rw [List.take_length] at h2
        omega)
      have HRU : Hid (Wi.rUint ⟨B, 0⟩ = (N, ⟨encAll (L.take N).reverse, 0⟩)) := Lib.hid (by
        rw [hB, show L.take N = L by rw [HN.out, List.take_length]]
        exact Wi.rUint_enc N _ (by have := HLL.out; omega))
      have HBX : Hid (Below w1.heap.size w1 wX) := Lib.hid ((HB2.out.trans (HB3.out.mono HB2.out.size)).trans (HK.out.below (Nat.le_trans HB2.out.size HB3.out.size) (fun b hb e => e.elim (fun e => by have := HGW.out; omega) (fun e => by have := HB2.out.size; have := HB3.out.size; omega))))
      clear hB HPX
      go_upto_region 13 with (first
        | (go_at_call 39; refine (Wi.newReader_any _ a5 _ c5 B w5 HBS.out (Nat.le_trans HBL.out (by omega))).mono ?_; rintro e w6 ⟨gr, rfl, k6, hrd, hgr, hkf, hb6⟩; have HRD6 := Lib.hid hrd; have HGR := Lib.hid hgr; have HB6 := Lib.hid hb6; clear hrd hgr hkf hb6)
        | (go_at_call 40; refine (Wi.done_any gw k B wX HW.out (Nat.le_trans HBL.out (by omega))).mono ?_; rintro e w5 ⟨v5, rfl, k5, ho5, hf5, hb5⟩; obtain ⟨a5, c5, rfl, hbs5⟩ := ho5.bs; have HBS := Lib.hid hbs5; have HB5 := Lib.hid hb5; clear ho5 hf5 hb5 hbs5))
      go_upto_region 16 with (go_at_call 12; refine (new_any _).mono ?_; rintro e w7 ⟨gu, rfl, htu, hgu, hb7⟩; have HRD7 := Lib.hid (HRD6.out.kept (Kept.of_below (fun _ => False) hb7) (fun h => h) (fun _ _ h => h)); have HTU := Lib.hid htu; have HB7 := Lib.hid (HB6.out.trans (hb7.mono HB6.out.size)); clear htu hgu hb7)
      have hrm : (N : Int).tmod 100 = (N : Int) := by have := HLL.out; rw [Int.tmod_eq_emod_of_nonneg (by omega)]; omega
      have hwn2 : IntKind.i64.wrap (N : Int) = (N : Int) := i64_id _ (by have := HLL.out; omega) (by have := HLL.out; omega)
      have HUI : Hid (Calls Try.prog 41 #[.pointer (some ⟨gr, 0, none⟩)] w7 fun x w' => x = .returned (.int .u64 (N : Int)) ∧ Wi.Rd w' gr k6 (encAll (L.take N).reverse) 0 ∧ Kept (fun b => b = gr) w7 w') := Lib.hid (by
        have h1 := Wi.ruint_any gr k6 B 0 w7 HRD7.out (Nat.le_trans HBL.out (by omega))
        rw [HRU.out] at h1
        exact h1.mono (fun x w' h => ⟨h.1, h.2.1, h.2.2⟩))
      go_upto_region 17 with (go_at_call 41; refine HUI.out.mono ?_; rintro e w8 ⟨rfl, hrd8, hk8⟩; have HRD8 := Lib.hid hrd8; have HTU8 := Lib.hid (by obtain ⟨ra, rc, hrr⟩ := Rd.reader HRD7.out; exact HTU.out.reader hrr hk8 : TT w8 gu none 0); have HB8 : Hid (Below w5.heap.size w5 w8) := Lib.hid (HB7.out.trans (hk8.below HB7.out.size (fun b hb e => by have := HGR.out; omega))); clear hrd8 hk8)
      clear hrm hwn2 HUI
      go_wp2
      go_loopw [10, 12] (fun u x wr => ∃ (i gu Hu : Nat) (tu : Option BT), u = .pointer (some ⟨gu, 0, none⟩) ∧ x = .int .i64 (i : Int) ∧ i ≤ N ∧ Wi.Rd wr gr k6 (encAll (L.take (N - i)).reverse) 0 ∧ TT wr gu tu Hu ∧ treeL tu = L.drop (N - i) ∧ Below w5.heap.size w5 wr) (fun _ x _ => N - (intOf x).toNat)
      case atStart => exact ⟨0, gu, 0, none, rfl, rfl, Nat.zero_le _, HRD8.out, HTU8.out, by rw [Nat.sub_zero, List.drop_of_length_le (by rw [HN.out]; exact Nat.le_refl _)]; rfl, HB8.out⟩
      case round =>
        obtain ⟨i, g9, H9, t9, rfl, rfl, hi, hrd, htt, htl, hb9⟩ := hrel
        have HRD := Lib.hid hrd
        have HTT9 := Lib.hid htt
        have HTL := Lib.hid htl
        have HB9 := Lib.hid hb9
        clear hrd htt htl hb9 HRD6 HRD7 HRD8 HTU HTU8 HB6 HB7 HB8
        obtain ⟨w9, hw9⟩ : ∃ z, z = wr := ⟨_, rfl⟩
        subst hw9
        by_cases hlt : i < N
        · have hlt2 : (i : Int) < (N : Int) := by omega
          obtain ⟨q, hq⟩ : ∃ q, N - i = q + 1 := ⟨N - i - 1, by omega⟩
          have hq2 : N - (i + 1) = q := by omega
          have hqL : q < L.length := by rw [← HN.out]; omega
          obtain ⟨p, hp⟩ : ∃ p, p = L[q]'hqL := ⟨_, rfl⟩
          have HSP : Hid (p.k.size ≤ 60 ∧ p.v.size ≤ 100) := Lib.hid (by rw [hp]; exact HSM.out _ (List.getElem_mem hqL))
          have HR1 : Hid (Wi.Rd w9 gr k6 (Wi.encT p.k.data.toList ++ (Wi.encT p.v.data.toList ++ encAll (L.take q).reverse)) 0) := Lib.hid (by
            have h1 := HRD.out
            rw [hq, take_rev L q hqL, ← hp] at h1
            unfold encKV at h1
            rw [List.append_assoc] at h1
            exact h1)
          have HINS : Hid (insL (treeL t9) p = L.drop (N - (i + 1))) := Lib.hid (by rw [HTL.out, hq, hq2, hp]; exact ins_front HSO.out q hqL)
          have HQ2 := Lib.hid hq2
          have HLT9 : Hid ((treeL t9).length ≤ 1000000) := Lib.hid (by rw [HTL.out, List.length_drop]; have := HLL.out; have := HN.out; omega)
          have HLTi := Lib.hid hlt
          have hwi : IntKind.i64.wrap ((i : Int) + 1) = (i : Int) + 1 := i64_id _ (by have := HLL.out; omega) (by have := HLL.out; omega)
          clear hq hq2 hp hqL hlt hi
          go_upto_region 21 with (go_at_call 42; refine (rtext_kv HR1.out (Nat.le_trans HSP.out.1 (by omega)) (by have := HSP.out.1; omega) (by omega) (by rw [List.length_append]; have h1 := HEL.out q; have h2 := encT_len p.v.data.toList (by have : p.v.data.toList.length = p.v.size := rfl; have := HSP.out.2; omega); omega)).mono ?_; rintro e wA ⟨rfl, hrA, hkA⟩; have HRA := Lib.hid hrA; have HKA := Lib.hid hkA; clear hrA hkA)
          have HTA : Hid (TT wA g9 t9 H9) := Lib.hid (by obtain ⟨ra, rc, hrr⟩ := Rd.reader HRD.out; exact HTT9.out.reader hrr HKA.out)
          go_wp2_with (first
            | (go_at_call 25; refine (put_tree HTB.out HLT9.out p.k p.v HSP.out.1 (Nat.le_trans HSP.out.2 (by omega))).mono ?_; rintro e wC ⟨gC, tC, HC, rfl, htC, hlC, -, -, hbC⟩; have HTC := Lib.hid htC; have HLC := Lib.hid hlC; have HBC := Lib.hid hbC; clear htC hlC hbC)
            | (go_at_call 42; refine (rtext_kv HRA.out (Nat.le_trans HSP.out.2 (by omega)) (by have := HSP.out.2; omega) (by omega) (Nat.le_trans (HEL.out q) (by omega))).mono ?_; rintro e wB ⟨rfl, hrB, hkB⟩; have HRB := Lib.hid hrB; have HKB := Lib.hid hkB; have HTB : Hid (TT wB g9 t9 H9) := Lib.hid (by obtain ⟨ra, rc, hrr⟩ := Rd.reader HRA.out; exact HTA.out.reader hrr hkB); clear hrB hkB))
          go_roundw
          case rel =>
            refine ⟨i + 1, gC, HC, tC, rfl, by go_num, by have := HLTi.out; omega, ?_, HTC.out, by rw [HLC.out]; exact HINS.out, ?_⟩
            · rw [HQ2.out]
              exact HRB.out.kept (Kept.of_below (fun _ => False) HBC.out) (fun h => h) (fun _ _ h => h)
            · have h1 : Kept (fun b => b = gr) w9 wB := HKA.out.trans HKB.out (fun _ _ h => h)
              have h2 : Below w5.heap.size w5 wB := HB9.out.trans (h1.below HB9.out.size (fun b hb e => by have := HGR.out; omega))
              exact h2.trans (HBC.out.mono h2.size)
          case measure => (try go_num); (try (simp only [intOf])); have := HLTi.out; omega
        · have hlt2 : ¬ (i : Int) < (N : Int) := by omega
          have hlt3 : decide ((i : Int) < (N : Int)) = false := decide_eq_false hlt2
          obtain rfl : i = N := by omega
          have HLU : Hid (treeL t9 = L) := Lib.hid (by rw [HTL.out, Nat.sub_self, List.drop_zero])
          have HEND : Hid (∀ u, Below w9.heap.size w9 u → Calls Try.prog 43 #[.pointer (some ⟨gr, 0, none⟩)] u fun e w' => e = .returned (.int .i64 0) ∧ u = w') := Lib.hid (fun u hu => by
            have h1 := HRD.out.kept (Kept.of_below (fun _ => False) hu) (fun h => h) (fun _ _ h => h)
            rw [Nat.sub_self, List.take_zero] at h1
            exact (Wi.end_any gr k6 _ 0 u h1).mono (fun e w' h => ⟨h.1, h.2⟩))
          have HTX : Hid (TT w9 g t H) := Lib.hid (HTT.out.under (HBX.out.trans ((HB5.out.trans (HB9.out.mono HB5.out.size)).mono HBX.out.size)))
          have HDI : Hid (∀ u, Below w9.heap.size w9 u → Calls Try.prog 32 #[.pointer (some ⟨g, 0, none⟩), .pointer (some ⟨g9, 0, none⟩)] u fun e W' => ∃ a c, e = .returned (.slice a 0 c) ∧ Below u.heap.size u W') := Lib.hid (fun u hu => by
            have h := diff_any (HTX.out.under hu) (HTT9.out.under hu) (by rw [← HL.out]; have := HLL.out; have := HN.out; omega) (by rw [HLU.out]; have := HLL.out; have := HN.out; omega)
            rw [HLU.out, ← HL.out, diffR_self] at h
            refine h.mono ?_
            rintro e W' ⟨v, rfl, hr, hb⟩
            obtain ⟨a, n, c, rfl, hp⟩ := Es.row hr
            have h0 := hp.1
            simp only [List.length_nil] at h0
            subst h0
            exact ⟨a, c, rfl, hb⟩)
          have HLN : Hid (∀ u, Below w9.heap.size w9 u → Calls Try.prog 23 #[.pointer (some ⟨g9, 0, none⟩)] u fun e w' => e = .returned (.int .i64 (i : Int)) ∧ u = w') := Lib.hid (fun u hu => by
            have h1 := len_any (HTT9.out.under hu).tr
            rw [HLU.out, ← HN.out] at h1
            exact h1)
          have HBW : Hid (Below w.heap.size w w9) := Lib.hid (HB1.out.trans ((HBX.out.trans ((HB5.out.trans (HB9.out.mono HB5.out.size)).mono HBX.out.size)).mono HB1.out.size))
          clear hi hlt
          go_upto_region 22 with fail
          clear hlt2 hlt3
          go_wp2_with (first
            | (go_at_call 43; refine (HEND.out _ (Below.refl _ _)).mono ?_; rintro e wA ⟨rfl, rfl⟩)
            | (go_at_call 32; refine (HDI.out _ (Below.refl _ _)).mono ?_; rintro e wB ⟨a8, c8, rfl, hbB⟩; have HBB := Lib.hid hbB; clear hbB)
            | (go_at_call 23; refine (HLN.out _ HBB.out).mono ?_; rintro e wC ⟨rfl, rfl⟩)
            | (go_at_call 19; refine (lives_any _).mono ?_; rintro e wD ⟨rfl, hbD⟩))
          go_ret
          exact ⟨rfl, HBW.out.trans ((HBB.out.trans (hbD.mono HBB.out.size)).mono HBW.out.size)⟩
    · obtain ⟨q, rfl⟩ : ∃ q, j = q + 1 := ⟨j - 1, by omega⟩
      obtain rfl : x = (q : Int) := by omega
      clear hx hj0
      have hq0 : (0 : Int) ≤ (q : Int) := by omega
      have hqN : q < N := by omega
      have hqL : q < L.length := by rw [← HN.out]; exact hqN
      have hqn2 : (q : Int) < (N : Int) := by omega
      obtain ⟨b, off, hD, hbs, rfl, hcell⟩ := HPX.out.at (by omega)
      have hr := hcell q hqL
      obtain ⟨p, hp⟩ : ∃ p, p = L[q]'hqL := ⟨_, rfl⟩
      rw [← hp] at hr
      obtain ⟨ob, hob⟩ : ∃ ob, ob = off + q * 2 := ⟨_, rfl⟩
      rw [← hob] at hr
      have hob2 : off + q * 2 = ob := hob.symm
      have c0 : wX.cell? ⟨b, ob, none⟩ = some (.string p.k) := hr 0 _ rfl
      have C1 : Hid (wX.cell? ⟨b, ob + 1, none⟩ = some (.string p.v)) := Lib.hid (hr 1 _ rfl)
      have HSP : Hid (p.k.size ≤ 60 ∧ p.v.size ≤ 100) := Lib.hid (by rw [hp]; exact HSM.out _ (List.getElem_mem hqL))
      have hbw3 : b < w3.heap.size := by
        obtain ⟨b', off', -, hbs', e, -⟩ := HPS.out.at (by omega)
        cases e
        exact hbs'
      have HBB : Hid (b < wX.heap.size ∧ b ≠ gw ∧ k ≠ some b) := Lib.hid ⟨hbs, (by have := HZ2.out; omega), (fun e => by have := HKF.out b e; omega)⟩
      have HST : Hid (Wi.encU N ++ encAll (L.drop (q + 1)).reverse ++ Wi.encT p.k.data.toList ++ Wi.encT p.v.data.toList = Wi.encU N ++ encAll (L.drop q).reverse) := Lib.hid (by
        rw [drop_rev L q hqL, encAll_app, ← hp]
        have e : encAll [p] = encKV p := by unfold encAll; simp
        rw [e]
        unfold encKV
        simp only [List.append_assoc])
      have HLE : Hid ((Wi.encU N ++ encAll (L.drop (q + 1)).reverse).length ≤ 10000) := Lib.hid (by
        rw [List.length_append]
        have h1 := Wi.encU_len10 N (by have := HLL.out; omega)
        have h2 := encAll_len (l := (L.drop (q + 1)).reverse) (HSM.out.sub (fun p hp => List.mem_of_mem_drop (List.mem_reverse.1 hp)))
        rw [List.length_reverse, List.length_drop] at h2
        have := HLL.out
        have := HN.out
        omega)
      have hwq : IntKind.i64.wrap ((q : Int) - 1) = (q : Int) - 1 := i64_id _ (by have := HLL.out; omega) (by have := HLL.out; omega)
      have HQN := Lib.hid hqN
      clear hcell hr hp hob hD hbs hqN hqL hbw3 hj
      go_upto_region 11 with (go_at_call 38; refine (Wi.wtext_any gw k _ p.k _ HW.out (Nat.le_trans HLE.out (by omega)) (Nat.le_trans HSP.out.1 (by omega))).mono ?_; rintro e w5 ⟨rfl, k5, hw5, hl5⟩; have HW5 := Lib.hid hw5; have HL5 := Lib.hid hl5; clear hw5 hl5)
      clear c0
      have c1 : w5.cell? ⟨b, ob + 1, none⟩ = some (.string p.v) := (HL5.out.kept.cell (p := ⟨b, ob + 1, none⟩) HBB.out.1 (fun e => e.elim HBB.out.2.1 HBB.out.2.2)).trans C1.out
      go_wp2_with (go_at_call 38; refine (Wi.wtext_any gw k5 _ p.v _ HW5.out (by rw [List.length_append]; have h1 := HLE.out; have h2 := encT_len p.k.data.toList (by have : p.k.data.toList.length = p.k.size := rfl; have := HSP.out.1; omega); omega) (Nat.le_trans HSP.out.2 (by omega))).mono ?_; rintro e w6 ⟨rfl, k6, hw6, hl6⟩; have HW6 := Lib.hid hw6; have HL6 := Lib.hid (HL5.out.trans hl6); clear hw6 hl6)
      go_roundw
      case rel =>
        refine ⟨q, _, k6, rfl, by first | rfl | go_num, by have := HQN.out; omega, ?_, fun b hb => (HL6.out.fresh b hb).elim (HKF.out b) (fun e => Nat.le_trans HK.out.size e), HK.out.trans HL6.out.kept (fun b hb e => e.elim .inl (fun e => .inr (HKF.out b e)))⟩
        have h1 := HW6.out
        rw [HST.out] at h1
        exact h1
      case measure => (try go_num); (try (simp only [intOf])); omega
end Go.Proofs.Ytfgmhidgkemfoaa

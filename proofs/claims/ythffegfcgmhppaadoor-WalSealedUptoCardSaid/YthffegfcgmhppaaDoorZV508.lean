/-
  Texts DgWords, DgA1, DgA2, DgA3, DgA4, DgA5, DgA6, DgA7, DgA8, DgA9, DgB0, DgB1, DgB2, DgB3, DgC2, one behind the other.
-/
import Derived.WalkKit
import Derived.Lib.Hide
import Derived.WalkSpells
import Derived.WalkLawsBesides
import Derived.Deep.QuietTactic
import Derived.BigQuiet
import Derived.Deep.WholeRow
import Derived.StillTailTactics
import Derived.Laws.CopyOwn
import Derived.Deep.DeepCutAuto
import Derived.Laws.AppendOwnNone
import Derived.Lib.AppendZerosOnto
import Derived.Deep.RegionWith
import Derived.Deep.DrawnRows
import Derived.Deep.MidRow
import Derived.Deep.RegionHeld3
import Derived.ProofKit
import Derived.OpenShut
import Derived.Carry
import Derived.Deep.DeepHandedRow
import Derived.Lib.LaidTab
import Derived.Stop.LaidErr
import Derived.Test.YthffegfcgmhppaaDoorRows
import Derived.Test.YthffegfcgmhppaaDoorCards
import Derived.Test.YthffegfcgmhppaaDoorTie
namespace Go.Proofs.YthffegfcgmhppaaDoor.Dg
set_option maxRecDepth 100000
set_option linter.unusedSimpArgs false
set_option linter.unusedVariables false
open Go.RowKit

/-- a word as the model's integer -/
def wi (x : BitVec 32) : Int := (x.toNat : Int)
theorem wi_nonneg (x : BitVec 32) : 0 ≤ wi x := by unfold wi; omega
theorem wi_lt (x : BitVec 32) : wi x < 4294967296 := by unfold wi; have := x.isLt; omega
theorem ofInt_wi (x : BitVec 32) : BitVec.ofInt 32 (wi x) = x := by
  unfold wi; apply BitVec.eq_of_toNat_eq; simp
theorem wrap_ofInt (n : Int) : IntKind.u32.wrap n = wi (BitVec.ofInt 32 n) := by
  rw [IntKind.wrap_u32]; unfold wi; simp [BitVec.toNat_ofInt]; omega
theorem wrap_toNat (x : BitVec 32) : IntKind.u32.wrap (x.toNat : Int) = wi x := by
  rw [IntKind.wrap_u32]; unfold wi; have := x.isLt; omega
theorem wi_xor (a b : BitVec 32) : bits .xor .u32 (wi a) (wi b) = wi (a ^^^ b) := by
  show IntKind.u32.wrap ((BitVec.ofInt 32 (wi a) ^^^ BitVec.ofInt 32 (wi b)).toNat : Int) = _
  rw [ofInt_wi, ofInt_wi, wrap_toNat]
theorem wi_and (a b : BitVec 32) : bits .and .u32 (wi a) (wi b) = wi (a &&& b) := by
  show IntKind.u32.wrap ((BitVec.ofInt 32 (wi a) &&& BitVec.ofInt 32 (wi b)).toNat : Int) = _
  rw [ofInt_wi, ofInt_wi, wrap_toNat]
theorem wi_or (a b : BitVec 32) : bits .or .u32 (wi a) (wi b) = wi (a ||| b) := by
  show IntKind.u32.wrap ((BitVec.ofInt 32 (wi a) ||| BitVec.ofInt 32 (wi b)).toNat : Int) = _
  rw [ofInt_wi, ofInt_wi, wrap_toNat]
theorem wi_add (a b : BitVec 32) : IntKind.u32.wrap (wi a + wi b) = wi (a + b) := by
  rw [wrap_ofInt, BitVec.ofInt_add, ofInt_wi, ofInt_wi]
theorem wi_shl (a : BitVec 32) (n : Nat) : IntKind.u32.wrap (wi a * 2 ^ n) = wi (a <<< n) := by
  rw [IntKind.wrap_u32]; unfold wi; rw [BitVec.toNat_shiftLeft, Nat.shiftLeft_eq]; simp
theorem wi_shr (a : BitVec 32) (n : Nat) : wi a / 2 ^ n = wi (a >>> n) := by
  unfold wi; rw [BitVec.toNat_ushiftRight, Nat.shiftRight_eq_div_pow]; simp
theorem wi_inj {a b : BitVec 32} (h : wi a = wi b) : a = b := by
  unfold wi at h; apply BitVec.eq_of_toNat_eq; omega
theorem wi_eq (a b : BitVec 32) : (wi a == wi b) = (a == b) := by
  rw [Bool.eq_iff_iff]; simp; exact ⟨wi_inj, fun h => by rw [h]⟩

theorem wi_addm (a b : BitVec 32) : (wi a + wi b) % 4294967296 = wi (a + b) := by
  rw [← IntKind.wrap_u32, wi_add]
theorem wi_shlm (a : BitVec 32) (n : Nat) : (wi a * 2 ^ n) % 4294967296 = wi (a <<< n) := by
  rw [← IntKind.wrap_u32, wi_shl]

/-- rotation to the right by n -/
def rotr (x : BitVec 32) (n : Nat) : BitVec 32 := x >>> n ||| x <<< (32 - n)
theorem mask31 (n : Nat) (h0 : 0 < n) (h1 : n < 32) : bits .and .u64 (IntKind.u64.wrap (-(n : Int))) 31 = ((32 - n : Nat) : Int) := by
  have : ∀ n : Fin 32, 0 < n.val → bits .and .u64 (IntKind.u64.wrap (-(n.val : Int))) 31 = ((32 - n.val : Nat) : Int) := by decide +kernel
  exact this ⟨n, h1⟩ h0

/-- a byte of a list, a word of a list -/
def byteAt (b : List UInt8) (i : Nat) : UInt8 := b.getD i 0
def wAt (l : List (BitVec 32)) (i : Nat) : BitVec 32 := l.getD i 0
/-- a byte as the model's integer -/
def bi (x : UInt8) : Int := (x.toNat : Int)
theorem bi_nonneg (x : UInt8) : 0 ≤ bi x := by unfold bi; omega
theorem bi_lt (x : UInt8) : bi x < 256 := by unfold bi; have := x.toNat_lt; omega
/-- the cells of an array or a row of bytes, of words -/
def bcells (l : List UInt8) : Array Value := (l.map fun x => Value.int .u8 (bi x)).toArray
def wcells (l : List (BitVec 32)) : Array Value := (l.map fun x => Value.int .u32 (wi x)).toArray
theorem bcells_size (l : List UInt8) : (bcells l).size = l.length := by simp [bcells]
theorem wcells_size (l : List (BitVec 32)) : (wcells l).size = l.length := by simp [wcells]
theorem bcells_get (l : List UInt8) (i : Nat) (h : i < l.length) : (bcells l)[i]? = some (.int .u8 (bi l[i])) := by simp [bcells, h]
theorem wcells_get (l : List (BitVec 32)) (i : Nat) (h : i < l.length) : (wcells l)[i]? = some (.int .u32 (wi l[i])) := by simp [wcells, h]
theorem wcells_set (l : List (BitVec 32)) (i : Nat) (x : BitVec 32) : (wcells l).setIfInBounds i (.int .u32 (wi x)) = wcells (l.set i x) := by
  simp [wcells, List.map_set]
theorem bcells_set (l : List UInt8) (i : Nat) (x : UInt8) : (bcells l).setIfInBounds i (.int .u8 (bi x)) = bcells (l.set i x) := by
  simp [bcells, List.map_set]
theorem wcells_one (l : List (BitVec 32)) : (wcells l).all (·.oneCell') = true := by
  simp [wcells, Value.oneCell']
theorem bcells_one (l : List UInt8) : (bcells l).all (·.oneCell') = true := by
  simp [bcells, Value.oneCell']

/-- a byte as a word -/
def byteW (x : UInt8) : BitVec 32 := BitVec.ofNat 32 x.toNat
/-- the big-endian word of four bytes -/
def be32 (a b c d : UInt8) : BitVec 32 := byteW a <<< 24 ||| byteW b <<< 16 ||| byteW c <<< 8 ||| byteW d
def wordAt (b : List UInt8) (i : Nat) : BitVec 32 := be32 (byteAt b (4 * i)) (byteAt b (4 * i + 1)) (byteAt b (4 * i + 2)) (byteAt b (4 * i + 3))
/-- the words of a block -/
def wordsOf (b : List UInt8) : List (BitVec 32) := (List.range 16).map (wordAt b)
/-- the first k of n words of a function, the others zero -/
def firstW (f : Nat → BitVec 32) (n k : Nat) : List (BitVec 32) := (List.range n).map fun i => if i < k then f i else 0
theorem firstW_len (f : Nat → BitVec 32) (n k : Nat) : (firstW f n k).length = n := by simp [firstW]
theorem firstW_set (f : Nat → BitVec 32) (n k : Nat) : (firstW f n k).set k (f k) = firstW f n (k + 1) := by
  apply List.ext_getElem?
  intro i
  simp only [firstW, List.getElem?_set, List.getElem?_map, List.getElem?_range, List.length_map, List.length_range]
  by_cases h : k = i
  · subst h
    by_cases h2 : k < n <;> simp [h2]
  · simp only [h, if_false]
    by_cases h2 : i < n
    · have : (i < k + 1) = (i < k) := by apply propext; omega
      simp [h2, this]
    · simp [h2]
theorem firstW_zero (f : Nat → BitVec 32) (n : Nat) : firstW f n 0 = List.replicate n 0 := by
  simp [firstW, List.map_const']
theorem firstW_all (f : Nat → BitVec 32) (n : Nat) : firstW f n n = (List.range n).map f := by
  apply List.map_congr_left
  intro i hi
  have := List.mem_range.1 hi
  simp [this]

theorem heap_alloc_if (w : World) (o : Obj) (i : Nat) : (w.alloc o).heap[i]? = if i = w.heap.size then some o else w.heap[i]? := by
  show (w.heap.push o)[i]? = _
  rw [Array.getElem?_push]
theorem size_alloc1 (w : World) (o : Obj) : (w.alloc o).heap.size = w.heap.size + 1 := by
  show (w.heap.push o).size = _
  simp
theorem heap_new {w : World} {o : Obj} {g : Nat} (h : g = w.heap.size) : (w.alloc o).heap[g]? = some o := by
  rw [heap_alloc_if, if_pos h]
theorem heap_old {w : World} {o o' : Obj} {g : Nat} (h : w.heap[g]? = some o) : (w.alloc o').heap[g]? = some o := by
  have hl : g < w.heap.size := by
    by_cases hl : g < w.heap.size
    · exact hl
    · rw [Array.getElem?_eq_none (by omega)] at h; cases h
  rw [heap_alloc_if, if_neg (by omega), h]
theorem heap_lt {w : World} {o : Obj} {g : Nat} (h : w.heap[g]? = some o) : g < w.heap.size := by
  by_cases hl : g < w.heap.size
  · exact hl
  · rw [Array.getElem?_eq_none (by omega)] at h; cases h
theorem cell_bytes {w : World} {g : Nat} {l : List UInt8} {t : TypeId} {fr : Nat × Nat} (h : w.heap[g]? = some (.cells (bcells l) t fr)) (i : Nat) (hi : i < l.length) :
    w.cell? ⟨g, i, none⟩ = some (.int .u8 (bi (byteAt l i))) := by
  rw [cell_of_row w g i _ t fr h, bcells_get l i hi]; simp [byteAt, hi]
theorem cell_words {w : World} {g : Nat} {l : List (BitVec 32)} {t : TypeId} {fr : Nat × Nat} (h : w.heap[g]? = some (.cells (wcells l) t fr)) (i : Nat) (hi : i < l.length) :
    w.cell? ⟨g, i, none⟩ = some (.int .u32 (wi (wAt l i))) := by
  rw [cell_of_row w g i _ t fr h, wcells_get l i hi]; simp [wAt, hi]

theorem Below_setRow {B : Nat} {a w : World} (h : Below B a w) {g : Nat} (hg : B ≤ g) (cs : Array Value) : Below B a (w.setRow g cs) :=
  ⟨h.os, h.tape, h.output, by simp; exact h.size, fun b hb => (setRow_other w g b cs (by omega)).trans (h.block b hb)⟩
theorem size8w : (Tryd.prog.info? 93).map (·.size) = some 8 := by kernel_rfl
theorem size16w : (Tryd.prog.info? 117).map (·.size) = some 16 := by kernel_rfl
theorem size64w : (Tryd.prog.info? 119).map (·.size) = some 64 := by kernel_rfl
theorem size64b : (Tryd.prog.info? 75).map (·.size) = some 64 := by kernel_rfl
theorem size32b : (Tryd.prog.info? 51).map (·.size) = some 32 := by kernel_rfl
/-- the word that the schedule has at place t, of those before it -/
def nextW (l : List (BitVec 32)) (t : Nat) : BitVec 32 :=
  wAt l (t - 16) + (rotr (wAt l (t - 15)) 7 ^^^ rotr (wAt l (t - 15)) 18 ^^^ wAt l (t - 15) >>> 3) + wAt l (t - 7) + (rotr (wAt l (t - 2)) 17 ^^^ rotr (wAt l (t - 2)) 19 ^^^ wAt l (t - 2) >>> 10)
/-- the schedule's first 16 + k words -/
def schedTo (ws : List (BitVec 32)) : Nat → List (BitVec 32)
  | 0 => ws
  | k + 1 => schedTo ws k ++ [nextW (schedTo ws k) (16 + k)]
theorem schedTo_len (ws : List (BitVec 32)) (h : ws.length = 16) (k : Nat) : (schedTo ws k).length = 16 + k := by
  induction k with
  | zero => exact h
  | succ k ih => simp [schedTo, ih]; omega
/-- the same in an array of 64 -/
def schedPad (ws : List (BitVec 32)) (k : Nat) : List (BitVec 32) := schedTo ws k ++ List.replicate (48 - k) 0
theorem schedPad_len (ws : List (BitVec 32)) (h : ws.length = 16) (k : Nat) (hk : k ≤ 48) : (schedPad ws k).length = 64 := by
  simp [schedPad, schedTo_len ws h]; omega
theorem schedPad_at (ws : List (BitVec 32)) (h : ws.length = 16) (k i : Nat) (hi : i < 16 + k) : wAt (schedPad ws k) i = wAt (schedTo ws k) i := by
  unfold wAt schedPad
  rw [List.getD_eq_getElem?_getD, List.getD_eq_getElem?_getD, List.getElem?_append_left (by rw [schedTo_len ws h]; exact hi)]
theorem schedPad_next (ws : List (BitVec 32)) (h : ws.length = 16) (k : Nat) (hk : k < 48) (v : BitVec 32) (hv : v = nextW (schedTo ws k) (16 + k)) :
    (schedPad ws k).set (16 + k) v = schedPad ws (k + 1) := by
  subst hv
  unfold schedPad
  have hl := schedTo_len ws h k
  rw [List.set_append_right _ _ (by omega), show 16 + k - (schedTo ws k).length = 0 by omega]
  rw [show 48 - k = (48 - (k + 1)) + 1 by omega, List.replicate_succ, List.set_cons_zero]
  simp [schedTo]
/-- W0 to W63 -/
def sched (ws : List (BitVec 32)) : List (BitVec 32) := schedTo ws 48
theorem sched_len (ws : List (BitVec 32)) (h : ws.length = 16) : (sched ws).length = 64 := by
  unfold sched; rw [schedTo_len ws h]
theorem schedPad_all (ws : List (BitVec 32)) : schedPad ws 48 = sched ws := by simp [schedPad, sched]
theorem zeros64 : (#[.int .u32 0, .int .u32 0, .int .u32 0, .int .u32 0, .int .u32 0, .int .u32 0, .int .u32 0, .int .u32 0, .int .u32 0, .int .u32 0, .int .u32 0, .int .u32 0, .int .u32 0, .int .u32 0, .int .u32 0, .int .u32 0, .int .u32 0, .int .u32 0, .int .u32 0, .int .u32 0, .int .u32 0, .int .u32 0, .int .u32 0, .int .u32 0, .int .u32 0, .int .u32 0, .int .u32 0, .int .u32 0, .int .u32 0, .int .u32 0, .int .u32 0, .int .u32 0, .int .u32 0, .int .u32 0, .int .u32 0, .int .u32 0, .int .u32 0, .int .u32 0, .int .u32 0, .int .u32 0, .int .u32 0, .int .u32 0, .int .u32 0, .int .u32 0, .int .u32 0, .int .u32 0, .int .u32 0, .int .u32 0, .int .u32 0, .int .u32 0, .int .u32 0, .int .u32 0, .int .u32 0, .int .u32 0, .int .u32 0, .int .u32 0, .int .u32 0, .int .u32 0, .int .u32 0, .int .u32 0, .int .u32 0, .int .u32 0, .int .u32 0, .int .u32 0] : Array Value) = wcells (List.replicate 64 0) := by
  simp [wcells, wi, List.replicate]
/-- K0 to K63, H0 to H7 -/
def K64 : List (BitVec 32) := [1116352408, 1899447441, 3049323471, 3921009573, 961987163, 1508970993, 2453635748, 2870763221, 3624381080, 310598401, 607225278, 1426881987, 1925078388, 2162078206, 2614888103, 3248222580, 3835390401, 4022224774, 264347078, 604807628, 770255983, 1249150122, 1555081692, 1996064986, 2554220882, 2821834349, 2952996808, 3210313671, 3336571891, 3584528711, 113926993, 338241895, 666307205, 773529912, 1294757372, 1396182291, 1695183700, 1986661051, 2177026350, 2456956037, 2730485921, 2820302411, 3259730800, 3345764771, 3516065817, 3600352804, 4094571909, 275423344, 430227734, 506948616, 659060556, 883997877, 958139571, 1322822218, 1537002063, 1747873779, 1955562222, 2024104815, 2227730452, 2361852424, 2428436474, 2756734187, 3204031479, 3329325298]
def H8 : List (BitVec 32) := [1779033703, 3144134277, 1013904242, 2773480762, 1359893119, 2600822924, 528734635, 1541459225]
/-- the eight words of a round -/
structure V8 where
  a : BitVec 32
  b : BitVec 32
  c : BitVec 32
  d : BitVec 32
  e : BitVec 32
  f : BitVec 32
  g : BitVec 32
  h : BitVec 32
def V8.list (v : V8) : List (BitVec 32) := [v.a, v.b, v.c, v.d, v.e, v.f, v.g, v.h]
def V8.of (l : List (BitVec 32)) : V8 := ⟨wAt l 0, wAt l 1, wAt l 2, wAt l 3, wAt l 4, wAt l 5, wAt l 6, wAt l 7⟩
def t1Of (v : V8) (K W : BitVec 32) : BitVec 32 := v.h + (rotr v.e 6 ^^^ rotr v.e 11 ^^^ rotr v.e 25) + (v.e &&& v.f ^^^ ~~~v.e &&& v.g) + K + W
def t2Of (v : V8) : BitVec 32 := (rotr v.a 2 ^^^ rotr v.a 13 ^^^ rotr v.a 22) + (v.a &&& v.b ^^^ v.a &&& v.c ^^^ v.b &&& v.c)
def step8 (v : V8) (K W : BitVec 32) : V8 := ⟨t1Of v K W + t2Of v, v.a, v.b, v.c, v.d + t1Of v K W, v.e, v.f, v.g⟩
def runTo (v : V8) (ws : List (BitVec 32)) : Nat → V8
  | 0 => v
  | t + 1 => step8 (runTo v ws t) (wAt K64 t) (wAt ws t)
/-- the chaining values after a block of sixteen words -/
def mixW (hs ws : List (BitVec 32)) : List (BitVec 32) := List.zipWith (· + ·) hs (runTo (V8.of hs) (sched ws) 64).list
theorem zeros8 : (#[.int .u32 0, .int .u32 0, .int .u32 0, .int .u32 0, .int .u32 0, .int .u32 0, .int .u32 0, .int .u32 0] : Array Value) = wcells (List.replicate 8 0) := by
  simp [wcells, wi, List.replicate]
/-- the program's tables, where the program keeps them -/
def Tabs (w : World) : Prop := (∀ i, i < 64 → w.cell? ⟨1, i, none⟩ = some (.int .u32 (wi (wAt K64 i)))) ∧ (∀ i, i < 8 → w.cell? ⟨0, i, none⟩ = some (.int .u32 (wi (wAt H8 i)))) ∧ 2 ≤ w.heap.size
theorem Tabs.below {w w' : World} (h : Tabs w) {B : Nat} (hb : Below B w w') (hB : 2 ≤ B) : Tabs w' :=
  ⟨fun i hi => (hb.cell (p := ⟨1, i, none⟩) (by simp; omega)).trans (h.1 i hi), fun i hi => (hb.cell (p := ⟨0, i, none⟩) (by simp; omega)).trans (h.2.1 i hi), by have := hb.size; have := h.2.2; omega⟩
/-- the first j sums, the others as they were -/
def addTo (hs vs : List (BitVec 32)) (j : Nat) : List (BitVec 32) := (List.zipWith (· + ·) hs vs).take j ++ hs.drop j
theorem addTo_len (hs vs : List (BitVec 32)) (h : hs.length = 8) (h2 : vs.length = 8) (j : Nat) (hj : j ≤ 8) : (addTo hs vs j).length = 8 := by
  simp [addTo, h, h2]; omega
theorem addTo_at (hs vs : List (BitVec 32)) (h : hs.length = 8) (h2 : vs.length = 8) (j : Nat) (hj : j < 8) : wAt (addTo hs vs j) j = wAt hs j := by
  unfold wAt addTo
  rw [List.getD_eq_getElem?_getD, List.getD_eq_getElem?_getD, List.getElem?_append_right (by simp [h, h2]; omega)]
  simp [h, h2]
  rw [show j + (j - min j 8) = j by omega]
theorem addTo_set (hs vs : List (BitVec 32)) (h : hs.length = 8) (h2 : vs.length = 8) (j : Nat) (hj : j < 8) :
    (addTo hs vs j).set j (wAt hs j + wAt vs j) = addTo hs vs (j + 1) := by
  have hl : ((List.zipWith (· + ·) hs vs).take j).length = j := by simp [h, h2]; omega
  unfold addTo
  rw [List.set_append_right _ _ (by omega), hl, Nat.sub_self, List.take_succ_eq_append_getElem (by simp [h, h2]; omega), List.drop_eq_getElem_cons (by omega : j < hs.length), List.set_cons_zero]
  simp [wAt, h, h2, hj]
theorem addTo_zero (hs vs : List (BitVec 32)) : addTo hs vs 0 = hs := by simp [addTo]
theorem addTo_all (hs vs : List (BitVec 32)) (h : hs.length = 8) (h2 : vs.length = 8) : addTo hs vs 8 = List.zipWith (· + ·) hs vs := by
  simp [addTo, h, h2, List.take_of_length_le, List.drop_of_length_le]
/-- the low byte of a word -/
def low8 (x : BitVec 32) : UInt8 := UInt8.ofNat x.toNat
theorem wrap8_wi (x : BitVec 32) : IntKind.u8.wrap (wi x) = bi (low8 x) := by
  rw [IntKind.wrap_u8]; unfold bi wi low8; simp
theorem mod8_wi (x : BitVec 32) : wi x % (256 : Int) = bi (low8 x) := (IntKind.wrap_u8 _).symm.trans (wrap8_wi x)
attribute [go_sem] wrap8_wi mod8_wi
/-- byte i of the chaining values -/
def joinAt (hs : List (BitVec 32)) (i : Nat) : UInt8 := low8 (wAt hs (i / 4) >>> (24 - i % 4 * 8))
def joinB (hs : List (BitVec 32)) : List UInt8 := (List.range 32).map (joinAt hs)
theorem joinB_len (hs : List (BitVec 32)) : (joinB hs).length = 32 := by simp [joinB]
def firstB (f : Nat → UInt8) (n k : Nat) : List UInt8 := (List.range n).map fun i => if i < k then f i else 0
theorem firstB_len (f : Nat → UInt8) (n k : Nat) : (firstB f n k).length = n := by simp [firstB]
theorem firstB_set (f : Nat → UInt8) (n k : Nat) : (firstB f n k).set k (f k) = firstB f n (k + 1) := by
  apply List.ext_getElem?
  intro i
  simp only [firstB, List.getElem?_set, List.getElem?_map, List.getElem?_range, List.length_map, List.length_range]
  by_cases h : k = i
  · subst h
    by_cases h2 : k < n <;> simp [h2]
  · simp only [h, if_false]
    by_cases h2 : i < n
    · have : (i < k + 1) = (i < k) := by apply propext; omega
      simp [h2, this]
    · simp [h2]
theorem firstB_zero (f : Nat → UInt8) (n : Nat) : firstB f n 0 = List.replicate n 0 := by
  simp [firstB, List.map_const']
theorem firstB_all (f : Nat → UInt8) (n : Nat) : firstB f n n = (List.range n).map f := by
  apply List.map_congr_left
  intro i hi
  have := List.mem_range.1 hi
  simp [this]
theorem zeros32 : (#[.int .u8 0, .int .u8 0, .int .u8 0, .int .u8 0, .int .u8 0, .int .u8 0, .int .u8 0, .int .u8 0, .int .u8 0, .int .u8 0, .int .u8 0, .int .u8 0, .int .u8 0, .int .u8 0, .int .u8 0, .int .u8 0, .int .u8 0, .int .u8 0, .int .u8 0, .int .u8 0, .int .u8 0, .int .u8 0, .int .u8 0, .int .u8 0, .int .u8 0, .int .u8 0, .int .u8 0, .int .u8 0, .int .u8 0, .int .u8 0, .int .u8 0, .int .u8 0] : Array Value) = bcells (List.replicate 32 0) := by
  simp [bcells, bi, List.replicate]
/-- how the walk writes operations on words -/
theorem wrap_bi (x : UInt8) : IntKind.u32.wrap (bi x) = wi (byteW x) := by
  rw [IntKind.wrap_u32]; unfold bi wi byteW; have := x.toNat_lt; simp; omega
theorem shl_lit (a : BitVec 32) (n : Nat) (c : Int) (h : c = 2 ^ n) : IntKind.u32.wrap (wi a * c) = wi (a <<< n) := by rw [h, wi_shl]
theorem shr_lit (a : BitVec 32) (n : Nat) (c : Int) (h : c = 2 ^ n) : wi a / c = wi (a >>> n) := by rw [h, wi_shr]
theorem shl24 (a : BitVec 32) : IntKind.u32.wrap (wi a * (16777216 : Int)) = wi (a <<< 24) := shl_lit a 24 _ (by decide)
theorem shl16 (a : BitVec 32) : IntKind.u32.wrap (wi a * (65536 : Int)) = wi (a <<< 16) := shl_lit a 16 _ (by decide)
theorem shl8 (a : BitVec 32) : IntKind.u32.wrap (wi a * (256 : Int)) = wi (a <<< 8) := shl_lit a 8 _ (by decide)
theorem shr3 (a : BitVec 32) : wi a / (8 : Int) = wi (a >>> 3) := shr_lit a 3 _ (by decide)
theorem shr10 (a : BitVec 32) : wi a / (1024 : Int) = wi (a >>> 10) := shr_lit a 10 _ (by decide)
theorem shr8 (a : BitVec 32) : wi a / (256 : Int) = wi (a >>> 8) := shr_lit a 8 _ (by decide)
theorem shr16 (a : BitVec 32) : wi a / (65536 : Int) = wi (a >>> 16) := shr_lit a 16 _ (by decide)
theorem shr24 (a : BitVec 32) : wi a / (16777216 : Int) = wi (a >>> 24) := shr_lit a 24 _ (by decide)
theorem shl24m (a : BitVec 32) : (wi a * (16777216 : Int)) % (4294967296 : Int) = wi (a <<< 24) := (IntKind.wrap_u32 _).symm.trans (shl24 a)
theorem shl16m (a : BitVec 32) : (wi a * (65536 : Int)) % (4294967296 : Int) = wi (a <<< 16) := (IntKind.wrap_u32 _).symm.trans (shl16 a)
theorem shl8m (a : BitVec 32) : (wi a * (256 : Int)) % (4294967296 : Int) = wi (a <<< 8) := (IntKind.wrap_u32 _).symm.trans (shl8 a)
theorem wi_addm2 (a b : BitVec 32) : (wi a + wi b) % (4294967296 : Int) = wi (a + b) := (IntKind.wrap_u32 _).symm.trans (wi_add a b)
theorem wi_addm3 (a b c : BitVec 32) : (wi a + wi b + wi c) % (4294967296 : Int) = wi (a + b + c) := by
  rw [← wi_addm2, ← wi_addm2, Int.emod_add_emod]
theorem wi_addm4 (a b c d : BitVec 32) : (wi a + wi b + wi c + wi d) % (4294967296 : Int) = wi (a + b + c + d) := by
  rw [← wi_addm2, ← wi_addm3, Int.emod_add_emod]
theorem wi_addm5 (a b c d e : BitVec 32) : (wi a + wi b + wi c + wi d + wi e) % (4294967296 : Int) = wi (a + b + c + d + e) := by
  rw [← wi_addm2, ← wi_addm4, Int.emod_add_emod]
theorem wi_not (a : BitVec 32) : bits .xor .u32 (if IntKind.u32.signed = true then -1 else IntKind.u32.max) (wi a) = wi (~~~a) := by
  have h : (if IntKind.u32.signed = true then -1 else IntKind.u32.max) = wi (BitVec.allOnes 32) := by decide
  rw [h, wi_xor, BitVec.allOnes_xor]
attribute [go_sem] wi_not
attribute [go_sem] wi_addm2 wi_addm3 wi_addm4 wi_addm5
attribute [go_sem] wrap_bi shl24 shl16 shl8 shl24m shl16m shl8m shr3 shr10 shr8 shr16 shr24 wi_or wi_and wi_xor wi_add
/-- a sum that does not wrap -/
theorem i64_id (n : Int) (h0 : -9223372036854775808 ≤ n) (h1 : n ≤ 9223372036854775807) : IntKind.i64.wrap n = n := by
  rw [IntKind.wrap_i64]; omega
end Go.Proofs.YthffegfcgmhppaaDoor.Dg
namespace Go.Proofs.YthffegfcgmhppaaDoor.Dg
set_option maxRecDepth 100000
set_option linter.unusedSimpArgs false
set_option linter.unusedVariables false
open Go.RowKit
theorem ret_u32 {a b : Int} (h : a = b) : Ending.returned (.int .u32 a) = .returned (.int .u32 b) := by rw [h]
theorem rotl_end (x : BitVec 32) (n : Nat) :
    bits .or .u32 (wi x * 2 ^ (32 - n) % 4294967296) (wi x / 2 ^ n) = wi (rotr x n) := by
  rw [wi_shlm, wi_shr, wi_or]
  unfold rotr
  rw [BitVec.or_comm]
set_option maxHeartbeats 400000 in
theorem rl_any (x : BitVec 32) (n : Nat) (w : World) (h0 : 0 < n) (h1 : n < 32) :
    Calls Tryd.prog 69 #[.int .u32 (wi x), .int .i64 (-(n : Int))] w fun e w' => e = .returned (.int .u32 (wi (rotr x n))) ∧ w = w' := by
  have hm := mask31 n h0 h1
  have hs : IntKind.u64.wrap (32 - ((32 - n : Nat) : Int)) = (n : Int) := by rw [IntKind.wrap_u64]; omega
  have hx := wi_nonneg x
  have hx2 := wi_lt x
  go_enter Tryd.func69, Tryd.ntmps69
  go_wp2
  go_ret
  exact ⟨ret_u32 (rotl_end x n), rfl⟩
set_option maxHeartbeats 400000 in
theorem rot_any (x : BitVec 32) (k : Int) (w : World) (h0 : 0 < k) (h1 : k < 32) :
    Calls Tryd.prog 68 #[.int .u32 (wi x), .int .i64 k] w fun e w' => e = .returned (.int .u32 (wi (rotr x k.toNat))) ∧ w = w' := by
  obtain ⟨n, rfl⟩ := Int.eq_ofNat_of_zero_le (Int.le_of_lt h0)
  rw [Int.toNat_natCast]
  go_enter Tryd.func68, Tryd.ntmps68
  go_wp2_with (go_at_call 69; refine (rl_any _ _ _ (by omega) (by omega)).mono ?_; rintro e w' ⟨rfl, rfl⟩)
  go_ret
  exact ⟨rfl, rfl⟩
theorem refrot_end (x : BitVec 32) (n : Nat) :
    bits .or .u32 (wi x / 2 ^ n) (wi x * 2 ^ (32 - n) % 4294967296) = wi (rotr x n) := by
  rw [wi_shlm, wi_shr, wi_or]
  rfl
theorem rot_still (x : BitVec 32) (k : Int) (w : World) (h0 : 0 < k) (h1 : k < 32) :
    Calls Tryd.prog 68 #[.int .u32 (wi x), .int .i64 k] w fun e w' => e = .returned (.int .u32 (wi (rotr x k.toNat))) ∧ w' = w :=
  (rot_any x k w h0 h1).mono fun _ _ h => ⟨h.1, h.2.symm⟩
end Go.Proofs.YthffegfcgmhppaaDoor.Dg
namespace Go.Proofs.YthffegfcgmhppaaDoor.Dg
set_option maxRecDepth 100000
set_option linter.unusedSimpArgs false
set_option linter.unusedVariables false
open Go.RowKit
theorem zeros16 : (#[.int .u32 0, .int .u32 0, .int .u32 0, .int .u32 0, .int .u32 0, .int .u32 0, .int .u32 0, .int .u32 0, .int .u32 0, .int .u32 0, .int .u32 0, .int .u32 0, .int .u32 0, .int .u32 0, .int .u32 0, .int .u32 0] : Array Value) = wcells (List.replicate 16 0) := by
  simp [wcells, wi, List.replicate]
set_option maxHeartbeats 400000 in
theorem split_any (b : List UInt8) (w : World) (hb : b.length = 64) :
    Calls Tryd.prog 65 #[.agg (bcells b)] w fun e w' => e = .returned (.agg (wcells (wordsOf b))) ∧ Below w.heap.size w w' := by
  go_enter Tryd.func65, Tryd.ntmps65
  go_wp2
  rw [zeros16]
  go_loopw [4, 5] (fun _ i wr => ∃ k : Nat, k ≤ 16 ∧ i = .int .i64 k ∧ wr.heap[w.heap.size]? = some (.cells (bcells b) 75 (0, 0)) ∧
      wr.heap[w.heap.size + 1]? = some (.cells (wcells (List.replicate 16 0)) 117 (0, 0)) ∧ wr.heap[w.heap.size + 2]? = some (.cells (wcells (firstW (wordAt b) 16 k)) 117 (0, 0)) ∧ Below w.heap.size w wr)
    (fun _ i _ => 16 - (intOf i).toNat)
  case atStart =>
    refine ⟨0, by omega, rfl, ?_, ?_, ?_, ?_⟩
    · exact heap_old (heap_old (heap_new rfl))
    · exact heap_old (heap_new (by simp only [size_alloc1]))
    · rw [firstW_zero]; exact heap_new (by simp only [size_alloc1])
    · exact (((Below.refl _ _).alloc (Nat.le_refl _) _).alloc (by simp) _).alloc (by simp; omega) _
  case round =>
    obtain ⟨k, hk, rfl, hB0, hB1, hB2, hbel⟩ := hrel
    by_cases hlt : k < 16
    · have c0 := cell_bytes hB0 (4 * k) (by omega)
      have c1 := cell_bytes hB0 (4 * k + 1) (by omega)
      have c2 := cell_bytes hB0 (4 * k + 2) (by omega)
      have c3 := cell_bytes hB0 (4 * k + 3) (by omega)
      have c4 := cell_words hB2 k (by rw [firstW_len]; omega)
      have f4 := frozen_of_row wr (w.heap.size + 2) k _ _ hB2
      have HB2 := Lib.hid hB2
      have HB1 := Lib.hid hB1
      have HB0 := Lib.hid hB0
      have HB := Lib.hid hbel
      have Hb := Lib.hid hb
      clear hB2 hB1 hB0 hbel hb
      go_wp2
      have e0 : IntKind.i64.wrap (4 * (k : Int)) = 4 * (k : Int) := i64_id _ (by omega) (by omega)
      have e1 : IntKind.i64.wrap (4 * (k : Int) + 1) = 4 * (k : Int) + 1 := i64_id _ (by omega) (by omega)
      have e2 : IntKind.i64.wrap (4 * (k : Int) + 2) = 4 * (k : Int) + 2 := i64_id _ (by omega) (by omega)
      have e3 : IntKind.i64.wrap (4 * (k : Int) + 3) = 4 * (k : Int) + 3 := i64_id _ (by omega) (by omega)
      have n0 : (4 * (k : Int)).toNat = 4 * k := by omega
      have n1 : (4 * (k : Int) + 1).toNat = 4 * k + 1 := by omega
      have n2 : (4 * (k : Int) + 2).toNat = 4 * k + 2 := by omega
      have n3 : (4 * (k : Int) + 3).toNat = 4 * k + 3 := by omega
      have p0 : 0 ≤ 4 * (k : Int) := by omega
      have p1 : 0 ≤ 4 * (k : Int) + 1 := by omega
      have p2 : 0 ≤ 4 * (k : Int) + 2 := by omega
      have p3 : 0 ≤ 4 * (k : Int) + 3 := by omega
      have q0 : 4 * (k : Int) < 64 := by omega
      have q1 : 4 * (k : Int) + 1 < 64 := by omega
      have q2 : 4 * (k : Int) + 2 < 64 := by omega
      have q3 : 4 * (k : Int) + 3 < 64 := by omega
      go_still_tail 31, (by kernel_rfl)
      change wpList _ _ _ _ _ wr.drew
      go_wp2
      go_roundw
      case rel =>
        refine ⟨k + 1, by omega, by go_num, ?_, ?_, ?_, ?_⟩
        · exact (heap_setCell_other _ _ _ _ (by simp only; omega)).trans HB0.out
        · exact (heap_setCell_other _ _ _ _ (by simp only; omega)).trans HB1.out
        · rw [heap_drew]
          refine (heap_setCell_same _ _ _ _ _ _ HB2.out).trans ?_
          rw [wcells_set, ← firstW_set]; rfl
        · exact ((HB.out).setCell (by simp only; omega) _).drew
      case measure => simp [intOf]; omega
    · obtain rfl : k = 16 := by omega
      have HB := Lib.hid hbel
      clear hbel
      go_wp2_with (first | (refine wpList_load_row rfl 117 _ rfl (w.heap.size + 2) rfl 117 _ (0, 0) _ hB2 Tryd.underlying117 rfl (by rw [wcells_size, firstW_len]; exact size16w) ?_) | (refine wpList_store_row rfl 117 _ _ rfl (w.heap.size + 1) _ rfl rfl 117 _ hB1 (by rw [wcells_size, firstW_len]; exact size16w) (by simp only [wcells_size, firstW_len, List.length_replicate]) (wcells_one _) ?_))
      refine bodyPost_ret (v := .agg (wcells (firstW (wordAt b) 16 16))) ?_ rfl ⟨by rw [firstW_all]; rfl, Below_setRow HB.out (by omega) _⟩
      exact results_cell_row rfl _ _ (w.heap.size + 1) 117 _ (0, 0) _ rfl (setRow_heap _ _ _ _ _ _ hB1) Tryd.underlying117 rfl (by rw [wcells_size, firstW_len]; exact size16w)
end Go.Proofs.YthffegfcgmhppaaDoor.Dg
namespace Go.Proofs.YthffegfcgmhppaaDoor.Dg
set_option maxRecDepth 100000
set_option linter.unusedSimpArgs false
set_option linter.unusedVariables false
open Go.RowKit
theorem size30 : (Tryd.prog.info? 92).map (·.size) = some 1 := by kernel_rfl
set_option maxHeartbeats 400000 in
theorem sched_any (ws : List (BitVec 32)) (w : World) (hb : ws.length = 16) :
    Calls Tryd.prog 67 #[.agg (wcells ws)] w fun e w' => e = .returned (.agg (wcells (sched ws))) ∧ Below w.heap.size w w' := by
  go_enter Tryd.func67, Tryd.ntmps67
  go_wp2
  rw [zeros64]
  have h0 : (((w.alloc (.cells (wcells ws) 117)).alloc (.cells (wcells (List.replicate 64 0)) 119)).alloc (.cells (wcells (List.replicate 64 0)) 119)).heap[w.heap.size]? = some (.cells (wcells ws) 117 (0, 0)) := heap_old (heap_old (heap_new rfl))
  have h1 : (((w.alloc (.cells (wcells ws) 117)).alloc (.cells (wcells (List.replicate 64 0)) 119)).alloc (.cells (wcells (List.replicate 64 0)) 119)).heap[w.heap.size + 1]? = some (.cells (wcells (List.replicate 64 0)) 119 (0, 0)) := heap_old (heap_new (by simp only [size_alloc1]))
  have h2 : (((w.alloc (.cells (wcells ws) 117)).alloc (.cells (wcells (List.replicate 64 0)) 119)).alloc (.cells (wcells (List.replicate 64 0)) 119)).heap[w.heap.size + 2]? = some (.cells (wcells (List.replicate 64 0)) 119 (0, 0)) := heap_new (by simp only [size_alloc1])
  have hbel : Below w.heap.size w (((w.alloc (.cells (wcells ws) 117)).alloc (.cells (wcells (List.replicate 64 0)) 119)).alloc (.cells (wcells (List.replicate 64 0)) 119)) := (((Below.refl _ _).alloc (Nat.le_refl _) _).alloc (by simp) _).alloc (by simp; omega) _
  generalize (((w.alloc (.cells (wcells ws) 117)).alloc (.cells (wcells (List.replicate 64 0)) 119)).alloc (.cells (wcells (List.replicate 64 0)) 119)) = w1 at *
  have H0 := Lib.hid h0
  have H1 := Lib.hid h1
  have H2 := Lib.hid h2
  have HB := Lib.hid hbel
  have Hl := Lib.hid hb
  clear h0 h1 h2 hbel hb
  go_still_tail 2, (by kernel_rfl)
  change wpList _ _ _ _ _ w1.drew
  refine wpList_copy_own rfl _ _ 122 122 rfl 92 Tryd.underlying122 size30 (w.heap.size + 2) 0 64 64 ⟨w.heap.size, 0, none⟩ 16 16 rfl rfl _ _ H2.out (wcells ws).toList ?_ ?_ ?_ ?_ ?_
  · simp [wcells_size, Hl.out]
  · intro j v hv
    have : j < 16 := by
      have := (List.getElem?_eq_some_iff.1 hv).1; simpa [wcells_size, Hl.out] using this
    rw [show (⟨w.heap.size, 0, none⟩ : Addr).add j = ⟨w.heap.size, j, none⟩ by unfold Addr.add; split <;> simp_all]
    exact (cell_of_row w1 _ j _ _ _ H0.out).trans (by simpa using hv)
  · simp [wcells_size, Hl.out]
  · intro v hv; exact (Array.all_eq_true_iff_forall_mem.1 (wcells_one ws)) v (by simpa using hv)
  have e2 : ((wcells (List.replicate 64 0)).toList.take 0 ++ ((wcells ws).toList ++ (wcells (List.replicate 64 0)).toList.drop (0 + (wcells ws).toList.length))).toArray = wcells (schedPad ws 0) := by
    simp [wcells, schedPad, schedTo, Hl.out]
  rw [e2]
  have h0 : (w1.drew.setRow (w.heap.size + 2) (wcells (schedPad ws 0))).heap[w.heap.size]? = some (.cells (wcells ws) 117 (0, 0)) := (setRow_other _ _ _ _ (by omega)).trans H0.out
  have h1 : (w1.drew.setRow (w.heap.size + 2) (wcells (schedPad ws 0))).heap[w.heap.size + 1]? = some (.cells (wcells (List.replicate 64 0)) 119 (0, 0)) := (setRow_other _ _ _ _ (by omega)).trans H1.out
  have h2 : (w1.drew.setRow (w.heap.size + 2) (wcells (schedPad ws 0))).heap[w.heap.size + 2]? = some (.cells (wcells (schedPad ws 0)) 119 (0, 0)) := setRow_heap _ _ _ _ _ _ H2.out
  have hbel : Below w.heap.size w (w1.drew.setRow (w.heap.size + 2) (wcells (schedPad ws 0))) := Below_setRow HB.out.drew (by omega) _
  generalize w1.drew.setRow (w.heap.size + 2) (wcells (schedPad ws 0)) = w2 at *
  clear H0 H1 H2 HB e2
  have H0 := Lib.hid h0
  have H1 := Lib.hid h1
  have H2 := Lib.hid h2
  have HB := Lib.hid hbel
  clear h0 h1 h2 hbel
  go_wp2
  go_loopw [4, 5, 6] (fun i _ _ wr => ∃ k : Nat, k ≤ 48 ∧ i = .int .i64 (16 + k : Nat) ∧ 
      wr.heap[w.heap.size + 1]? = some (.cells (wcells (List.replicate 64 0)) 119 (0, 0)) ∧ wr.heap[w.heap.size + 2]? = some (.cells (wcells (schedPad ws k)) 119 (0, 0)) ∧ Below w.heap.size w wr)
    (fun i _ _ _ => 64 - (intOf i).toNat)
  case atStart => exact ⟨0, by omega, rfl, H1.out, H2.out, HB.out⟩
  case round =>
    clear H1 H2 HB
    obtain ⟨k, hk, rfl, hB1, hB2, hbel⟩ := hrel
    have hp := schedPad_len ws Hl.out k hk
    by_cases hlt : k < 48
    · have c15 := cell_words hB2 (16 + k - 15) (by rw [hp]; omega)
      have c2 := cell_words hB2 (16 + k - 2) (by rw [hp]; omega)
      rw [schedPad_at ws Hl.out k _ (by omega)] at c15 c2
      have HB2 := Lib.hid hB2
      have HB1 := Lib.hid hB1
      have HB := Lib.hid hbel
      have Hp := Lib.hid hp
      clear hB2 hB1 hbel hp
      generalize ht : 16 + k = t at *
      have Ht := Lib.hid ht
      have ht0 : 16 ≤ t := by omega
      have ht1 : t < 64 := by omega
      clear ht
      have e15 : IntKind.i64.wrap ((t : Int) - 15) = (t : Int) - 15 := i64_id _ (by omega) (by omega)
      have e2 : IntKind.i64.wrap ((t : Int) - 2) = (t : Int) - 2 := i64_id _ (by omega) (by omega)
      have e16 : IntKind.i64.wrap ((t : Int) - 16) = (t : Int) - 16 := i64_id _ (by omega) (by omega)
      have e7 : IntKind.i64.wrap ((t : Int) - 7) = (t : Int) - 7 := i64_id _ (by omega) (by omega)
      have n15 : ((t : Int) - 15).toNat = t - 15 := by omega
      have n2 : ((t : Int) - 2).toNat = t - 2 := by omega
      have n16 : ((t : Int) - 16).toNat = t - 16 := by omega
      have n7 : ((t : Int) - 7).toNat = t - 7 := by omega
      have p15 : 15 ≤ (t : Int) := by omega
      have p2 : 2 ≤ (t : Int) := by omega
      have p16 : 16 ≤ (t : Int) := by omega
      have p7 : 7 ≤ (t : Int) := by omega
      have q15 : (t : Int) - 15 < 64 := by omega
      have q2 : (t : Int) - 2 < 64 := by omega
      have q16 : (t : Int) - 16 < 64 := by omega
      have q7 : (t : Int) - 7 < 64 := by omega
      go_wp2
      go_quiet (fail)
      go_wp2
      have HB2d : Hid ((wr.drewN nq).heap[w.heap.size + 2]? = some (.cells (wcells (schedPad ws k)) 119 (0, 0))) := Lib.hid HB2.out
      have HB1d : Hid ((wr.drewN nq).heap[w.heap.size + 1]? = some (.cells (wcells (List.replicate 64 0)) 119 (0, 0))) := Lib.hid HB1.out
      have HBd : Hid (Below w.heap.size w (wr.drewN nq)) := Lib.hid (below_drewN HB.out _)
      clear HB2 HB1 HB c15 c2
      generalize wr.drewN nq = wd at *
      have c16 := cell_words HB2d.out (t - 16) (by rw [Hp.out]; omega)
      have c7 := cell_words HB2d.out (t - 7) (by rw [Hp.out]; omega)
      have c0 := cell_words HB2d.out t (by rw [Hp.out]; omega)
      have f0 := frozen_of_row wd (w.heap.size + 2) t _ _ HB2d.out
      rw [schedPad_at ws Hl.out k _ (by have := Ht.out; omega)] at c16 c7
      go_still_tail 29, (by kernel_rfl)
      still_call (rot_still _ _ _ (by decide) (by decide))
      repeat still_step
      still_call (rot_still _ _ _ (by decide) (by decide))
      repeat still_step
      still_call (rot_still _ _ _ (by decide) (by decide))
      repeat still_step
      still_call (rot_still _ _ _ (by decide) (by decide))
      repeat still_step
      refine wpStill_nil ?_
      change wpList _ _ _ _ _ wd.drew
      go_wp2
      go_roundw
      case rel =>
        refine ⟨k + 1, by omega, by have := Ht.out; simp only [Value.int.injEq, true_and]; omega, ?_, ?_, ?_⟩
        · exact (heap_setCell_other _ _ _ _ (by simp only; omega)).trans HB1d.out
        · rw [heap_drew]
          refine (heap_setCell_same _ _ _ _ _ _ HB2d.out).trans ?_
          rw [wcells_set]
          have := Ht.out
          subst this
          exact congrArg (fun l => some (Obj.cells (wcells l) 119 (0, 0))) (schedPad_next ws Hl.out k (by omega) _ rfl)
        · exact ((HBd.out).setCell (by simp only; omega) _).drew
      case measure => simp [intOf]; omega
    · obtain rfl : k = 48 := by omega
      have HB := Lib.hid hbel
      clear hbel
      go_wp2_with (first | (refine wpList_load_row rfl 119 _ rfl (w.heap.size + 2) rfl 119 _ (0, 0) _ hB2 Tryd.underlying119 rfl (by rw [wcells_size, hp]; exact size64w) ?_) | (refine wpList_store_row rfl 119 _ _ rfl (w.heap.size + 1) _ rfl rfl 119 _ hB1 (by rw [wcells_size, hp]; exact size64w) (by simp only [wcells_size, hp, List.length_replicate]) (wcells_one _) ?_))
      refine bodyPost_ret (v := .agg (wcells (schedPad ws 48))) ?_ rfl ⟨by rw [schedPad_all], Below_setRow HB.out (by omega) _⟩
      exact results_cell_row rfl _ _ (w.heap.size + 1) 119 _ (0, 0) _ rfl (setRow_heap _ _ _ _ _ _ hB1) Tryd.underlying119 rfl (by rw [wcells_size, hp]; exact size64w)
end Go.Proofs.YthffegfcgmhppaaDoor.Dg
namespace Go.Proofs.YthffegfcgmhppaaDoor.Dg
set_option maxRecDepth 100000
set_option linter.unusedSimpArgs false
set_option linter.unusedVariables false
open Go.RowKit
theorem info30 : (Tryd.prog.info? 92).map (fun i => (i.zero, i.size, i.bytes)) = some (some (.int .u32 0), 1, 4) := by kernel_rfl
theorem agg30 (w : World) : (isAgg 92).run Tryd.prog w = .ok false w := by kernel_rfl
theorem idx_words (t n : Nat) (h : Tryd.prog.underlying t = some (.array n 92)) (vs : List (BitVec 32)) (j : Nat) (hj : j < n) (hl : vs.length = n) (w : World) :
    (Instr.index t (.agg (wcells vs)) (.int .i64 (j : Int))).run Tryd.prog w = .ok (.int .u32 (wi (wAt vs j))) w := by
  have hg := wcells_get vs j (by omega)
  have hz : (sizeOf 92).run Tryd.prog w = .ok 1 w := by kernel_rfl
  have hw : vs[j]'(by omega) = wAt vs j := by simp [wAt, show j < vs.length by omega]
  rw [hw] at hg
  simp [Instr.index, run_underlying h, asIntOf, part, hj, Sem.run_bind, hz, agg30, Result.andThen, hg, go_sem]
theorem cells8 (v : V8) : (#[.int .u32 (wi v.a), .int .u32 (wi v.b), .int .u32 (wi v.c), .int .u32 (wi v.d), .int .u32 (wi v.e), .int .u32 (wi v.f), .int .u32 (wi v.g), .int .u32 (wi v.h)] : Array Value) = wcells v.list := rfl
set_option maxRecDepth 100000 in
set_option maxHeartbeats 1000000 in
theorem mix_any (hs ws : List (BitVec 32)) (w : World) (hT : Tabs w) (hh : hs.length = 8) (hb : ws.length = 16) :
    Calls Tryd.prog 64 #[.agg (wcells hs), .agg (wcells ws)] w fun e w' => e = .returned (.agg (wcells (mixW hs ws))) ∧ Below w.heap.size w w' := by
  have HT := Lib.hid hT
  have Hl := Lib.hid hb
  have Hh := Lib.hid hh
  have hz := hT.2.2
  clear hT hb hh
  go_enter Tryd.func64, Tryd.ntmps64
  go_upto_region 1 with (fail)
  rw [zeros8]
  have h0 : (((w.alloc (.cells (wcells hs) 93)).alloc (.cells (wcells ws) 117)).alloc (.cells (wcells (List.replicate 8 0)) 93)).heap[w.heap.size]? = some (.cells (wcells hs) 93 (0, 0)) := heap_old (heap_old (heap_new rfl))
  have h1 : (((w.alloc (.cells (wcells hs) 93)).alloc (.cells (wcells ws) 117)).alloc (.cells (wcells (List.replicate 8 0)) 93)).heap[w.heap.size + 1]? = some (.cells (wcells ws) 117 (0, 0)) := heap_old (heap_new (by simp only [size_alloc1]))
  have h2 : (((w.alloc (.cells (wcells hs) 93)).alloc (.cells (wcells ws) 117)).alloc (.cells (wcells (List.replicate 8 0)) 93)).heap[w.heap.size + 2]? = some (.cells (wcells (List.replicate 8 0)) 93 (0, 0)) := heap_new (by simp only [size_alloc1])
  have hs3 : (((w.alloc (.cells (wcells hs) 93)).alloc (.cells (wcells ws) 117)).alloc (.cells (wcells (List.replicate 8 0)) 93)).heap.size = w.heap.size + 3 := by simp only [size_alloc1]
  have hbel : Below w.heap.size w (((w.alloc (.cells (wcells hs) 93)).alloc (.cells (wcells ws) 117)).alloc (.cells (wcells (List.replicate 8 0)) 93)) := (((Below.refl _ _).alloc (Nat.le_refl _) _).alloc (by simp) _).alloc (by simp; omega) _
  generalize (((w.alloc (.cells (wcells hs) 93)).alloc (.cells (wcells ws) 117)).alloc (.cells (wcells (List.replicate 8 0)) 93)) = w3 at *
  have H0 := Lib.hid h0
  have H1 := Lib.hid h1
  have H2 := Lib.hid h2
  have HB := Lib.hid hbel
  have Hs := Lib.hid hs3
  clear h0 h1 h2 hbel hs3
  go_wp2_with (first | (refine wpList_load_row rfl 117 (.tmp 3) rfl (w.heap.size + 1) rfl 117 _ (0, 0) _ H1.out Tryd.underlying117 rfl (by rw [wcells_size, Hl.out]; exact size16w) ?_) | (go_at_call 67; refine (sched_any _ _ Hl.out).mono ?_; rintro e w1 ⟨rfl, hb1⟩; have HB1 := Lib.hid hb1; clear hb1) | (refine wpList_store_row rfl 119 (.tmp 5) (.tmp 20) rfl _ _ rfl rfl 119 _ (heap_new rfl) (by rw [wcells_size, sched_len _ Hl.out]; exact size64w) (by rw [wcells_size, sched_len _ Hl.out]; rfl) (wcells_one _) ?_))
  rw [World.setRow_alloc_new]
  have hz1 : w.heap.size + 3 ≤ w1.heap.size := by have := HB1.out.size; have := Hs.out; omega
  have g0 : (w1.alloc (.cells (wcells (sched ws)) 119)).heap[w.heap.size]? = some (.cells (wcells hs) 93 (0, 0)) := heap_old ((HB1.out.block _ (by have := Hs.out; omega)).trans H0.out)
  have g2 : (w1.alloc (.cells (wcells (sched ws)) 119)).heap[w.heap.size + 2]? = some (.cells (wcells (List.replicate 8 0)) 93 (0, 0)) := heap_old ((HB1.out.block _ (by have := Hs.out; omega)).trans H2.out)
  have g3 : (w1.alloc (.cells (wcells (sched ws)) 119)).heap[w1.heap.size]? = some (.cells (wcells (sched ws)) 119 (0, 0)) := heap_new rfl
  have gb : Below w.heap.size w (w1.alloc (.cells (wcells (sched ws)) 119)) := (HB.out.trans (HB1.out.mono (by have := Hs.out; omega))).alloc (by omega) _
  have gT : Tabs (w1.alloc (.cells (wcells (sched ws)) 119)) := HT.out.below gb hz
  generalize w1.alloc (.cells (wcells (sched ws)) 119) = wm at *
  clear H0 H1 H2 HB1 HB
  have c0 := cell_words g0 0 (by rw [Hh.out]; omega)
  have c1 := cell_words g0 1 (by rw [Hh.out]; omega)
  have c2 := cell_words g0 2 (by rw [Hh.out]; omega)
  have c3 := cell_words g0 3 (by rw [Hh.out]; omega)
  have c4 := cell_words g0 4 (by rw [Hh.out]; omega)
  have c5 := cell_words g0 5 (by rw [Hh.out]; omega)
  have c6 := cell_words g0 6 (by rw [Hh.out]; omega)
  have c7 := cell_words g0 7 (by rw [Hh.out]; omega)
  have G0 := Lib.hid g0
  have G2 := Lib.hid g2
  have G3 := Lib.hid g3
  have GB := Lib.hid gb
  have GT := Lib.hid gT
  clear g0 g2 g3 gb gT
  go_quiet (fail)
  go_wp2
  obtain ⟨Wb, hWb⟩ : ∃ Wb, Wb = w1.heap.size := ⟨_, rfl⟩
  rw [← hWb] at G3 hz1 ⊢
  have HWb := Lib.hid hWb
  clear hWb
  go_loopw [6, 7, 8, 9, 10, 11, 12, 13, 37] (fun a b c d e f g h i wr => ∃ k : Nat, k ≤ 64 ∧ i = .int .i64 k ∧ 
      a = .int .u32 (wi (runTo (V8.of hs) (sched ws) k).a) ∧ b = .int .u32 (wi (runTo (V8.of hs) (sched ws) k).b) ∧ c = .int .u32 (wi (runTo (V8.of hs) (sched ws) k).c) ∧ d = .int .u32 (wi (runTo (V8.of hs) (sched ws) k).d) ∧ 
      e = .int .u32 (wi (runTo (V8.of hs) (sched ws) k).e) ∧ f = .int .u32 (wi (runTo (V8.of hs) (sched ws) k).f) ∧ g = .int .u32 (wi (runTo (V8.of hs) (sched ws) k).g) ∧ h = .int .u32 (wi (runTo (V8.of hs) (sched ws) k).h) ∧ 
      wr.heap[w.heap.size]? = some (.cells (wcells hs) 93 (0, 0)) ∧ wr.heap[w.heap.size + 2]? = some (.cells (wcells (List.replicate 8 0)) 93 (0, 0)) ∧
      wr.heap[Wb]? = some (.cells (wcells (sched ws)) 119 (0, 0)) ∧ Below w.heap.size w wr ∧ Tabs wr)
    (fun _ _ _ _ _ _ _ _ i _ => 64 - (intOf i).toNat)
  case atStart => exact ⟨0, by omega, rfl, rfl, rfl, rfl, rfl, rfl, rfl, rfl, rfl, G0.out, G2.out, G3.out, below_drewN GB.out _, GT.out⟩
  case round =>
    clear G0 G2 G3 GB GT c0 c1 c2 c3 c4 c5 c6 c7
    obtain ⟨k, hk, rfl, rfl, rfl, rfl, rfl, rfl, rfl, rfl, rfl, g0, g2, g3, gb, gT⟩ := hrel
    by_cases hlt : k < 64
    · have cW := cell_words g3 k (by rw [sched_len _ Hl.out]; omega)
      have cK := gT.1 k hlt
      have G0 := Lib.hid g0
      have G2 := Lib.hid g2
      have G3 := Lib.hid g3
      have GB := Lib.hid gb
      have GT := Lib.hid gT
      clear g0 g2 g3 gb gT
      generalize hv : runTo (V8.of hs) (sched ws) k = v at *
      have Hv := Lib.hid hv
      clear hv
      go_wp2
      go_quiet ((go_at_call 68; exact Calls.quiet_of_same (rot_still _ _ _ (by decide) (by decide))))
      go_wp2_with (go_at_call 68; refine (rot_any _ _ _ (by decide) (by decide)).mono ?_; rintro e w' ⟨rfl, rfl⟩)
      go_roundw
      case rel => 
        refine ⟨k + 1, by omega, by go_num, ?_, ?_, ?_, ?_, ?_, ?_, ?_, ?_, G0.out, G2.out, G3.out, below_drewN GB.out _, GT.out⟩
        all_goals
          simp only [runTo]
          rw [Hv.out]
          rfl
      case measure => simp [intOf]; omega
    · obtain rfl : k = 64 := by omega
      have G0 := Lib.hid g0
      have G2 := Lib.hid g2
      have G3 := Lib.hid g3
      have GB := Lib.hid gb
      have GT := Lib.hid gT
      clear g0 g2 g3 gb gT
      generalize hv : runTo (V8.of hs) (sched ws) 64 = v at *
      have Hv := Lib.hid hv
      clear hv
      go_wp2
      rw [cells8]
      obtain ⟨vs, hvs⟩ : ∃ vs, vs = v.list := ⟨_, rfl⟩
      rw [← hvs]
      have Hvl : Hid (vs.length = 8) := Lib.hid (by rw [hvs]; rfl)
      have Hvs := Lib.hid hvs
      clear hvs G3 GT
      go_loopw [17, 18, 109] (fun _ _ i wx => ∃ j : Nat, j ≤ 8 ∧ i = .int .i64 j ∧ wx.heap[w.heap.size]? = some (.cells (wcells (addTo hs vs j)) 93 (0, 0)) ∧
          wx.heap[w.heap.size + 2]? = some (.cells (wcells (List.replicate 8 0)) 93 (0, 0)) ∧ Below w.heap.size w wx)
        (fun _ _ i _ => 8 - (intOf i).toNat)
      case atStart => exact ⟨0, by omega, rfl, by rw [addTo_zero]; exact G0.out, G2.out, GB.out⟩
      case round =>
        clear G0 G2 GB
        obtain ⟨j, hj, rfl, g0, g2, gb⟩ := hrel
        have gl := addTo_len hs vs Hh.out Hvl.out j hj
        by_cases hlj : j < 8
        · have hix := idx_words 93 8 Tryd.underlying93 vs j hlj Hvl.out
          have c0 := cell_words g0 j (by rw [gl]; omega)
          have f0 := frozen_of_row wr w.heap.size j _ _ g0
          rw [addTo_at hs vs Hh.out Hvl.out j hlj] at c0
          have G0 := Lib.hid g0
          have G2 := Lib.hid g2
          have GB := Lib.hid gb
          have Gl := Lib.hid gl
          clear g0 g2 gb gl
          go_wp2
          go_roundw
          case rel =>
            refine ⟨j + 1, by omega, by go_num, ?_, (heap_setCell_other _ _ _ _ (by simp only; omega)).trans G2.out, (GB.out).setCell (by simp only; omega) _⟩
            refine (heap_setCell_same _ _ _ _ _ _ G0.out).trans ?_
            rw [wcells_set]
            exact congrArg (fun l => some (Obj.cells (wcells l) 93 (0, 0))) (addTo_set hs vs Hh.out Hvl.out j hlj)
          case measure => simp [intOf]; omega
        · obtain rfl : j = 8 := by omega
          have GB := Lib.hid gb
          clear gb
          go_wp2_with (first | (refine wpList_load_row rfl 93 (.tmp 2) rfl w.heap.size rfl 93 _ (0, 0) _ g0 Tryd.underlying93 rfl (by rw [wcells_size, gl]; exact size8w) ?_) | (refine wpList_store_row rfl 93 (.tmp 4) (.tmp 120) rfl (w.heap.size + 2) _ rfl rfl 93 _ g2 (by rw [wcells_size, gl]; exact size8w) (by simp only [wcells_size, gl, List.length_replicate]) (wcells_one _) ?_))
          refine bodyPost_ret (v := .agg (wcells (addTo hs vs 8))) ?_ rfl ⟨by rw [addTo_all _ _ Hh.out Hvl.out, Hvs.out, ← Hv.out]; rfl, Below_setRow GB.out (by omega) _⟩
          exact results_cell_row rfl _ _ (w.heap.size + 2) 93 _ (0, 0) _ rfl (setRow_heap _ _ _ _ _ _ g2) Tryd.underlying93 rfl (by rw [wcells_size, gl]; exact size8w)
end Go.Proofs.YthffegfcgmhppaaDoor.Dg
namespace Go.Proofs.YthffegfcgmhppaaDoor.Dg
set_option maxRecDepth 100000
set_option linter.unusedSimpArgs false
set_option linter.unusedVariables false
open Go.RowKit
theorem join_at (hs : List (BitVec 32)) (k : Nat) : joinAt hs (4 * k) = low8 (wAt hs k >>> 24) ∧ joinAt hs (4 * k + 1) = low8 (wAt hs k >>> 16) ∧
    joinAt hs (4 * k + 2) = low8 (wAt hs k >>> 8) ∧ joinAt hs (4 * k + 3) = low8 (wAt hs k) := by
  unfold joinAt
  refine ⟨?_, ?_, ?_, ?_⟩
  · rw [show 4 * k / 4 = k by omega, show 4 * k % 4 = 0 by omega]
  · rw [show (4 * k + 1) / 4 = k by omega, show (4 * k + 1) % 4 = 1 by omega]
  · rw [show (4 * k + 2) / 4 = k by omega, show (4 * k + 2) % 4 = 2 by omega]
  · rw [show (4 * k + 3) / 4 = k by omega, show (4 * k + 3) % 4 = 3 by omega]; simp
theorem join_set (hs : List (BitVec 32)) (k : Nat) :
    (((((bcells (firstB (joinAt hs) 32 (4 * k))).setIfInBounds (4 * k) (.int .u8 (bi (low8 (wAt hs k >>> 24))))).setIfInBounds (4 * k + 1) (.int .u8 (bi (low8 (wAt hs k >>> 16))))).setIfInBounds (4 * k + 2) (.int .u8 (bi (low8 (wAt hs k >>> 8))))).setIfInBounds (4 * k + 3) (.int .u8 (bi (low8 (wAt hs k))))) =
      bcells (firstB (joinAt hs) 32 (4 * (k + 1))) := by
  obtain ⟨e0, e1, e2, e3⟩ := join_at hs k
  rw [← e0, ← e1, ← e2, ← e3, bcells_set, firstB_set, bcells_set, firstB_set, bcells_set, firstB_set, bcells_set, firstB_set]
  rfl
set_option maxHeartbeats 400000 in
theorem join_any (hs : List (BitVec 32)) (w : World) (hh : hs.length = 8) :
    Calls Tryd.prog 55 #[.agg (wcells hs)] w fun e w' => e = .returned (.agg (bcells (joinB hs))) ∧ Below w.heap.size w w' := by
  have Hh := Lib.hid hh
  clear hh
  go_enter Tryd.func55, Tryd.ntmps55
  go_upto_region 2 with (fail)
  rw [zeros32]
  have h0 : (((w.alloc (.cells (wcells hs) 93)).alloc (.cells (bcells (List.replicate 32 0)) 51)).alloc (.cells (bcells (List.replicate 32 0)) 51)).heap[w.heap.size]? = some (.cells (wcells hs) 93 (0, 0)) := heap_old (heap_old (heap_new rfl))
  have h1 : (((w.alloc (.cells (wcells hs) 93)).alloc (.cells (bcells (List.replicate 32 0)) 51)).alloc (.cells (bcells (List.replicate 32 0)) 51)).heap[w.heap.size + 1]? = some (.cells (bcells (List.replicate 32 0)) 51 (0, 0)) := heap_old (heap_new (by simp only [size_alloc1]))
  have h2 : (((w.alloc (.cells (wcells hs) 93)).alloc (.cells (bcells (List.replicate 32 0)) 51)).alloc (.cells (bcells (List.replicate 32 0)) 51)).heap[w.heap.size + 2]? = some (.cells (bcells (List.replicate 32 0)) 51 (0, 0)) := heap_new (by simp only [size_alloc1])
  have hbel : Below w.heap.size w (((w.alloc (.cells (wcells hs) 93)).alloc (.cells (bcells (List.replicate 32 0)) 51)).alloc (.cells (bcells (List.replicate 32 0)) 51)) := (((Below.refl _ _).alloc (Nat.le_refl _) _).alloc (by simp) _).alloc (by simp; omega) _
  generalize (((w.alloc (.cells (wcells hs) 93)).alloc (.cells (bcells (List.replicate 32 0)) 51)).alloc (.cells (bcells (List.replicate 32 0)) 51)) = w3 at *
  have H0 := Lib.hid h0
  have H1 := Lib.hid h1
  have H2 := Lib.hid h2
  have HB := Lib.hid hbel
  clear h0 h1 h2 hbel
  go_wp2_with (refine wpList_load_row rfl 93 (.tmp 1) rfl w.heap.size rfl 93 _ (0, 0) _ H0.out Tryd.underlying93 rfl (by rw [wcells_size, Hh.out]; exact size8w) ?_)
  go_loopw [4, 5, 7] (fun _ _ i wr => ∃ k : Nat, k ≤ 8 ∧ i = .int .i64 k ∧ 
      wr.heap[w.heap.size + 1]? = some (.cells (bcells (List.replicate 32 0)) 51 (0, 0)) ∧ wr.heap[w.heap.size + 2]? = some (.cells (bcells (firstB (joinAt hs) 32 (4 * k))) 51 (0, 0)) ∧ Below w.heap.size w wr)
    (fun _ _ i _ => 8 - (intOf i).toNat)
  case atStart => exact ⟨0, by omega, rfl, H1.out, by rw [firstB_zero]; exact H2.out, HB.out⟩
  case round =>
    clear H0 H1 H2 HB
    obtain ⟨k, hk, rfl, h1, h2, hb⟩ := hrel
    by_cases hlt : k < 8
    · have hix := idx_words 93 8 Tryd.underlying93 hs k hlt Hh.out
      have c0 := cell_bytes h2 (4 * k) (by rw [firstB_len]; omega)
      have c1 := cell_bytes h2 (4 * k + 1) (by rw [firstB_len]; omega)
      have c2 := cell_bytes h2 (4 * k + 2) (by rw [firstB_len]; omega)
      have c3 := cell_bytes h2 (4 * k + 3) (by rw [firstB_len]; omega)
      have f0 := frozen_of_row wr (w.heap.size + 2) (4 * k) _ _ h2
      have f1 := frozen_of_row wr (w.heap.size + 2) (4 * k + 1) _ _ h2
      have f2 := frozen_of_row wr (w.heap.size + 2) (4 * k + 2) _ _ h2
      have f3 := frozen_of_row wr (w.heap.size + 2) (4 * k + 3) _ _ h2
      have H1 := Lib.hid h1
      have H2 := Lib.hid h2
      have HB := Lib.hid hb
      clear h1 h2 hb
      have n0 : (4 * (k : Int)).toNat = 4 * k := by omega
      have n1 : (4 * (k : Int) + 1).toNat = 4 * k + 1 := by omega
      have n2 : (4 * (k : Int) + 2).toNat = 4 * k + 2 := by omega
      have n3 : (4 * (k : Int) + 3).toNat = 4 * k + 3 := by omega
      go_wp2
      go_roundw
      case rel =>
        refine ⟨k + 1, by omega, by go_num, ?_, ?_, ?_⟩
        · exact (heap_setCell_other _ _ _ _ (by simp only; omega)).trans ((heap_setCell_other _ _ _ _ (by simp only; omega)).trans ((heap_setCell_other _ _ _ _ (by simp only; omega)).trans ((heap_setCell_other _ _ _ _ (by simp only; omega)).trans H1.out)))
        · rw [← join_set]
          exact heap_setCell_same _ _ _ _ _ _ (heap_setCell_same _ _ _ _ _ _ (heap_setCell_same _ _ _ _ _ _ (heap_setCell_same _ _ _ _ _ _ H2.out)))
        · exact ((((HB.out).setCell (by simp only; omega) _).setCell (by simp only; omega) _).setCell (by simp only; omega) _).setCell (by simp only; omega) _
      case measure => simp [intOf]; omega
    · obtain rfl : k = 8 := by omega
      have HB := Lib.hid hb
      clear hb
      go_wp2_with (first | (refine wpList_load_row rfl 51 (.tmp 3) rfl (w.heap.size + 2) rfl 51 _ (0, 0) _ h2 Tryd.underlying51 rfl (by rw [bcells_size, firstB_len]; exact size32b) ?_) | (refine wpList_store_row rfl 51 (.tmp 2) (.tmp 38) rfl (w.heap.size + 1) _ rfl rfl 51 _ h1 (by rw [bcells_size, firstB_len]; exact size32b) (by simp only [bcells_size, firstB_len, List.length_replicate]) (bcells_one _) ?_))
      refine bodyPost_ret (v := .agg (bcells (firstB (joinAt hs) 32 (4 * 8)))) ?_ rfl ⟨by rw [firstB_all]; rfl, Below_setRow HB.out (by omega) _⟩
      exact results_cell_row rfl _ _ (w.heap.size + 1) 51 _ (0, 0) _ rfl (setRow_heap _ _ _ _ _ _ h1) Tryd.underlying51 rfl (by rw [bcells_size, firstB_len]; exact size32b)
def padI (n r : Int) : Int := (64 + r - n % 64) % 64
theorem padI_bd (n r : Int) : 0 ≤ padI n r ∧ padI n r < 64 := by unfold padI; omega
set_option maxHeartbeats 400000 in
/-- how many bytes must follow -/
theorem padTo_any (n r : Int) (w : World) (h0 : 0 ≤ n) (h1 : n < 4611686018427387904) (h2 : 0 ≤ r) (h3 : r < 64) :
    Calls Tryd.prog 57 #[.int .i64 n, .int .i64 r] w fun e w' => e = .returned (.int .i64 (padI n r)) ∧ w = w' := by
  go_enter Tryd.func57, Tryd.ntmps57
  go_wp2
  go_ret
  exact ⟨rfl, rfl⟩
/-- bytes as values -/
def vals (l : List UInt8) : List Value := l.map fun x => Value.int .u8 (bi x)
theorem vals_len (l : List UInt8) : (vals l).length = l.length := by simp [vals]
theorem vals_app (l m : List UInt8) : vals (l ++ m) = vals l ++ vals m := by simp [vals]
theorem vals_one (l : List UInt8) : ∀ u ∈ vals l, u.oneCell' = true := by simp [vals, Value.oneCell']
theorem vals_arr (l : List UInt8) : (vals l).toArray = bcells l := rfl
theorem vals_get (l : List UInt8) (j : Nat) (u : Value) (h : (vals l)[j]? = some u) : j < l.length ∧ u = .int .u8 (bi (byteAt l j)) := by
  have hl : j < l.length := by have := (List.getElem?_eq_some_iff.1 h).1; simpa [vals] using this
  refine ⟨hl, ?_⟩
  simp [vals, hl] at h
  simp [byteAt, hl, ← h]
theorem info5 : (Tryd.prog.info? 5).map (fun i => (i.zero, i.size, i.bytes)) = some (some (.int .u8 0), 1, 1) := by kernel_rfl
/-- the eight bytes of a number, the most significant one first -/
def be8 (x : Nat) : List UInt8 := (List.range 8).map fun j => UInt8.ofNat (x / 2 ^ (56 - 8 * j))
def padB (n : Nat) : List UInt8 := 128 :: List.replicate (padI (n + 1) 56).toNat 0 ++ be8 (8 * n)
theorem be8_take (x j : Nat) (h : j < 8) : (be8 x).take (j + 1) = (be8 x).take j ++ [UInt8.ofNat (x / 2 ^ (56 - 8 * j))] := by
  rw [List.take_succ_eq_append_getElem (by simp [be8]; omega)]
  simp [be8]
theorem low_nat (X t : Nat) : vals [UInt8.ofNat (X / 2 ^ t)] = [.int .u8 ((X : Int) / 2 ^ t % 256)] := by
  simp [vals, bi]
def Z72 : Array Value := bcells (List.replicate 72 0)
theorem Z72_0 : Z72[0]? = some (.int .u8 0) := by kernel_rfl
theorem Z72_made : madeCells (Value.int .u8 0).cells 72 = Z72 := by kernel_rfl
theorem Z72_size : (Z72.setIfInBounds 0 (.int .u8 128)).size = 72 := by kernel_rfl
theorem Z72_take (q : Nat) (h : q < 64) : (Z72.setIfInBounds 0 (.int .u8 128)).toList.take (q + 1) = vals (128 :: List.replicate q 0) := by
  have e : Z72.setIfInBounds 0 (.int .u8 128) = bcells (128 :: List.replicate 71 0) := by
    show (bcells (List.replicate 72 0)).setIfInBounds 0 (.int .u8 (bi 128)) = _
    rw [bcells_set]; rfl
  rw [e]
  show ((128 :: List.replicate 71 0).map fun x => Value.int .u8 (bi x)).take (q + 1) = _
  rw [List.map_cons, List.take_succ_cons, List.map_replicate, List.take_replicate, show min q 71 = q by omega]
  unfold vals
  rw [List.map_cons, List.map_replicate]
set_option maxRecDepth 100000 in
set_option maxHeartbeats 400000 in
/-- what follows n bytes -/
theorem padding_any (n : Int) (w : World) (h0 : 0 ≤ n) (h1 : n < 1152921504606846976) :
    Calls Tryd.prog 56 #[.int .i64 n] w fun e w' => ∃ v, e = .returned v ∧ w'.ownsRow w.heap.size 5 1 v (padB n.toNat).length (vals (padB n.toNat)) ∧ Below w.heap.size w w' := by
  obtain ⟨i0, hi, hz0, hz1, hz2⟩ := info_parts info5
  obtain ⟨p0, p1⟩ := padI_bd (n + 1) 56
  obtain ⟨m, rfl⟩ := Int.eq_ofNat_of_zero_le h0
  rw [Int.toNat_natCast]
  obtain ⟨q, hq⟩ := Int.eq_ofNat_of_zero_le p0
  rw [hq] at p0 p1
  have Hq := Lib.hid hq
  clear hq
  have q1 : q < 64 := by omega
  have hmk : ∀ w' : World, (Instr.makeSlice 34 (.int .i64 (1 + (q : Int))) (.int .i64 72)).run Tryd.prog w' = .ok (.slice (some ⟨w'.heap.size, 0, none⟩) (q + 1) 72) (w'.alloc (.cells Z72 5)) := fun w' => by
    rw [run_make w' 34 5 i0 _ Tryd.underlying34 hi hz0 .i64 .i64 (1 + (q : Int)) 72 (by omega) (by omega) (by omega) (by omega), hz1, ← Z72_made, show (1 + (q : Int)).toNat = q + 1 by omega]
    rfl
  have hz := Z72_0
  go_enter Tryd.func56, Tryd.ntmps56
  go_wp2_with (go_at_call 57; refine (padTo_any _ _ _ (by omega) (by omega) (by omega) (by omega)).mono ?_; rw [Hq.out]; rintro e w' ⟨rfl, rfl⟩)
  clear hmk hz
  have own : (w.alloc (.cells (Z72.setIfInBounds 0 (.int .u8 128)) 5)).ownsRow w.heap.size 5 1 (.slice (some ⟨w.heap.size, 0, none⟩) (q + 1) 72) (q + 1) (vals (128 :: List.replicate q 0)) :=
    ⟨by simp [vals], .inr ⟨w.heap.size, 72, _, rfl, Nat.le_refl _, heap_new rfl, by omega, by decide, by rw [Z72_size], by rw [Nat.mul_one, Z72_take q q1]⟩⟩
  have bel : Below w.heap.size w (w.alloc (.cells (Z72.setIfInBounds 0 (.int .u8 128)) 5)) := (Below.refl _ _).alloc (Nat.le_refl _) _
  generalize w.alloc (.cells (Z72.setIfInBounds 0 (.int .u8 128)) 5) = w4 at *
  obtain ⟨X, hX⟩ : ∃ X : Nat, X = 8 * m := ⟨_, rfl⟩
  have hX2 : 8 * (m : Int) = (X : Int) := by omega
  rw [hX2]
  have HX := Lib.hid hX
  have hX3 : X < 9223372036854775808 := by omega
  clear hX hX2
  go_loopw [3, 5] (fun v s wr => ∃ (j : Nat) (sh : Int), j ≤ 8 ∧ 8 * (j : Int) + sh = 56 ∧ v = .slice (some ⟨w.heap.size, 0, none⟩) (q + 1 + j) 72 ∧ s = .int .i64 sh ∧
      wr.ownsRow w.heap.size 5 1 (.slice (some ⟨w.heap.size, 0, none⟩) (q + 1 + j) 72) (q + 1 + j) (vals (128 :: List.replicate q 0) ++ vals ((be8 X).take j)) ∧ Below w.heap.size w wr)
    (fun _ s _ => (intOf s + 8).toNat)
  case atStart => exact ⟨0, 56, by omega, by omega, rfl, rfl, by simpa [vals] using own, bel⟩
  case round =>
    clear own bel
    obtain ⟨j, sh, hj, hsh, rfl, rfl, hown, hb⟩ := hrel
    have Hown := Lib.hid hown
    have HB := Lib.hid hb
    clear hown hb
    have Hi := Lib.hid (And.intro hi (And.intro hz0 (And.intro hz1 hz2)))
    clear hi hz0 hz1 hz2 h0
    have s2 : sh ≤ 56 := by omega
    by_cases hlt : j < 8
    · have s1 : 0 ≤ sh := by omega
      have Hsh := Lib.hid hsh
      clear hsh
      obtain ⟨t, rfl⟩ := Int.eq_ofNat_of_zero_le s1
      have e1 : min t 64 = t := by omega
      clear h1 p0 hX3
      have hs0 := Hi.out.2.2.1
      have HS := Lib.hid hs0
      clear hs0
      go_wp2_with (at_builtin; refine wpList_append_fits _ rfl (.tmp 20) (.tmp 25) 34 rfl w.heap.size 5 i0 1 Tryd.underlying34 Hi.out.1 HS.out w.heap.size (q + 1 + j) 72 _ rfl (Hown.out.alloc _) ⟨wr.heap.size, 0, none⟩ 1 1 [.int .u8 ((X : Int) / 2 ^ t % 256)] rfl rfl (cell_one_new _ _ _) (by simp [Value.oneCell']) (by omega) ?_)
      intro w5 hown5 hgrow
      have R : w5.ownsRow w.heap.size 5 1 (.slice (some ⟨w.heap.size, 0, none⟩) (q + 1 + (j + 1)) 72) (q + 1 + (j + 1)) (vals (128 :: List.replicate q 0) ++ vals ((be8 X).take (j + 1))) := by
        rw [be8_take X j hlt, vals_app, low_nat X (56 - 8 * j), show 56 - 8 * j = t by have := Hsh.out; omega]
        exact hown5
      have B5 : Below w.heap.size w w5 := (HB.out.alloc HB.out.size _).grown hgrow (by simp; have := HB.out.size; omega) (fun r hr => by cases hr; exact Nat.le_refl _)
      clear hgrow hown5
      have HR := Lib.hid R
      have HB5 := Lib.hid B5
      clear R B5
      go_wp2
      go_roundw
      case rel => exact ⟨j + 1, (t : Int) - 8, by omega, by have := Hsh.out; omega, rfl, rfl, HR.out, HB5.out⟩
      case measure => have := Hsh.out; simp [intOf]; omega
    · obtain rfl : j = 8 := by omega
      obtain rfl : sh = -8 := by omega
      go_wp2
      go_ret
      refine ⟨_, rfl, ?_, HB.out⟩
      have := Hown.out
      rw [← vals_app, show (be8 X).take 8 = be8 X from List.take_of_length_le (by simp [be8])] at this
      unfold padB
      rw [Hq.out, Int.toNat_natCast, ← HX.out]
      simpa [be8] using this
end Go.Proofs.YthffegfcgmhppaaDoor.Dg
namespace Go.Proofs.YthffegfcgmhppaaDoor.Dg
set_option maxRecDepth 100000
set_option linter.unusedSimpArgs false
set_option linter.unusedVariables false
open Go.RowKit
/-- a slice that reads as bytes -/
def Bs (w : World) (a : Option Addr) (n c : Nat) (l : List UInt8) : Prop :=
  l.length = n ∧ n ≤ c ∧ c ≤ maxLen ∧ (a = none → c = 0) ∧ (0 < n → ∃ b off, a = some ⟨b, off, none⟩ ∧ ∀ i, i < n → w.cell? ⟨b, off + i, none⟩ = some (.int .u8 (bi (byteAt l i))))
theorem Bs.below {w w' : World} {a : Option Addr} {n c : Nat} {l : List UInt8} (h : Bs w a n c l) (hb : Below w.heap.size w w') : Bs w' a n c l := by
  obtain ⟨h1, h2, h3, h4, h5⟩ := h
  refine ⟨h1, h2, h3, h4, fun hn => ?_⟩
  obtain ⟨b, off, ha, hc⟩ := h5 hn
  have hbl : b < w.heap.size := block_lt_of_cell (hc 0 hn)
  exact ⟨b, off, ha, fun i hi => (hb.cell (p := ⟨b, off + i, none⟩) hbl).trans (hc i hi)⟩
theorem Bs.drewN {w : World} {a : Option Addr} {n c : Nat} {l : List UInt8} (h : Bs w a n c l) (k : Nat) : Bs (w.drewN k) a n c l := h
theorem Bs.alloc {w : World} {a : Option Addr} {n c : Nat} {l : List UInt8} (h : Bs w a n c l) (o : Obj) : Bs (w.alloc o) a n c l :=
  h.below ((Below.refl _ _).alloc (Nat.le_refl _) _)
/-- the nil slice, an empty slice -/
theorem Bs_empty (w : World) (a : Option Addr) (c : Nat) (hc : c ≤ maxLen) (ha : a = none → c = 0) : Bs w a 0 c [] :=
  ⟨rfl, Nat.zero_le _, hc, ha, fun h => absurd h (by omega)⟩
theorem byteAt_lt (l : List UInt8) (i : Nat) (h : i < l.length) : byteAt l i = l[i] := by simp [byteAt, h]
theorem byteAt_take (l : List UInt8) (k i : Nat) (h : i < k) : byteAt (l.take k) i = byteAt l i := by
  simp only [byteAt, List.getD_eq_getElem?_getD, List.getElem?_take, if_pos h]
theorem byteAt_drop (l : List UInt8) (k i : Nat) : byteAt (l.drop k) i = byteAt l (k + i) := by
  simp only [byteAt, List.getD_eq_getElem?_getD, List.getElem?_drop]
/-- what a row of the call's own reads as -/
theorem Bs_of_own {w : World} {base : Nat} {v : Value} {l : List UInt8} (h : w.ownsRow base 5 1 v l.length (vals l)) :
    ∃ a c, v = .slice a l.length c ∧ Bs w a l.length c l := by
  obtain ⟨_, ⟨rfl, hn⟩ | ⟨g, cap, cur, rfl, hb, hg, hnc, hcm, hcs, htk⟩⟩ := h
  · have : l = [] := List.eq_nil_of_length_eq_zero hn
    subst this
    exact ⟨none, 0, rfl, Bs_empty _ _ _ (Nat.zero_le _) (fun _ => rfl)⟩
  · refine ⟨some ⟨g, 0, none⟩, cap, rfl, rfl, hnc, hcm, fun h => (by cases h), fun _ => ⟨g, 0, rfl, fun i hi => ?_⟩⟩
    rw [Nat.zero_add, cell_of_row w g i cur _ _ hg]
    have h1 : (cur.toList.take (l.length * 1))[i]? = (vals l)[i]? := by rw [htk]
    rw [List.getElem?_take, if_pos (by omega)] at h1
    rw [← Array.getElem?_toList, h1]
    simp [vals, byteAt, hi]
/-- append of a slice of bytes onto a row of the call's own -/
theorem append_bs {w : World} {ops : Array Oper} {rest : List Oper} {o : Oper} {act : Act} {Q : Exit → Act → World → Prop} (hgd : o.guard = none) (s x : Operand)
    (ho : o.op = .call { callee := .builtin .append, args := #[s, x], argTypes := #[34, 34] }) (base : Nat)
    (v : Value) (n : Nat) (xs : List Value) (hs : act.eval s = v) (hown : w.ownsRow base 5 1 v n xs)
    (a : Option Addr) (m c : Nat) (l : List UInt8) (hx : act.eval x = .slice a m c) (hB : Bs w a m c l) (hn : n + m ≤ 140737488355328) (hbase : base ≤ w.heap.size)
    (h : ∀ v' w', w'.ownsRow base 5 1 v' (n + m) (xs ++ vals l) → w.grownBy w' v.ownBlock → wpList Tryd.prog ops Q rest (act.put o.dst v') w') :
    wpList Tryd.prog ops Q (o :: rest) act w := by
  obtain ⟨i0, hi, hz0, hz1, hz2⟩ := info_parts info5
  obtain ⟨h1, h2, h3, h4, h5⟩ := hB
  cases a with
  | none =>
    have hc := h4 rfl
    subst hc
    have hm : m = 0 := by omega
    subst hm
    have hl : l = [] := List.eq_nil_of_length_eq_zero h1
    subst hl
    refine wpList_append_own_none hgd s x 34 ho base 5 i0 1 Tryd.underlying34 hi v n xs hs hown hx (h v w ?_ (World.grownBy.refl _ _))
    simpa [vals] using hown
  | some ad =>
    refine wpList_append_own w hgd s x 34 ho base 5 i0 (.int .u8 0) 1 1 Tryd.underlying34 hi hz0 hz1 hz2 rfl (by decide) v n xs hs hown ad m c (vals l) hx (by rw [vals_len, h1]; omega) ?_ (vals_one l) (by unfold maxLen; omega) (by omega) hbase (fun v' w' a1 a2 _ => h v' w' a1 a2)
    intro j u hu
    obtain ⟨hj, rfl⟩ := vals_get l j u hu
    obtain ⟨b, off, hab, hc⟩ := h5 (by omega)
    cases hab
    rw [show (⟨b, off, none⟩ : Addr).add j = ⟨b, off + j, none⟩ by unfold Addr.add; split <;> simp_all]
    exact hc j (by omega)
theorem own_below {B : Nat} {a w w' : World} {v : Value} {n : Nat} {xs : List Value} (h : Below B a w) (hown : w.ownsRow B 5 1 v n xs) (hg : w.grownBy w' v.ownBlock) (hB : B ≤ w.heap.size) : Below B a w' :=
  h.grown hg hB (fun k hk => (hown.lt k hk).1)
/-- append of n zero bytes onto the nil slice -/
theorem append_zeros {w : World} {ops : Array Oper} {rest : List Oper} {o : Oper} {act : Act} {Q : Exit → Act → World → Prop} (hgd : o.guard = none) (s x : Operand)
    (ho : o.op = .call { callee := .builtin .append, args := #[s, x], argTypes := #[34, 3] }) (n : Nat) (h0 : 0 < n) (hn : n ≤ 140737488355328)
    (hs : act.eval s = .slice none 0 0) (hx : act.eval x = .int .i64 n)
    (hh : ∀ (G : Nat) (cs : Array Value), n ≤ G → G ≤ maxLen → cs.size = G → wpList Tryd.prog ops Q rest (act.put o.dst (.slice (some ⟨w.heap.size, 0, none⟩) n G)) (w.drew.alloc (.cells cs 5))) :
    wpList Tryd.prog ops Q (o :: rest) act w := by
  obtain ⟨i0, hi, hz0, hz1, hz2⟩ := info_parts info5
  have h := Lib.run_append_grow_zeros (P := Tryd.prog) w 34 3 o.type 5 i0 (.int .u8 0) .i64 .i64 Tryd.underlying34 Tryd.underlying3 hi hz0 none 0 0 [] (run_firstCells_none w.drew i0.size 0 0 0) n h0 (by omega) (by omega) (by omega) (by rw [hz2]; omega)
    (by rw [hz2]; exact growslice_fits (by omega) (by omega))
  rw [Nat.zero_add] at h
  have hG := grownCap_ge w n 0 5
  have hG2 := grownCap_le_maxLen w n 0 5 (by unfold maxLen; omega)
  refine wpList_plain hgd fun K hK => ?_
  unfold Oper.wp
  simp only [execOp, ho, resolve, invoke, builtin, hs, hx, List.map_cons, List.map_nil, List.map_toArray, Sem.run_bind, Sem.run_pure, Result.andThen_ok, h]
  refine hK _ _ (hh _ _ hG hG2 ?_)
  simp only [Array.size_append, size_zeroCells, List.size_toArray, List.length_nil, Value.cells]
  simp
  omega
set_option maxRecDepth 100000 in
set_option maxHeartbeats 400000 in
/-- slices.Grow of the nil slice -/
theorem grow_any (n : Nat) (w : World) (hn : n ≤ 140737488355328) :
    Calls Tryd.prog 66 #[.slice none 0 0, .int .i64 n] w fun e w' => ∃ v, e = .returned v ∧ w'.ownsRow w.heap.size 5 1 v 0 [] ∧ Below w.heap.size w w' := by
  by_cases h0 : n = 0
  · subst h0
    go_enter Tryd.func66, Tryd.ntmps66
    go_wp2
    go_ret
    exact ⟨_, rfl, World.ownsRow_nil _ _ _ _, Below.refl _ _⟩
  · have n1 : ¬ ((n : Int) < 0) := by omega
    have n2 : (0 : Int) < (n : Int) := by omega
    have n3 : 0 < n := by omega
    go_enter Tryd.func66, Tryd.ntmps66
    go_wp2_with (at_builtin; refine append_zeros rfl (.tmp 20) (.tmp 21) rfl n n3 hn rfl rfl ?_)
    intro G cs hG hG2 hcs
    have hm : G ≤ 9223372036854775807 := hG2
    have Hcs := Lib.hid hcs
    clear hcs
    go_wp2
    go_ret
    refine ⟨_, rfl, ⟨rfl, .inr ⟨w.heap.size, G, cs, rfl, Nat.le_refl _, ?_, Nat.zero_le _, hG2, by rw [Hcs.out, Nat.mul_one], rfl⟩⟩, ?_⟩
    · exact heap_new rfl
    · exact ((Below.refl _ _).alloc (Nat.le_refl _) _).drew
end Go.Proofs.YthffegfcgmhppaaDoor.Dg
namespace Go.Proofs.YthffegfcgmhppaaDoor.Dg
set_option maxRecDepth 100000
set_option linter.unusedSimpArgs false
set_option linter.unusedVariables false
open Go.RowKit
/-- a piece: a slice value and the bytes that it reads as -/
structure Pc where
  a : Option Addr
  n : Nat
  c : Nat
  l : List UInt8
def Pc.val (p : Pc) : Value := .slice p.a p.n p.c
def joined (ps : List Pc) : List UInt8 := ps.flatMap Pc.l
def Pcs (w : World) (S : Nat) (ps : List Pc) : Prop := (∀ i (h : i < ps.length), w.cell? ⟨S, i, none⟩ = some ps[i].val) ∧ ∀ p ∈ ps, Bs w p.a p.n p.c p.l
theorem Pcs.below {w w' : World} {S : Nat} {ps : List Pc} (h : Pcs w S ps) (hS : S < w.heap.size) (hb : Below w.heap.size w w') : Pcs w' S ps :=
  ⟨fun i hi => (hb.cell (p := ⟨S, i, none⟩) hS).trans (h.1 i hi), fun p hp => (h.2 p hp).below hb⟩
theorem joined_take (ps : List Pc) (k : Nat) (h : k < ps.length) : joined (ps.take (k + 1)) = joined (ps.take k) ++ ps[k].l := by
  unfold joined
  rw [List.take_succ_eq_append_getElem h, List.flatMap_append]
  simp
theorem joined_len_le (ps : List Pc) (k : Nat) : (joined (ps.take k)).length ≤ (joined ps).length := by
  unfold joined
  rw [← List.take_append_drop k ps, List.flatMap_append]
  simp
set_option maxRecDepth 100000 in
set_option maxHeartbeats 400000 in
theorem concat_any (ps : List Pc) (S : Nat) (w : World) (hP : Pcs w S ps) (hS : S < w.heap.size) (hk : ps.length ≤ 1000000) (hn : (joined ps).length ≤ 140737488355328) :
    Calls Tryd.prog 59 #[.slice (some ⟨S, 0, none⟩) ps.length ps.length] w fun e w' => ∃ a c, e = .returned (.slice a (joined ps).length c) ∧ Bs w' a (joined ps).length c (joined ps) ∧ Below w.heap.size w w' := by
  obtain ⟨K, hK⟩ : ∃ K, K = ps.length := ⟨_, rfl⟩
  rw [← hK] at hk ⊢
  have HK := Lib.hid hK
  clear hK
  go_enter Tryd.func59, Tryd.ntmps59
  go_wp2
  go_loop [3, 5, 11] (fun s _ i => ∃ k : Nat, k ≤ K ∧ i = .int .i64 k ∧ s = .int .i64 ((joined (ps.take k)).length : Nat)) (fun _ _ i => K - (intOf i).toNat)
  case atStart => exact ⟨0, Nat.zero_le _, rfl, rfl⟩
  case round =>
    obtain ⟨k, hk2, rfl, rfl⟩ := hrel
    by_cases hlt : k < K
    · have hkl : k < ps.length := by have := HK.out; omega
      have hc : w.cell? ⟨S, k, none⟩ = some (.slice ps[k].a ps[k].n ps[k].c) := hP.1 k hkl
      have hl : ps[k].l.length = ps[k].n := (hP.2 _ (List.getElem_mem hkl)).1
      have hj := joined_take ps k hkl
      have hb := joined_len_le ps (k + 1)
      have hlen : (joined (ps.take k)).length + ps[k].n = (joined (ps.take (k + 1))).length := by rw [hj, List.length_append, hl]
      generalize ps[k] = p at *
      generalize (joined (ps.take k)).length = A at *
      generalize hA2 : (joined (ps.take (k + 1))).length = A2 at *
      have hA3 : A + p.n ≤ 140737488355328 := by omega
      have HA2 := Lib.hid hA2
      have HL := Lib.hid hlen
      have HP := Lib.hid hP
      clear hA2 hlen hj hl hb hP hn
      go_wp2
      go_round
      case rel => exact ⟨k + 1, by omega, by go_num, by rw [HA2.out, ← HL.out]; go_num⟩
      case measure => simp [intOf]; omega
    · obtain rfl : k = K := by omega
      have e1 : joined (ps.take k) = joined ps := by rw [HK.out, List.take_length]
      have HP := Lib.hid hP
      have hn2 := hn
      obtain ⟨N, hN⟩ : ∃ N, N = (joined ps).length := ⟨_, rfl⟩
      rw [e1, ← hN]
      rw [← hN] at hn
      have HN := Lib.hid hN
      clear e1 hP hN hn2
      go_wp2_with (go_at_call 66; refine (grow_any _ _ hn).mono ?_; rintro e w1 ⟨v, rfl, hown, hb1⟩)
      have Hown := Lib.hid hown
      have HB := Lib.hid hb1
      clear hown hb1
      go_loopw [6, 8, 27] (fun v _ i wr => ∃ j : Nat, j ≤ k ∧ i = .int .i64 j ∧ wr.ownsRow w.heap.size 5 1 v (joined (ps.take j)).length (vals (joined (ps.take j))) ∧ Below w.heap.size w wr) (fun _ _ i _ => k - (intOf i).toNat)
      case atStart => exact ⟨0, Nat.zero_le _, rfl, Hown.out, HB.out⟩
      case round =>
        clear Hown HB
        obtain ⟨j, hj, rfl, hown, hb⟩ := hrel
        have Hown := Lib.hid hown
        have HB := Lib.hid hb
        clear hown hb
        by_cases hlj : j < k
        · have hkl : j < ps.length := by have := HK.out; omega
          have hc : wr.cell? ⟨S, j, none⟩ = some (.slice ps[j].a ps[j].n ps[j].c) := (HB.out.cell (p := ⟨S, j, none⟩) hS).trans (HP.out.1 j hkl)
          have hBs : Bs wr ps[j].a ps[j].n ps[j].c ps[j].l := (HP.out.2 _ (List.getElem_mem hkl)).below HB.out
          have hjj := joined_take ps j hkl
          have hbd := joined_len_le ps (j + 1)
          have hlen : (joined (ps.take j)).length + ps[j].n = (joined (ps.take (j + 1))).length := by rw [hjj, List.length_append, hBs.1]
          have hlow : (joined (ps.take j)).length + ps[j].n ≤ 140737488355328 := by have := HN.out; omega
          generalize ps[j] = p at *
          have HBs := Lib.hid hBs
          have Hjj := Lib.hid hjj
          have Hlen := Lib.hid hlen
          have Hlow := Lib.hid hlow
          clear hBs hjj hlen hbd hlow
          go_wp2_with (at_builtin; refine append_bs rfl (.tmp 31) (.tmp 32) rfl w.heap.size _ _ _ rfl Hown.out p.a p.n p.c p.l rfl HBs.out Hlow.out HB.out.size ?_)
          intro v' w5 hown5 hgrow
          have R : w5.ownsRow w.heap.size 5 1 v' (joined (ps.take (j + 1))).length (vals (joined (ps.take (j + 1)))) := by
            rw [Hjj.out, vals_app, List.length_append, HBs.out.1]; exact hown5
          have B5 := own_below HB.out Hown.out hgrow HB.out.size
          have HR := Lib.hid R
          have HB5 := Lib.hid B5
          clear R B5 hown5 hgrow hc
          go_wp2
          go_roundw
          case rel => exact ⟨j + 1, by omega, by go_num, HR.out, HB5.out⟩
          case measure => simp [intOf]; omega
        · obtain rfl : j = k := by omega
          have e1 : joined (ps.take j) = joined ps := by rw [HK.out, List.take_length]
          have R := Hown.out
          rw [e1] at R
          obtain ⟨a, c, rfl, hBs⟩ := Bs_of_own R
          have HBs := Lib.hid hBs
          clear hBs R e1 Hown
          go_wp2
          go_ret
          exact ⟨a, c, rfl, HBs.out, HB.out⟩
end Go.Proofs.YthffegfcgmhppaaDoor.Dg
namespace Go.Proofs.YthffegfcgmhppaaDoor.Dg
set_option maxRecDepth 100000
set_option linter.unusedSimpArgs false
set_option linter.unusedVariables false
open Go.RowKit
/-- the chaining values after k blocks of l -/
def absTo (hs : List (BitVec 32)) (l : List UInt8) : Nat → List (BitVec 32)
  | 0 => hs
  | k + 1 => mixW (absTo hs l k) (wordsOf ((l.drop (64 * k)).take 64))
theorem mixW_len (hs ws : List (BitVec 32)) (h : hs.length = 8) : (mixW hs ws).length = 8 := by simp [mixW, h, V8.list]
theorem absTo_len (hs : List (BitVec 32)) (l : List UInt8) (h : hs.length = 8) (k : Nat) : (absTo hs l k).length = 8 := by
  induction k with
  | zero => exact h
  | succ k ih => exact mixW_len _ _ ih
def absH (hs : List (BitVec 32)) (l : List UInt8) : List (BitVec 32) := absTo hs l (l.length / 64)
def absR (l : List UInt8) : List UInt8 := l.drop (64 * (l.length / 64))
/-- words as values -/
def wvals (l : List (BitVec 32)) : List Value := l.map fun x => Value.int .u32 (wi x)
theorem wvals_arr (l : List (BitVec 32)) : (wvals l).toArray = wcells l := rfl
theorem wvals_len (l : List (BitVec 32)) : (wvals l).length = l.length := by simp [wvals]
theorem wvals_one (l : List (BitVec 32)) : ∀ v ∈ wvals l, v.oneCell' = true := by simp [wvals, Value.oneCell']
theorem range_below {w w' : World} {b o : Nat} {cs : List Value} (h : w.rangeAt b o cs) (hb : Below w.heap.size w w') : w'.rangeAt b o cs := fun j v hv => by
  have hc := h j v hv
  exact (hb.cell (p := ⟨b, o + j, none⟩) (block_lt_of_cell hc)).trans hc
theorem there_below {w w' : World} {b o n : Nat} (h : w.there b o n) (hb : Below w.heap.size w w') : w'.there b o n := fun j hj => by
  obtain ⟨h1, h2⟩ := h j hj
  obtain ⟨v, hv⟩ := Option.isSome_iff_exists.1 h1
  have hl := block_lt_of_cell hv
  exact ⟨by rw [hb.cell (p := ⟨b, o + j, none⟩) hl]; exact h1, by rw [hb.frozen (p := ⟨b, o + j, none⟩) hl]; exact h2⟩
theorem tabs_below {w w' : World} (h : Tabs w) (hb : Below w.heap.size w w') : Tabs w' := h.below hb h.2.2
/-- an array of eight words in a block: that it is there, and what it reads as -/
def Row8 (w : World) (g o : Nat) : Prop := ∃ l : List (BitVec 32), l.length = 8 ∧ w.rangeAt g o (wvals l) ∧ w.there g o 8
def row8 (w : World) (g o : Nat) : List (BitVec 32) := (List.range 8).map fun j => match w.cell? ⟨g, o + j, none⟩ with | some (.int _ n) => BitVec.ofInt 32 n | _ => 0
theorem row8_of {w : World} {g o : Nat} {l : List (BitVec 32)} (hl : l.length = 8) (h : w.rangeAt g o (wvals l)) : row8 w g o = l := by
  apply List.ext_getElem (by simp [row8, hl])
  intro j h1 h2
  have hc : w.cell? ⟨g, o + j, none⟩ = some (.int .u32 (wi l[j])) := h j _ (by simp [wvals, h2])
  simp [row8, hc, ofInt_wi]
theorem row8_len (w : World) (g o : Nat) : (row8 w g o).length = 8 := by simp [row8]
theorem row8_mk {w : World} {g o : Nat} {l : List (BitVec 32)} (hl : l.length = 8) (h : w.rangeAt g o (wvals l)) (ht : w.there g o 8) : Row8 w g o := ⟨l, hl, h, ht⟩
theorem Row8.range {w : World} {g o : Nat} (h : Row8 w g o) : w.rangeAt g o (wvals (row8 w g o)) := by
  obtain ⟨l, hl, h1, h2⟩ := h
  rw [row8_of hl h1]; exact h1
theorem Row8.thr {w : World} {g o : Nat} (h : Row8 w g o) : w.there g o 8 := by obtain ⟨l, hl, h1, h2⟩ := h; exact h2
theorem Row8.below {w w' : World} {g o : Nat} (h : Row8 w g o) (hb : Below w.heap.size w w') : Row8 w' g o ∧ row8 w' g o = row8 w g o := by
  have h1 := range_below h.range hb
  exact ⟨⟨_, row8_len _ _ _, h1, there_below h.thr hb⟩, row8_of (row8_len _ _ _) h1⟩
theorem Row8_drew (w : World) (g o : Nat) : Row8 w.drew g o ↔ Row8 w g o := by constructor <;> exact id
theorem row8_drew (w : World) (g o : Nat) : row8 w.drew g o = row8 w g o := rfl
theorem load8 (w : World) (g o : Nat) (h : Row8 w g o) : (Instr.loadAt 93 (.pointer (some ⟨g, o, none⟩))).run Tryd.prog w = .ok (.agg (wcells (row8 w g o))) w :=
  run_loadAt_mid w g o 93 (wvals (row8 w g o)) _ h.range Tryd.underlying93 rfl (by rw [wvals_len, row8_len]; exact size8w)
theorem store8 (w : World) (g o : Nat) (l : List (BitVec 32)) (hl : l.length = 8) (h : Row8 w g o) : (Instr.storeAt 93 (.pointer (some ⟨g, o, none⟩)) (.agg (wcells l))).run Tryd.prog w = .ok () (w.setCells g o (wvals l)) := by
  have := run_storeAt_mid (P := Tryd.prog) w g o 93 (wcells l) (by rw [wcells_size, hl]; exact h.thr) (by rw [wcells_size, hl]; exact size8w) (wcells_one l)
  exact this
/-- sixty-four bytes in a block -/
def Row64 (w : World) (g o : Nat) : Prop := ∃ l : List UInt8, l.length = 64 ∧ w.rangeAt g o (vals l)
def row64 (w : World) (g o : Nat) : List UInt8 := (List.range 64).map fun j => match w.cell? ⟨g, o + j, none⟩ with | some (.int _ n) => UInt8.ofNat n.toNat | _ => 0
theorem row64_of {w : World} {g o : Nat} {l : List UInt8} (hl : l.length = 64) (h : w.rangeAt g o (vals l)) : row64 w g o = l := by
  apply List.ext_getElem (by simp [row64, hl])
  intro j h1 h2
  have hc : w.cell? ⟨g, o + j, none⟩ = some (.int .u8 (bi l[j])) := h j _ (by simp [vals, h2])
  simp [row64, hc, bi]
theorem row64_len (w : World) (g o : Nat) : (row64 w g o).length = 64 := by simp [row64]
theorem Row64.range {w : World} {g o : Nat} (h : Row64 w g o) : w.rangeAt g o (vals (row64 w g o)) := by
  obtain ⟨l, hl, h1⟩ := h
  rw [row64_of hl h1]; exact h1
theorem Row64_drew (w : World) (g o : Nat) : Row64 w.drew g o ↔ Row64 w g o := by constructor <;> exact id
theorem row64_drew (w : World) (g o : Nat) : row64 w.drew g o = row64 w g o := rfl
theorem load64 (w : World) (g o : Nat) (h : Row64 w g o) : (Instr.loadAt 75 (.pointer (some ⟨g, o, none⟩))).run Tryd.prog w = .ok (.agg (bcells (row64 w g o))) w :=
  run_loadAt_mid w g o 75 (vals (row64 w g o)) _ h.range Tryd.underlying75 rfl (by rw [vals_len, row64_len]; exact size64b)
/-- the operations that load and store such arrays, by names that the walk does not lay open -/
def load8A (v : Value) : Sem Next := do pure (.value (← Instr.loadAt 93 v))
def store8A (v x : Value) : Sem Next := do Instr.storeAt 93 v x; pure .skip
def load64A (v : Value) : Sem Next := do pure (.value (← Instr.loadAt 75 v))
theorem exec_load8 (ρ : Operand → Value) (d : Option Tmp) (x : Operand) (ty : TypeId) (pos : String) (af : Array Edge) (gd : Option (Nat × Bool)) :
    execOp ρ { dst := d, op := .load 93 x, type := ty, pos := pos, after := af, guard := gd } = load8A (ρ x) := rfl
theorem exec_store8 (ρ : Operand → Value) (d : Option Tmp) (x y : Operand) (ty : TypeId) (pos : String) (af : Array Edge) (gd : Option (Nat × Bool)) :
    execOp ρ { dst := d, op := .store 93 x y, type := ty, pos := pos, after := af, guard := gd } = store8A (ρ x) (ρ y) := rfl
theorem exec_load64 (ρ : Operand → Value) (d : Option Tmp) (x : Operand) (ty : TypeId) (pos : String) (af : Array Edge) (gd : Option (Nat × Bool)) :
    execOp ρ { dst := d, op := .load 75 x, type := ty, pos := pos, after := af, guard := gd } = load64A (ρ x) := rfl
theorem run_load8 (w : World) (g o : Nat) (h : Row8 w g o) : (load8A (.pointer (some ⟨g, o, none⟩))).run Tryd.prog w = .ok (.value (.agg (wcells (row8 w g o)))) w := by
  unfold load8A
  simp only [Sem.run_bind, Sem.run_pure, load8 w g o h, Result.andThen_ok]
theorem run_store8 (w : World) (g o : Nat) (l : List (BitVec 32)) (hl : l.length = 8) (h : Row8 w g o) : (store8A (.pointer (some ⟨g, o, none⟩)) (.agg (wcells l))).run Tryd.prog w = .ok .skip (w.setCells g o (wvals l)) := by
  unfold store8A
  simp only [Sem.run_bind, Sem.run_pure, store8 w g o l hl h, Result.andThen_ok]
theorem run_load64 (w : World) (g o : Nat) (h : Row64 w g o) : (load64A (.pointer (some ⟨g, o, none⟩))).run Tryd.prog w = .ok (.value (.agg (bcells (row64 w g o)))) w := by
  unfold load64A
  simp only [Sem.run_bind, Sem.run_pure, load64 w g o h, Result.andThen_ok]
attribute [local go_sem ↓] exec_load8 exec_store8 exec_load64 Go.wp_at_zero Go.wp_at_succ
theorem arrayAt64 (a : Option Addr) (n c : Nat) (w : World) (h : 64 ≤ n) : (Instr.arrayAt 75 (.slice a n c)).run Tryd.prog w = .ok (.pointer a) w := by
  simp [Instr.arrayAt, run_underlying Tryd.underlying75, Sem.run_bind, Result.andThen, show ¬ n < 64 by omega]
attribute [local go_sem] arrayAt64 run_load8 run_store8 run_load64 Row8_drew row8_drew Row64_drew row64_drew
theorem Below_setCells {B : Nat} {a : World} {b : Nat} (hB : B ≤ b) : ∀ (vs : List Value) (o : Nat) (w : World), Below B a w → Below B a (w.setCells b o vs)
  | [], _, _, h => h
  | v :: r, o, w, h => Below_setCells hB r (o + 1) _ (h.setCell hB v)
theorem heap_setCells {b k : Nat} (hk : k ≠ b) : ∀ (vs : List Value) (o : Nat) (w : World), (w.setCells b o vs).heap[k]? = w.heap[k]?
  | [], _, _ => rfl
  | v :: r, o, w => (heap_setCells hk r (o + 1) _).trans (heap_setCell_other _ _ _ _ hk)
theorem abs_step {w0 wr w1 w2 : World} {o : Obj} {new : List (BitVec 32)} (HB : Below w0.heap.size w0 wr) (hb1 : Below wr.drew.heap.size wr.drew w1) (hb2 : Below w1.heap.size w1 w2) (r8 : Row8 w2 w0.heap.size 0) (hl : new.length = 8)
    (H1 : wr.heap[w0.heap.size + 1]? = some o) :
    (w2.setCells w0.heap.size 0 (wvals new)).rangeAt w0.heap.size 0 (wvals new) ∧ (w2.setCells w0.heap.size 0 (wvals new)).there w0.heap.size 0 8 ∧
      (w2.setCells w0.heap.size 0 (wvals new)).heap[w0.heap.size + 1]? = some o ∧ Below w0.heap.size w0 (w2.setCells w0.heap.size 0 (wvals new)) := by
  have s1 : w0.heap.size + 1 < wr.heap.size := heap_lt H1
  have s2 : wr.heap.size ≤ w1.heap.size := hb1.size
  refine ⟨World.rangeAt_setCells_same _ _ _ _ (by rw [wvals_len, hl]; exact r8.thr), World.there_setCells r8.thr _ _ _, ?_, ?_⟩
  · rw [heap_setCells (by omega), hb2.block _ (by omega), hb1.block _ s1]; exact H1
  · exact Below_setCells (Nat.le_refl _) _ _ _ ((HB.drew.trans (hb1.mono (by have := HB.size; exact this))).trans (hb2.mono (by have := HB.size; omega)))
theorem Bs_drop64 {w : World} {b off n c : Nat} {l : List UInt8} (h : Bs w (some ⟨b, off, none⟩) n c l) (hn : 64 ≤ n) (hc : 64 < c) : Bs w (some ⟨b, off + 64, none⟩) (n - 64) (c - 64) (l.drop 64) := by
  obtain ⟨h1, h2, h3, _, h5⟩ := h
  refine ⟨by rw [List.length_drop, h1], by omega, by omega, fun h => (by cases h), fun hp => ⟨b, off + 64, rfl, fun i hi => ?_⟩⟩
  obtain ⟨b', off', hab, hcell⟩ := h5 (by omega)
  cases hab
  rw [byteAt_drop, Nat.add_assoc]
  exact hcell (64 + i) (by omega)
set_option maxRecDepth 100000 in
set_option maxHeartbeats 400000 in
theorem absorb_any (hs : List (BitVec 32)) (a : Option Addr) (n c : Nat) (l : List UInt8) (w : World) (hT : Tabs w) (hh : hs.length = 8) (hB : Bs w a n c l) (hn : n ≤ 281474976710656) :
    Calls Tryd.prog 58 #[.agg (wcells hs), .slice a n c] w fun e w' => ∃ a' c', e = .returned (.tuple #[.agg (wcells (absH hs l)), .slice a' (absR l).length c']) ∧ Bs w' a' (absR l).length c' (absR l) ∧ Below w.heap.size w w' := by
  have HT := Lib.hid hT
  have Hh := Lib.hid hh
  have HBs := Lib.hid hB
  have hz := hT.2.2
  clear hT hh hB
  go_enter Tryd.func58, Tryd.ntmps58
  go_upto_region 1 with (fail)
  rw [zeros8]
  have h0 : ((w.alloc (.cells (wcells hs) 93)).alloc (.cells (wcells (List.replicate 8 0)) 93)).heap[w.heap.size]? = some (.cells (wcells hs) 93 (0, 0)) := heap_old (heap_new rfl)
  have h1 : ((w.alloc (.cells (wcells hs) 93)).alloc (.cells (wcells (List.replicate 8 0)) 93)).heap[w.heap.size + 1]? = some (.cells (wcells (List.replicate 8 0)) 93 (0, 0)) := heap_new (by simp only [size_alloc1])
  have hbel : Below w.heap.size w ((w.alloc (.cells (wcells hs) 93)).alloc (.cells (wcells (List.replicate 8 0)) 93)) := ((Below.refl _ _).alloc (Nat.le_refl _) _).alloc (by simp) _
  generalize ((w.alloc (.cells (wcells hs) 93)).alloc (.cells (wcells (List.replicate 8 0)) 93)) = w3 at *
  have H0 := Lib.hid h0
  have H1 := Lib.hid h1
  have HB := Lib.hid hbel
  clear h0 h1 hbel
  go_wp2
  go_loopw [1] (fun v wr => ∃ (k n' c' : Nat) (a' : Option Addr), v = .slice a' n' c' ∧ n' + 64 * k = n ∧ Bs w a' n' c' (l.drop (64 * k)) ∧
      wr.rangeAt w.heap.size 0 (wvals (absTo hs l k)) ∧ wr.there w.heap.size 0 8 ∧ wr.heap[w.heap.size + 1]? = some (.cells (wcells (List.replicate 8 0)) 93 (0, 0)) ∧ Below w.heap.size w wr)
    (fun v _ => match v with | .slice _ n' _ => n' | _ => 0)
  case atStart =>
    refine ⟨0, n, c, a, rfl, by omega, HBs.out, ?_, ?_, H1.out, HB.out⟩
    · intro j v hv
      have hj : (wvals hs)[j]? = some v := hv
      rw [Nat.zero_add, cell_of_row w3 _ j _ _ _ H0.out, ← wvals_arr, List.getElem?_toArray]
      exact hj
    · intro j hj
      rw [Nat.zero_add]
      exact ⟨by rw [cell_of_row w3 _ j _ _ _ H0.out, wcells_get hs j (by rw [Hh.out]; exact hj)]; rfl, frozen_of_row w3 _ j _ _ H0.out⟩
  case round =>
    clear H0 H1 HB
    have HBn := HBs.out.1
    clear HBs
    obtain ⟨k, n', c', a', rfl, hnk, hBs, hR, hTh, h1, hb⟩ := hrel
    have Hnk := Lib.hid hnk
    have HR := Lib.hid hR
    have HTh := Lib.hid hTh
    have H1 := Lib.hid h1
    have HB := Lib.hid hb
    have Hn := Lib.hid HBn
    by_cases hlt : 64 ≤ n'
    · obtain ⟨b, off, rfl, hc⟩ := hBs.2.2.2.2 (by omega)
      have hcap : c' ≤ 9223372036854775807 := hBs.2.2.1
      have hnc := hBs.2.1
      have hl := hBs.1
      have hrg : wr.rangeAt b off (vals ((l.drop (64 * k)).take 64)) := by
        intro j v hv
        obtain ⟨hj, rfl⟩ := vals_get _ _ _ hv
        rw [List.length_take] at hj
        rw [byteAt_take _ _ _ (by omega)]
        exact (hb.cell (p := ⟨b, off + j, none⟩) (block_lt_of_cell (hc j (by omega)))).trans (hc j (by omega))
      have hbl : ((l.drop (64 * k)).take 64).length = 64 := by rw [List.length_take]; omega
      obtain ⟨blk, hblk⟩ : ∃ blk, blk = (l.drop (64 * k)).take 64 := ⟨_, rfl⟩
      rw [← hblk] at hrg hbl
      have Hblk := Lib.hid hblk
      have hcur : (absTo hs l k).length = 8 := absTo_len hs l Hh.out k
      obtain ⟨cur, hcu⟩ : ∃ cur, cur = absTo hs l k := ⟨_, rfl⟩
      rw [← hcu] at hR hcur
      have Hcu := Lib.hid hcu
      have HBs := Lib.hid hBs
      have Hc := Lib.hid hc
      clear hblk hcu hnk h1 hb HBn hBs hc HR HTh hl
      have hT : Tabs wr := HT.out.below HB.out hz
      have r8 : Row8 wr w.heap.size 0 := row8_mk hcur hR hTh
      have e8 : row8 wr w.heap.size 0 = cur := row8_of hcur hR
      have r64 : Row64 wr b off := ⟨blk, hbl, hrg⟩
      have e64 : row64 wr b off = blk := row64_of hbl hrg
      clear hR hTh hrg
      go_wp2
      have ml : (mixW cur (wordsOf blk)).length = 8 := mixW_len _ _ hcur
      go_region_with (first | (go_at_call 65; refine (split_any blk _ hbl).mono ?_; rintro e w' ⟨rfl, hb1⟩; have r8a := (Row8.below (w := wr.drew) r8 hb1).1; have e8a := (Row8.below (w := wr.drew) r8 hb1).2.trans e8; have ta := tabs_below (w := wr.drew) hT hb1) | (go_at_call 64; refine (mix_any cur (wordsOf blk) _ (by assumption) hcur rfl).mono ?_; rintro e w' ⟨rfl, hb2⟩; have r8b := (Row8.below r8a hb2).1))
      all_goals
        have F := abs_step HB.out hb1 hb2 r8b ml H1.out
        have HF := Lib.hid F
        clear F hb1 hb2 r8a e8a ta r8b hT r8 e8 r64 e64
        generalize World.setCells _ _ _ _ = W5 at *
        have hstep : wvals (absTo hs l (k + 1)) = wvals (mixW cur (wordsOf blk)) := by rw [absTo, ← Hcu.out, ← Hblk.out]
        have Hstep := Lib.hid hstep
        clear hstep
        by_cases hc64 : c' = 64
        · subst hc64
          obtain rfl : n' = 64 := by omega
          go_wp2
          go_roundw
          case rel =>
            refine ⟨k + 1, 0, 0, _, rfl, by have := Hnk.out; omega, ?_, by rw [Hstep.out]; exact HF.out.1, HF.out.2.1, HF.out.2.2.1, HF.out.2.2.2⟩
            rw [List.drop_eq_nil_of_le (by have := Hnk.out; have := Hn.out; omega)]
            exact Bs_empty _ _ _ (Nat.zero_le _) (fun _ => rfl)
          case measure => simp
        · go_wp2
          go_roundw
          case rel =>
            refine ⟨k + 1, n' - 64, c' - 64, _, rfl, by have := Hnk.out; omega, ?_, by rw [Hstep.out]; exact HF.out.1, HF.out.2.1, HF.out.2.2.1, HF.out.2.2.2⟩
            have := Bs_drop64 HBs.out hlt (by omega)
            rw [List.drop_drop] at this
            exact this
          case measure => simp; omega
    · have hk1 : l.length / 64 = k := by have := Hn.out; have := Hnk.out; omega
      have hk2 : n' = (absR l).length := by
        unfold absR; rw [List.length_drop, hk1]; have := Hn.out; have := Hnk.out; omega
      have hcur : (absTo hs l k).length = 8 := absTo_len hs l Hh.out k
      have hrest : Bs w a' n' c' (absR l) := by unfold absR; rw [hk1]; exact hBs
      have hah : absH hs l = absTo hs l k := by unfold absH; rw [hk1]
      rw [← hah] at hR hcur
      have HR := Lib.hid hrest
      have Hk2 := Lib.hid hk2
      have HB := Lib.hid hb
      have r8 : Row8 wr w.heap.size 0 := row8_mk hcur hR hTh
      have e8 : row8 wr w.heap.size 0 = absH hs l := row8_of hcur hR
      have r9 : Row8 wr (w.heap.size + 1) 0 := by
        refine row8_mk (l := List.replicate 8 0) (by simp) ?_ ?_
        · intro j v hv
          rw [Nat.zero_add, cell_of_row wr _ j _ _ _ h1, ← wvals_arr, List.getElem?_toArray]
          exact hv
        · intro j hj
          rw [Nat.zero_add]
          exact ⟨by rw [cell_of_row wr _ j _ _ _ h1, wcells_get _ j (by simpa using hj)]; rfl, frozen_of_row wr _ j _ _ h1⟩
      have R9 := Lib.hid r9
      have Hcur := Lib.hid hcur
      clear hBs hR hTh h1 hb hk1 hk2 hrest hah hnk HBn Hn Hnk H1
      go_wp2
      have hld : (loadVar 93 ⟨w.heap.size + 1, 0, none⟩).run Tryd.prog (wr.setCells (w.heap.size + 1) 0 (wvals (absH hs l))) = .ok (.agg (wcells (absH hs l))) (wr.setCells (w.heap.size + 1) 0 (wvals (absH hs l))) :=
        run_loadVar_mid _ _ _ 93 (wvals (absH hs l)) _ (World.rangeAt_setCells_same _ _ _ _ (by rw [wvals_len, Hcur.out]; exact R9.out.thr)) Tryd.underlying93 rfl (by rw [wvals_len, Hcur.out]; exact size8w)
      have hfin : Below w.heap.size w (wr.setCells (w.heap.size + 1) 0 (wvals (absH hs l))) := Below_setCells (by omega) _ _ _ HB.out
      refine bodyPost_ret (v := .tuple #[.agg (wcells (absH hs l)), .slice a' n' c']) ?_ rfl ⟨a', c', by rw [Hk2.out], by rw [← Hk2.out]; exact HR.out.below hfin, hfin⟩
      rw [results_cell_tmp rfl]
      simp [asAddr, Result.andThen, hld]
end Go.Proofs.YthffegfcgmhppaaDoor.Dg
namespace Go.Proofs.YthffegfcgmhppaaDoor.Dg
set_option maxRecDepth 100000
set_option linter.unusedSimpArgs false
set_option linter.unusedVariables false
theorem absTo_app (hs : List (BitVec 32)) (x y : List UInt8) (k : Nat) (h : 64 * k ≤ x.length) : absTo hs (x ++ y) k = absTo hs x k := by
  induction k with
  | zero => rfl
  | succ k ih =>
    rw [absTo, absTo, ih (by omega)]
    congr 2
    rw [List.drop_append_of_le_length (by omega), List.take_append_of_le_length (by rw [List.length_drop]; omega)]
theorem absTo_shift (hs : List (BitVec 32)) (x y : List UInt8) (j : Nat) (hx : x.length = 64 * j) (k : Nat) : absTo hs (x ++ y) (j + k) = absTo (absTo hs x j) y k := by
  induction k with
  | zero => exact absTo_app hs x y j (by omega)
  | succ k ih =>
    rw [← Nat.add_assoc, absTo, absTo, ih]
    congr 2
    rw [show 64 * (j + k) = x.length + 64 * k by omega, List.drop_append]
    rw [List.drop_of_length_le (by omega)]
    simp
theorem absH_app (hs : List (BitVec 32)) (x y : List UInt8) (h : x.length % 64 = 0) : absH hs (x ++ y) = absH (absH hs x) y := by
  unfold absH
  have := absTo_shift hs x y (x.length / 64) (by omega) (y.length / 64)
  rw [List.length_append, show (x.length + y.length) / 64 = x.length / 64 + y.length / 64 by omega]
  exact this
theorem absR_app (x y : List UInt8) (h : x.length % 64 = 0) : absR (x ++ y) = absR y := by
  unfold absR
  rw [List.length_append, show 64 * ((x.length + y.length) / 64) = x.length + 64 * (y.length / 64) by omega, List.drop_append]
  rw [List.drop_of_length_le (by omega)]
  simp
theorem absH_short (hs : List (BitVec 32)) (y : List UInt8) (h : y.length < 64) : absH hs y = hs := by
  unfold absH; rw [show y.length / 64 = 0 by omega]; rfl
theorem absR_short (y : List UInt8) (h : y.length < 64) : absR y = y := by
  unfold absR; rw [show y.length / 64 = 0 by omega]; rfl
theorem absR_full (y : List UInt8) (h : y.length % 64 = 0) : absR y = [] := by
  unfold absR; exact List.drop_eq_nil_of_le (by omega)
theorem absR_len (y : List UInt8) : (absR y).length = y.length % 64 := by
  unfold absR; rw [List.length_drop]; omega
theorem abs_split (hs : List (BitVec 32)) (l : List UInt8) : ∃ F, l = F ++ absR l ∧ F.length % 64 = 0 ∧ absH hs l = absH hs F := by
  refine ⟨l.take (64 * (l.length / 64)), ?_, ?_, ?_⟩
  · unfold absR; rw [List.take_append_drop]
  · rw [List.length_take]; omega
  · have h : (l.take (64 * (l.length / 64))).length = 64 * (l.length / 64) := by rw [List.length_take]; omega
    unfold absH
    rw [h, show 64 * (l.length / 64) / 64 = l.length / 64 by omega]
    have e := absTo_app hs (l.take (64 * (l.length / 64))) (l.drop (64 * (l.length / 64))) (l.length / 64) (by rw [h]; exact Nat.le_refl _)
    rw [List.take_append_drop] at e
    exact e
/-- how many bytes of the further ones complete the tail -/
def fillOf (l m : List UInt8) : Nat := min m.length (padI ((absR l).length : Int) 0).toNat
theorem fillOf_le (l m : List UInt8) : fillOf l m ≤ m.length := Nat.min_le_left _ _
theorem padI_zero (n : Nat) (h : n < 64) : (padI (n : Int) 0).toNat = (64 - n) % 64 := by
  unfold padI; omega
/-- what Write comes to -/
theorem write_spec (l m : List UInt8) :
    absH (absH (absH H8 l) (absR l ++ m.take (fillOf l m))) (m.drop (fillOf l m)) = absH H8 (l ++ m) ∧
      absR (absR l ++ m.take (fillOf l m)) ++ absR (m.drop (fillOf l m)) = absR (l ++ m) := by
  obtain ⟨F, hl, hF, hH⟩ := abs_split H8 l
  have hT : (absR l).length < 64 := by rw [absR_len]; omega
  have hT2 := padI_zero (absR l).length hT
  have hf : fillOf l m = min m.length ((64 - (absR l).length) % 64) := by unfold fillOf; rw [hT2]
  have e1 : absH H8 (l ++ m) = absH (absH H8 l) (absR l ++ m) := by
    conv => lhs; rw [hl, List.append_assoc, absH_app _ _ _ hF]
    rw [hH]
  have e2 : absR (l ++ m) = absR (absR l ++ m) := by
    conv => lhs; rw [hl, List.append_assoc, absR_app _ _ hF]
  rw [e1, e2]
  generalize absR l = T at *
  by_cases hc : m.length < (64 - T.length) % 64
  · have hf2 : fillOf l m = m.length := by rw [hf]; omega
    rw [hf2, List.take_length, List.drop_length]
    rw [absH_short _ [] (by simp), absR_short [] (by simp), List.append_nil]
    exact ⟨rfl, rfl⟩
  · have hf2 : fillOf l m = (64 - T.length) % 64 := by rw [hf]; omega
    have hx : (T ++ m.take (fillOf l m)).length % 64 = 0 := by
      rw [List.length_append, List.length_take, hf2]; omega
    have em : T ++ m = (T ++ m.take (fillOf l m)) ++ m.drop (fillOf l m) := by
      rw [List.append_assoc, List.take_append_drop]
    rw [absR_full _ hx, List.nil_append]
    constructor
    · conv => rhs; rw [em, absH_app _ _ _ hx]
    · conv => rhs; rw [em, absR_app _ _ hx]
end Go.Proofs.YthffegfcgmhppaaDoor.Dg
namespace Go.Proofs.YthffegfcgmhppaaDoor.Dg
set_option maxRecDepth 100000
set_option linter.unusedSimpArgs false
set_option linter.unusedVariables false
open Go.RowKit
theorem Bs_from {w3 : World} {a : Option Addr} {n c : Nat} {m : List UInt8} (h : Bs w3 a n c m) (F : Nat) (hF : F ≤ n) :
    Bs w3 (if c = F then a else a.map (fun x => x.add F)) (n - F) (c - F) (m.drop F) := by
  obtain ⟨h1, h2, h3, h4, h5⟩ := h
  have hc : c ≤ 9223372036854775807 := h3
  refine ⟨by rw [List.length_drop, h1], by omega, by unfold maxLen; omega, ?_, fun hp => ?_⟩
  · intro ha
    by_cases hcF : c = F
    · omega
    · rw [if_neg hcF] at ha
      cases a with
      | none => have := h4 rfl; omega
      | some x => cases ha
  · obtain ⟨b, off, hab, hcell⟩ := h5 (by omega)
    subst hab
    rw [if_neg (by omega)]
    refine ⟨b, off + F, ?_, fun i hi => ?_⟩
    · show some (Addr.add ⟨b, off, none⟩ F) = _
      rw [Addr.add_mid]
    · rw [byteAt_drop, Nat.add_assoc]; exact hcell (F + i) (by omega)
def sliceFA (v lo : Value) : Sem Next := do pure (.value (← Instr.sliceAt 34 v (some lo) none none))
theorem exec_sliceF (ρ : Operand → Value) (d : Option Tmp) (x y : Operand) (ty : TypeId) (pos : String) (af : Array Edge) (gd : Option (Nat × Bool)) :
    execOp ρ { dst := d, op := .slice 34 x (some y) none none, type := ty, pos := pos, after := af, guard := gd } = sliceFA (ρ x) (ρ y) := rfl
theorem exec_at_zero {ρ : Operand → Value} {o : Oper} {l : List Oper} {h : 0 < (o :: l).toArray.size} : execOp ρ ((o :: l).toArray[0]'h) = execOp ρ o := rfl
theorem exec_at_succ {ρ : Operand → Value} {o : Oper} {l : List Oper} {n : Nat} {h : n + 1 < (o :: l).toArray.size} : execOp ρ ((o :: l).toArray[n + 1]'h) = execOp ρ (l.toArray[n]'(by simpa using h)) := rfl
theorem run_sliceF {w3 : World} {a : Option Addr} {n c : Nat} {m : List UInt8} (h : Bs w3 a n c m) (F : Nat) (hF : F ≤ n) :
    ∃ a' c', (∀ w, (sliceFA (.slice a n c) (.int .i64 (F : Int))).run Tryd.prog w = .ok (.value (.slice a' (n - F) c')) w) ∧ Bs w3 a' (n - F) c' (m.drop F) := by
  refine ⟨if c = F then a else a.map (fun x => x.add F), c - F, fun w => ?_, Bs_from h F hF⟩
  have h2 := h.2.1
  have hc : c ≤ 9223372036854775807 := h.2.2.1
  have z0 : (0 : Int) ≤ (F : Int) := by omega
  have z1 : (F : Int) ≤ (n : Int) := by omega
  clear h
  unfold sliceFA
  go_simp
end Go.Proofs.YthffegfcgmhppaaDoor.Dg
namespace Go.Proofs.YthffegfcgmhppaaDoor.Dg
set_option maxRecDepth 100000
set_option linter.unusedSimpArgs false
set_option linter.unusedVariables false
open Go.RowKit
attribute [local go_sem ↓] exec_at_zero exec_at_succ exec_sliceF exec_load8 exec_store8 exec_load64 Go.wp_at_zero Go.wp_at_succ
/-- a state: its cells, and that it is the state after some bytes -/
def dcells (hs : List (BitVec 32)) (a : Option Addr) (n c : Nat) (L : Int) : Array Value := (wvals hs ++ [Value.slice a n c, Value.int .i64 L]).toArray
def St (w : World) (v : Value) (l : List UInt8) : Prop := ∃ a c, v = .agg (dcells (absH H8 l) a (absR l).length c l.length) ∧ Bs w a (absR l).length c (absR l)
theorem St.below {w w' : World} {v : Value} {l : List UInt8} (h : St w v l) (hb : Below w.heap.size w w') : St w' v l := by
  obtain ⟨a, c, e, hB⟩ := h
  exact ⟨a, c, e, hB.below hb⟩
theorem dcells_size (hs : List (BitVec 32)) (a : Option Addr) (n c : Nat) (L : Int) (h : hs.length = 8) : (dcells hs a n c L).size = 10 := by simp [dcells, wvals, h]
theorem dcells_one (hs : List (BitVec 32)) (a : Option Addr) (n c : Nat) (L : Int) : (dcells hs a n c L).all (·.oneCell') = true := by
  simp [dcells, wvals, Value.oneCell']
theorem dcells_low (hs : List (BitVec 32)) (a : Option Addr) (n c : Nat) (L : Int) (j : Nat) (h : hs.length = 8) (hj : j < 8) : (dcells hs a n c L)[j]? = (wvals hs)[j]? := by
  unfold dcells
  rw [List.getElem?_toArray, List.getElem?_append_left (by rw [wvals_len, h]; exact hj)]
theorem dcells_8 (hs : List (BitVec 32)) (a : Option Addr) (n c : Nat) (L : Int) (h : hs.length = 8) : (dcells hs a n c L)[8]? = some (.slice a n c) := by
  unfold dcells
  rw [List.getElem?_toArray, List.getElem?_append_right (by rw [wvals_len, h]; omega), wvals_len, h]; rfl
theorem dcells_9 (hs : List (BitVec 32)) (a : Option Addr) (n c : Nat) (L : Int) (h : hs.length = 8) : (dcells hs a n c L)[9]? = some (.int .i64 L) := by
  unfold dcells
  rw [List.getElem?_toArray, List.getElem?_append_right (by rw [wvals_len, h]; omega), wvals_len, h]; rfl
/-- the cells of a state in a block -/
theorem dblock {w : World} {g : Nat} {hs : List (BitVec 32)} {a : Option Addr} {n c : Nat} {L : Int} {t : TypeId} (hg : w.heap[g]? = some (.cells (dcells hs a n c L) t (0, 0))) (h : hs.length = 8) :
    Row8 w g 0 ∧ row8 w g 0 = hs ∧ w.cell? ⟨g, 8, none⟩ = some (.slice a n c) ∧ w.cell? ⟨g, 9, none⟩ = some (.int .i64 L) := by
  have hr : w.rangeAt g 0 (wvals hs) := by
    intro j v hv
    have hj : j < 8 := by have := (List.getElem?_eq_some_iff.1 hv).1; rw [wvals_len, h] at this; exact this
    rw [Nat.zero_add, cell_of_row w g j _ _ _ hg, dcells_low _ _ _ _ _ _ h hj]; exact hv
  refine ⟨row8_mk h hr ?_, row8_of h hr, ?_, ?_⟩
  · intro j hj
    rw [Nat.zero_add]
    refine ⟨?_, frozen_of_row w g j _ _ hg⟩
    rw [cell_of_row w g j _ _ _ hg, dcells_low _ _ _ _ _ _ h hj, List.getElem?_eq_getElem (by rw [wvals_len, h]; exact hj)]; rfl
  · rw [cell_of_row w g 8 _ _ _ hg, dcells_8 _ _ _ _ _ h]
  · rw [cell_of_row w g 9 _ _ _ hg, dcells_9 _ _ _ _ _ h]
theorem zeros33 : (#[.int .u32 0, .int .u32 0, .int .u32 0, .int .u32 0, .int .u32 0, .int .u32 0, .int .u32 0, .int .u32 0, .slice none 0 0, .int .i64 0] : Array Value) = dcells (List.replicate 8 0) none 0 0 0 := by
  simp [dcells, wvals, wi, List.replicate]
theorem H8_len : H8.length = 8 := rfl
theorem absH_len (l : List UInt8) : (absH H8 l).length = 8 := absTo_len _ _ rfl _
/-- a block of eight words -/
def Blk8 (w : World) (g : Nat) : Prop := ∃ l : List (BitVec 32), l.length = 8 ∧ w.heap[g]? = some (.cells (wcells l) 93 (0, 0))
theorem Blk8_drew (w : World) (g : Nat) : Blk8 w.drew g ↔ Blk8 w g := by constructor <;> exact id
theorem Blk8_alloc (w : World) (o : Obj) (g : Nat) (h : Blk8 w g) : Blk8 (w.alloc o) g := by
  obtain ⟨l, hl, hg⟩ := h; exact ⟨l, hl, heap_old hg⟩
theorem Blk8_new (w : World) (g : Nat) (hg : g = w.heap.size) : Blk8 (w.alloc (.cells #[.int .u32 0, .int .u32 0, .int .u32 0, .int .u32 0, .int .u32 0, .int .u32 0, .int .u32 0, .int .u32 0] 93)) g :=
  ⟨List.replicate 8 0, by simp, by rw [zeros8]; exact heap_new hg⟩
theorem Blk8_keep {w w' : World} (hb : Below w.heap.size w w') : ∀ g, Blk8 w g → Blk8 w' g := fun g ⟨l, hl, hg⟩ => ⟨l, hl, (hb.block g (heap_lt hg)).trans hg⟩
theorem Blk8_row {w : World} {g : Nat} (h : Blk8 w g) : Row8 w g 0 := by
  obtain ⟨l, hl, hg⟩ := h
  refine row8_mk hl (fun j v hv => ?_) (fun j hj => ?_)
  · rw [Nat.zero_add, cell_of_row w g j _ _ _ hg, ← wvals_arr, List.getElem?_toArray]; exact hv
  · rw [Nat.zero_add]
    exact ⟨by rw [cell_of_row w g j _ _ _ hg, wcells_get l j (by omega)]; rfl, frozen_of_row w g j _ _ hg⟩
theorem run_store8r (w : World) (g : Nat) (l : List (BitVec 32)) (hl : l.length = 8) (h : Blk8 w g) : (store8A (.pointer (some ⟨g, 0, none⟩)) (.agg (wcells l))).run Tryd.prog w = .ok .skip (w.setRow g (wcells l)) := by
  obtain ⟨old, ho, hg⟩ := h
  unfold store8A
  simp only [Instr.storeAt, Instr.sureAddr, Sem.run_bind, Sem.run_pure, Result.andThen_ok, run_storeVar_row w g 93 93 _ (wcells l) hg (by rw [wcells_size, hl]; exact size8w) (by rw [wcells_size, wcells_size, ho, hl]) (wcells_one l)]
/-- a store into such a block turns no bytes -/
theorem Bs_setRow {w : World} {a : Option Addr} {n c : Nat} {l : List UInt8} (h : Bs w a n c l) {g : Nat} (hg : Blk8 w g) (cs : Array Value) : Bs (w.setRow g cs) a n c l := by
  obtain ⟨h1, h2, h3, h4, h5⟩ := h
  refine ⟨h1, h2, h3, h4, fun hn => ?_⟩
  obtain ⟨b, off, ha, hc⟩ := h5 hn
  have hbg : b ≠ g := by
    rintro rfl
    obtain ⟨old, ho, hgo⟩ := hg
    have := hc 0 hn
    rw [cell_of_row w b _ _ _ _ hgo] at this
    have hlt : off + 0 < (wcells old).size := (Array.getElem?_eq_some_iff.1 this).1
    rw [wcells_get old _ (by rw [wcells_size] at hlt; exact hlt)] at this
    simp at this
  refine ⟨b, off, ha, fun i hi => ?_⟩
  have : (w.setRow g cs).cell? ⟨b, off + i, none⟩ = w.cell? ⟨b, off + i, none⟩ := World.cell?_of_block (setRow_other w g b cs hbg)
  rw [this]; exact hc i hi
/-- slices.Concat of two pieces -/
theorem concat2_any (a1 : Option Addr) (n1 c1 : Nat) (l1 : List UInt8) (a2 : Option Addr) (n2 c2 : Nat) (l2 : List UInt8) (S : Nat) (t : TypeId) (w : World)
    (hS : w.heap[S]? = some (.cells #[.slice a1 n1 c1, .slice a2 n2 c2] t (0, 0))) (h1 : Bs w a1 n1 c1 l1) (h2 : Bs w a2 n2 c2 l2) (l : List UInt8) (hl : l = l1 ++ l2) (hn : l.length ≤ 140737488355328) :
    Calls Tryd.prog 59 #[.slice (some ⟨S, 0, none⟩) 2 2] w fun e w' => ∃ a c, e = .returned (.slice a l.length c) ∧ Bs w' a l.length c l ∧ Below w.heap.size w w' := by
  subst hl
  have hj : joined [⟨a1, n1, c1, l1⟩, ⟨a2, n2, c2, l2⟩] = l1 ++ l2 := by simp [joined]
  have := concat_any [⟨a1, n1, c1, l1⟩, ⟨a2, n2, c2, l2⟩] S w ⟨?_, ?_⟩ (heap_lt hS) (by simp) (by rw [hj]; exact hn)
  · rw [hj] at this; exact this
  · intro i hi
    rw [cell_of_row w S i _ _ _ hS]
    match i, hi with
    | 0, _ => rfl
    | 1, _ => rfl
  · intro p hp
    simp only [List.mem_cons, List.not_mem_nil, or_false] at hp
    rcases hp with rfl | rfl
    · exact h1
    · exact h2
theorem words8 {hs : List (BitVec 32)} (h : hs.length = 8) : ∃ a b c d e f g i, hs = [a, b, c, d, e, f, g, i] := by
  match hs, h with
  | [a, b, c, d, e, f, g, i], _ => exact ⟨a, b, c, d, e, f, g, i, rfl⟩
theorem run_build33' (w : World) (x0 x1 x2 x3 x4 x5 x6 x7 : BitVec 32) (a : Option Addr) (n c : Nat) (L : Int) :
    (Instr.build 95 #[(0, .agg (wcells [x0, x1, x2, x3, x4, x5, x6, x7])), (1, .slice a n c), (2, .int .i64 L)]).run Tryd.prog w = .ok (.agg (dcells [x0, x1, x2, x3, x4, x5, x6, x7] a n c L)) w := by kernel_rfl
def build33A (x y z : Value) : Sem Next := do pure (.value (← Instr.build 95 #[(0, x), (1, y), (2, z)]))
theorem exec_build33 (ρ : Operand → Value) (d : Option Tmp) (x y z : Operand) (ty : TypeId) (pos : String) (af : Array Edge) (gd : Option (Nat × Bool)) :
    execOp ρ { dst := d, op := .build 95 #[(0, x), (1, y), (2, z)], type := ty, pos := pos, after := af, guard := gd } = build33A (ρ x) (ρ y) (ρ z) := by
  unfold execOp build33A
  simp
theorem run_build33 (w : World) (hs : List (BitVec 32)) (h : hs.length = 8) (a : Option Addr) (n c : Nat) (L : Int) :
    (build33A (.agg (wcells hs)) (.slice a n c) (.int .i64 L)).run Tryd.prog w = .ok (.value (.agg (dcells hs a n c L))) w := by
  obtain ⟨x0, x1, x2, x3, x4, x5, x6, x7, rfl⟩ := words8 h
  unfold build33A
  simp only [Sem.run_bind, Sem.run_pure, run_build33', Result.andThen_ok]
def Blk33 (w : World) (g : Nat) : Prop := ∃ (hs : List (BitVec 32)) (a : Option Addr) (n c : Nat) (L : Int), hs.length = 8 ∧ w.heap[g]? = some (.cells (dcells hs a n c L) 95 (0, 0))
theorem Blk33_keep {w w' : World} (hb : Below w.heap.size w w') : ∀ g, Blk33 w g → Blk33 w' g := fun g ⟨hs, a, n, c, L, hl, hg⟩ => ⟨hs, a, n, c, L, hl, (hb.block g (heap_lt hg)).trans hg⟩
theorem Blk33_drew (w : World) (g : Nat) : Blk33 w.drew g ↔ Blk33 w g := by constructor <;> exact id
theorem Blk33_alloc (w : World) (o : Obj) (g : Nat) (h : Blk33 w g) : Blk33 (w.alloc o) g := by
  obtain ⟨hs, a, n, c, L, hl, hg⟩ := h; exact ⟨hs, a, n, c, L, hl, heap_old hg⟩
def store33A (v x : Value) : Sem Next := do Instr.storeAt 95 v x; pure .skip
theorem exec_store33 (ρ : Operand → Value) (d : Option Tmp) (x y : Operand) (ty : TypeId) (pos : String) (af : Array Edge) (gd : Option (Nat × Bool)) :
    execOp ρ { dst := d, op := .store 95 x y, type := ty, pos := pos, after := af, guard := gd } = store33A (ρ x) (ρ y) := rfl
theorem size33 : (Tryd.prog.info? 95).map (·.size) = some 10 := by kernel_rfl
theorem run_store33 (w : World) (g : Nat) (hs : List (BitVec 32)) (hl : hs.length = 8) (a : Option Addr) (n c : Nat) (L : Int) (h : Blk33 w g) :
    (store33A (.pointer (some ⟨g, 0, none⟩)) (.agg (dcells hs a n c L))).run Tryd.prog w = .ok .skip (w.setRow g (dcells hs a n c L)) := by
  obtain ⟨hs', a', n', c', L', hl', hg⟩ := h
  unfold store33A
  simp only [Instr.storeAt, Instr.sureAddr, Sem.run_bind, Sem.run_pure, Result.andThen_ok, run_storeVar_row w g 95 95 _ (dcells hs a n c L) hg (by rw [dcells_size _ _ _ _ _ hl]; exact size33) (by rw [dcells_size _ _ _ _ _ hl, dcells_size _ _ _ _ _ hl']) (dcells_one _ _ _ _ _)]
theorem Row8_alloc (w : World) (o : Obj) (g k : Nat) (h : Row8 w g k) : Row8 (w.alloc o) g k := (h.below ((Below.refl _ _).alloc (Nat.le_refl _) _)).1
theorem row8_alloc (w : World) (o : Obj) (g k : Nat) (h : Row8 w g k) : row8 (w.alloc o) g k = row8 w g k := (h.below ((Below.refl _ _).alloc (Nat.le_refl _) _)).2
attribute [local go_sem ↓] exec_build33 exec_store33
attribute [local go_sem] run_build33 run_store33 Blk33_drew Blk33_alloc Row8_alloc row8_alloc
attribute [local go_sem] run_load8 run_store8r Row8_drew row8_drew Blk8_drew Blk8_alloc Blk8_new
/-- what the first parts of Write rest on -/
theorem S_below {B : Nat} {hs : List (BitVec 32)} {x : Value} {w3 w' : World} {H : Nat} (hB : B = w3.heap.size) (h3 : Row8 w3 H 0 ∧ row8 w3 H 0 = hs ∧ w3.cell? ⟨H, 8, none⟩ = some x) (hb : Below B w3 w') :
    Row8 w' H 0 ∧ row8 w' H 0 = hs ∧ w'.cell? ⟨H, 8, none⟩ = some x ∧ Below B w3 w' := by
  subst hB
  obtain ⟨r, e, c⟩ := h3
  exact ⟨(r.below hb).1, (r.below hb).2.trans e, (hb.cell (p := ⟨H, 8, none⟩) (block_lt_of_cell c)).trans c, hb⟩
theorem Tabs_drew {w : World} (h : Tabs w) : Tabs w.drew := h
theorem Bs_drew {w : World} {a : Option Addr} {n c : Nat} {l : List UInt8} (h : Bs w a n c l) : Bs w.drew a n c l := h
theorem SK_alloc {A B C : Prop} {B3 : Nat} {w3 w : World} {o : Obj} (hB : B3 = w3.heap.size) (h : A ∧ B ∧ C ∧ Below B3 w3 w) : Below B3 w3 (w.alloc o) := h.2.2.2.alloc (by rw [hB]; exact h.2.2.2.size) _
theorem SK_alloc' {A B C : Prop} {B3 : Nat} {w3 w : World} {o : Obj} (hB : B3 = w3.heap.size) (h : A ∧ B ∧ C ∧ Below B3 w3 w.drew) : Below B3 w3 (w.alloc o).drew :=
  show Below B3 w3 (w.drew.alloc o) from h.2.2.2.alloc (by rw [hB]; exact h.2.2.2.size) _
theorem SK_call {A B C : Prop} {B3 : Nat} {w3 w w' : World} (hB : B3 = w3.heap.size) (hb : Below w.heap.size w w') (h : A ∧ B ∧ C ∧ Below B3 w3 w) : Below B3 w3 w' := h.2.2.2.trans (hb.mono (by rw [hB]; exact h.2.2.2.size))
theorem SK_row {A B C A' B' C' : Prop} {B3 : Nat} {w3 w x : World} {cs : Array Value} (hB : B3 = w3.heap.size) (hX : A' ∧ B' ∧ C' ∧ Below B3 w3 x) (h : A ∧ B ∧ C ∧ Below B3 w3 w) : Below B3 w3 (w.setRow x.heap.size cs) := Below_setRow h.2.2.2 (by rw [hB]; exact hX.2.2.2.size) _
theorem SK_row2 {A B C : Prop} {B3 g : Nat} {w3 w : World} {cs : Array Value} (h : A ∧ B ∧ C ∧ Below B3 w3 w) (hg : B3 ≤ g) : Below B3 w3 (w.setRow g cs) := Below_setRow h.2.2.2 hg _
theorem SK_size {A B C : Prop} {B3 : Nat} {w3 w w' : World} (hB : B3 = w3.heap.size) (hb : Below w.heap.size w w') (h : A ∧ B ∧ C ∧ Below B3 w3 w) : B3 ≤ w'.heap.size := by
  have := h.2.2.2.size; have := hb.size; omega
theorem SK_bs {A B C : Prop} {B3 : Nat} {w3 w : World} (hB : B3 = w3.heap.size) {a : Option Addr} {n c : Nat} {l : List UInt8} (hb : Bs w3 a n c l) (h : A ∧ B ∧ C ∧ Below B3 w3 w) : Bs w a n c l := hb.below (by rw [← hB]; exact h.2.2.2)
theorem SK_tabs {A B C : Prop} {B3 : Nat} {w3 w : World} (hB : B3 = w3.heap.size) (ht : Tabs w3) (h : A ∧ B ∧ C ∧ Below B3 w3 w) : Tabs w := ht.below h.2.2.2 (by rw [hB]; exact ht.2.2)
theorem Bs_take {w : World} {a : Option Addr} {n c : Nat} {l : List UInt8} (h : Bs w a n c l) (F : Nat) (hF : F ≤ n) : Bs w a F c (l.take F) := by
  obtain ⟨h1, h2, h3, h4, h5⟩ := h
  refine ⟨by rw [List.length_take]; omega, by omega, h3, h4, fun hp => ?_⟩
  obtain ⟨b, off, ha, hc⟩ := h5 (by omega)
  exact ⟨b, off, ha, fun i hi => by rw [byteAt_take _ _ _ hi]; exact hc i (by omega)⟩
theorem Bel_alloc {w w' : World} {o : Obj} (hb : Below (w.alloc o).drew.heap.size (w.alloc o).drew w') : Below w.heap.size w w' :=
  (((Below.refl _ _).alloc (Nat.le_refl _) o).drew).trans (hb.mono (by show w.heap.size ≤ (w.alloc o).heap.size; rw [size_alloc1]; omega))
theorem keep5 {w w' : World} {g k H j : Nat} {h2 : List (BitVec 32)} {x : Value} (r : Row8 w g 0) (e : row8 w g 0 = h2) (b : Blk33 w k) (c : w.cell? ⟨H, j, none⟩ = some x) (hb : Below w.heap.size w w') :
    Row8 w' g 0 ∧ row8 w' g 0 = h2 ∧ Blk33 w' k ∧ w'.cell? ⟨H, j, none⟩ = some x :=
  ⟨(r.below hb).1, (r.below hb).2.trans e, Blk33_keep hb _ b, cell_later hb c⟩
theorem W2 {W w3 : World} {B3 g n ac : Nat} {aa : Option Addr} {l : List UInt8} {new : List (BitVec 32)} (hg : Blk8 W g) (hl : new.length = 8) (hBs : Bs W aa n ac l) (hb : Below B3 w3 W) (hz : B3 ≤ g) :
    ∃ (g' : Nat) (aa' : Option Addr) (ac' : Nat), Value.pointer (some ⟨g, 0, none⟩) = .pointer (some ⟨g', 0, none⟩) ∧ Value.slice aa n ac = .slice aa' n ac' ∧ (W.setRow g (wcells new)).heap[g']? = some (.cells (wcells new) 93 (0, 0)) ∧ B3 ≤ g' ∧ Bs (W.setRow g (wcells new)) aa' n ac' l ∧ Below B3 w3 (W.setRow g (wcells new)) := by
  obtain ⟨old, ho, hgo⟩ := id hg
  exact ⟨g, aa, ac, rfl, rfl, setRow_heap _ _ _ _ _ _ hgo, hz, Bs_setRow hBs hg _, Below_setRow hb hz _⟩
theorem Bs_setRow33 {w : World} {a : Option Addr} {n c : Nat} {l : List UInt8} (h : Bs w a n c l) {g : Nat} (hg : Blk33 w g) (cs : Array Value) : Bs (w.setRow g cs) a n c l := by
  obtain ⟨h1, h2, h3, h4, h5⟩ := h
  refine ⟨h1, h2, h3, h4, fun hn => ?_⟩
  obtain ⟨b, off, ha, hc⟩ := h5 hn
  have hbg : b ≠ g := by
    rintro rfl
    obtain ⟨hs, a', n', c', L, ho, hgo⟩ := hg
    have := hc 0 hn
    rw [cell_of_row w b _ _ _ _ hgo] at this
    have := Array.mem_of_getElem? this
    simp [dcells, wvals] at this
  refine ⟨b, off, ha, fun i hi => ?_⟩
  have : (w.setRow g cs).cell? ⟨b, off + i, none⟩ = w.cell? ⟨b, off + i, none⟩ := World.cell?_of_block (setRow_other w g b cs hbg)
  rw [this]; exact hc i hi
theorem write_fin {l m T TF MR RT RM RR : List UInt8} {hs h1 h2 : List (BitVec 32)} {F : Nat} (eF : F = fillOf l m) (ehs : hs = absH H8 l) (eT : T = absR l) (eTF : TF = T ++ m.take F) (eM : MR = m.drop F)
    (e1 : h1 = absH hs TF) (e2 : h2 = absH h1 MR) (eRT : absR TF = RT) (eRM : absR MR = RM) (eR : RR = RT ++ RM) : absH H8 (l ++ m) = h2 ∧ absR (l ++ m) = RR := by
  subst eF ehs eT eTF eM e1 e2 eRT eRM eR
  exact ⟨(write_spec l m).1.symm, (write_spec l m).2.symm⟩
theorem write_out {l m RR : List UInt8} {h2 : List (BitVec 32)} {w' : World} {ca : Option Addr} {cc L n : Nat} {x : Int} (h : absH H8 (l ++ m) = h2 ∧ absR (l ++ m) = RR) (hB : Bs w' ca RR.length cc RR) (hL : L = l.length) (hn : m.length = n) (hx : x = (L : Int) + (n : Int)) {g : Nat} (hg : Blk33 w' g) :
    St (w'.setRow g (dcells h2 ca RR.length cc x)) (.agg (dcells h2 ca RR.length cc x)) (l ++ m) := by
  obtain ⟨rfl, rfl⟩ := h
  refine ⟨ca, cc, ?_, Bs_setRow33 hB hg _⟩
  rw [List.length_append, hn, ← hL, hx, Int.natCast_add]
set_option maxRecDepth 100000 in
set_option maxHeartbeats 2000000 in
theorem write_any (v : Value) (l : List UInt8) (a : Option Addr) (n c : Nat) (m : List UInt8) (w : World) (hT : Tabs w) (hS : St w v l) (hB : Bs w a n c m) (hn : l.length + m.length ≤ 70368744177664) :
    Calls Tryd.prog 41 #[v, .slice a n c] w fun e w' => ∃ v', e = .returned v' ∧ St w' v' (l ++ m) ∧ Below w.heap.size w w' := by
  obtain ⟨ta, tc, rfl, hTB⟩ := hS
  have hlH := absH_len l
  have hTl := absR_len l
  have hmn := hB.1
  have hTn := hTB.1
  obtain ⟨hs, hhs⟩ : ∃ hs, hs = absH H8 l := ⟨_, rfl⟩
  obtain ⟨T, hTT⟩ : ∃ T, T = absR l := ⟨_, rfl⟩
  obtain ⟨tn, htn⟩ : ∃ tn, tn = T.length := ⟨_, rfl⟩
  rw [← hhs] at hlH ⊢
  rw [← hTT] at hTB hTl hTn ⊢
  rw [← htn] at hTB hTl hTn ⊢
  have HT := Lib.hid hT
  have HB := Lib.hid hB
  have HTB := Lib.hid hTB
  have Hhs := Lib.hid hhs
  have HTT := Lib.hid hTT
  have Htn := Lib.hid htn
  have Hmn := Lib.hid hmn
  have HlH := Lib.hid hlH
  have t64 : tn < 64 := by omega
  have hz := hT.2.2
  clear hT hB hTB hhs hTT htn hmn hlH hTl hTn
  go_enter Tryd.func41, Tryd.ntmps41
  go_upto_region 1 with (fail)
  rw [zeros33]
  have h0 : ((w.alloc (.cells (dcells hs ta tn tc l.length) 95)).alloc (.cells (dcells (List.replicate 8 0) none 0 0 0) 95)).heap[w.heap.size]? = some (.cells (dcells hs ta tn tc l.length) 95 (0, 0)) := heap_old (heap_new rfl)
  have h1 : ((w.alloc (.cells (dcells hs ta tn tc l.length) 95)).alloc (.cells (dcells (List.replicate 8 0) none 0 0 0) 95)).heap[w.heap.size + 1]? = some (.cells (dcells (List.replicate 8 0) none 0 0 0) 95 (0, 0)) := heap_new (by simp only [size_alloc1])
  have hbel : Below w.heap.size w ((w.alloc (.cells (dcells hs ta tn tc l.length) 95)).alloc (.cells (dcells (List.replicate 8 0) none 0 0 0) 95)) := ((Below.refl _ _).alloc (Nat.le_refl _) _).alloc (by simp) _
  have hs2 : ((w.alloc (.cells (dcells hs ta tn tc l.length) 95)).alloc (.cells (dcells (List.replicate 8 0) none 0 0 0) 95)).heap.size = w.heap.size + 2 := by simp only [size_alloc1]
  generalize ((w.alloc (.cells (dcells hs ta tn tc l.length) 95)).alloc (.cells (dcells (List.replicate 8 0) none 0 0 0) 95)) = w3 at *
  obtain ⟨r8, e8, c8, c9⟩ := dblock h0 HlH.out
  have H1 := Lib.hid h1
  have HBel := Lib.hid hbel
  have Hs2 := Lib.hid hs2
  clear h0 h1 hbel hs2
  have hn2 : m.length ≤ 70368744177664 := by omega
  have hn3 : l.length ≤ 70368744177664 := by omega
  obtain ⟨L, hL⟩ : ∃ L, L = l.length := ⟨_, rfl⟩
  rw [← hL] at c9 hn3
  have HL := Lib.hid hL
  rw [← hL]
  rw [Hmn.out] at hn2
  clear hn hL
  obtain ⟨hp0, hp1⟩ := padI_bd (tn : Int) 0
  obtain ⟨p, hp⟩ := Int.eq_ofNat_of_zero_le hp0
  obtain ⟨F, hF⟩ : ∃ F, F = min n p := ⟨_, rfl⟩
  have hFill : F = fillOf l m := by rw [fillOf, ← HTT.out, ← Htn.out, hp, Int.toNat_natCast, Hmn.out]; exact hF
  have hFn : F ≤ n := by omega
  have Hp := Lib.hid hp
  have HFill := Lib.hid hFill
  clear hp hFill hp0 hp1
  go_cut [5] (fun x wx => x = .int .i64 (F : Int) ∧ w3 = wx)
  case first =>
    by_cases hnp : n ≤ p
    all_goals
      go_wp2_with (go_at_call 57; refine (padTo_any _ _ _ (by omega) (by omega) (by omega) (by omega)).mono ?_; rw [Hp.out]; rintro e w' ⟨rfl, rfl⟩)
      go_meet
      exact ⟨by simp only [Value.int.injEq, true_and]; omega, rfl⟩
  case rest =>
    obtain ⟨rfl, rfl⟩ := hcut
    have HFF := Lib.hid hF
    clear hF
    have hBn := HB.out.2.1
    have hBc := HB.out.2.2.1
    have hcap : c ≤ 9223372036854775807 := hBc
    go_upto_region 2 with (fail)
    obtain ⟨B3, hB3⟩ : ∃ B3, B3 = w3.heap.size := ⟨_, rfl⟩
    have hst := And.intro r8 (And.intro e8 c8)
    have hbT : Bs w3 ta tn tc T := HTB.out.below HBel.out
    have hbF : Bs w3 a F c (m.take F) := Bs_take (HB.out.below HBel.out) F hFn
    have htb : Tabs w3 := HT.out.below HBel.out hz
    obtain ⟨TF, hTF⟩ : ∃ TF, TF = T ++ m.take F := ⟨_, rfl⟩
    have hlen : TF.length ≤ 140737488355328 := by
      rw [hTF, List.length_append, List.length_take, ← Htn.out]; omega
    have HTF := Lib.hid hTF
    clear hTF
    have HbT := Lib.hid hbT
    have HbF := Lib.hid hbF
    have Hlen := Lib.hid hlen
    have Htb := Lib.hid htb
    have Hst := Lib.hid hst
    have HB3 := Lib.hid hB3
    have hal : (absH hs TF).length = 8 := absTo_len _ _ HlH.out _
    clear hbT hbF htb hlen hst hB3
    have z1 : (0 : Int) ≤ (F : Int) := by omega
    have z2 : (F : Int) ≤ (c : Int) := by omega
    go_cut [6, 7] (fun s6 s7 wx => ∃ (g : Nat) (aa : Option Addr) (ac : Nat), s6 = .pointer (some ⟨g, 0, none⟩) ∧ s7 = .slice aa (absR TF).length ac ∧ wx.heap[g]? = some (.cells (wcells (absH hs TF)) 93 (0, 0)) ∧ B3 ≤ g ∧ Bs wx aa (absR TF).length ac (absR TF) ∧ Below B3 w3 wx)
    case first =>
      go_region_held3 (fun w' => Row8 w' w.heap.size 0 ∧ row8 w' w.heap.size 0 = hs ∧ w'.cell? ⟨w.heap.size, 8, none⟩ = some (.slice ta tn tc) ∧ Below B3 w3 w') (first | exact S_below HB3.out Hst.out (Below.refl _ _).drew | exact S_below HB3.out Hst.out (SK_alloc' HB3.out (by assumption)) | exact S_below HB3.out Hst.out (SK_alloc HB3.out (by assumption)) | exact S_below HB3.out Hst.out (SK_call HB3.out (by assumption) (by assumption)) | exact S_below HB3.out Hst.out (SK_row2 (by assumption) (by first | assumption | (have := HB3.out; simp; omega)))) (first | (go_at_call 58; refine (absorb_any hs ca _ cc TF _ ?_ HlH.out ?_ ?_).mono ?_; exact SK_tabs HB3.out Htb.out (by assumption); (first | exact hcB | exact hcB.alloc _); (have := Hlen.out; omega); rintro e w' ⟨aa, ac, rfl, haB, hb2⟩; have hq2 := Blk8_keep hb2; have hz2 := SK_size HB3.out hb2 (by assumption); have hbl2 := SK_call HB3.out hb2 (by assumption); (first | have u2 := hq2 _ (Blk8_new _ _ rfl) | have u2 := hq2 _ u0 | skip)) | (go_at_call 59; refine (concat2_any ta tn tc T a F c (m.take F) _ 34 _ ?_ ?_ ?_ TF HTF.out Hlen.out).mono ?_; (first | exact heap_new rfl | exact heap_old (heap_new rfl) | exact heap_new (by simp only [size_alloc1])); exact SK_bs HB3.out HbT.out (by assumption); exact SK_bs HB3.out HbF.out (by assumption); rintro e w' ⟨ca, cc, rfl, hcB, hb1⟩; have hq1 := Blk8_keep hb1; have hz1 := SK_size HB3.out hb1 (by assumption); (first | have u0 := hq1 (w3.heap.size + 1) (Blk8_new _ _ (by simp)) | have u0 := hq1 w3.heap.size (Blk8_alloc _ _ _ (Blk8_new _ _ rfl)) | skip)))
      all_goals
        go_wp2_with fail
        go_meet
        first | exact W2 (Blk8_new _ _ rfl) hal (haB.alloc _) (hbl2.alloc hz2 _) hz2 | exact W2 u2 hal haB hbl2 (by first | exact hz1 | (have := HB3.out; omega))
    case rest =>
      obtain ⟨g, aa, ac, rfl, rfl, hg, hgB, haa, hbx⟩ := hcut
      go_upto_region 3 with (fail)
      obtain ⟨w4, hw4⟩ : ∃ w4, w4 = wc := ⟨_, rfl⟩
      rw [← hw4] at hg haa hbx ⊢
      clear hw4
      have blk : Blk8 w4 g := ⟨_, hal, hg⟩
      have r4 : Row8 w4 g 0 := Blk8_row blk
      have e4 : row8 w4 g 0 = absH hs TF := row8_of hal (fun j v hv => by rw [Nat.zero_add, cell_of_row w4 g j _ _ _ hg, ← wvals_arr, List.getElem?_toArray]; exact hv)
      obtain ⟨a', c', hsl, hbD⟩ := run_sliceF (HB.out.below HBel.out) F hFn
      obtain ⟨MR, hMR⟩ : ∃ MR, MR = m.drop F := ⟨_, rfl⟩
      rw [← hMR] at hbD
      obtain ⟨h1, hh1⟩ : ∃ h1, h1 = absH hs TF := ⟨_, rfl⟩
      rw [← hh1] at hal e4
      have hbD4 := hbD.below (w' := w4) (by rw [← HB3.out]; exact hbx)
      have ht4 : Tabs w4 := Htb.out.below hbx (by rw [HB3.out]; exact Htb.out.2.2)
      have hal2 : (absH h1 MR).length = 8 := absTo_len _ _ hal _
      have HMR := Lib.hid hMR
      have Hh1 := Lib.hid hh1
      have HbD4 := Lib.hid hbD4
      have Ht4 := Lib.hid ht4
      have Haa := Lib.hid haa
      have Hbx := Lib.hid hbx
      have HgB := Lib.hid hgB
      have Hal := Lib.hid hal
      have Hz1 := Lib.hid z1
      clear hg haa hbx hbD hbD4 ht4 hMR hh1 r8 e8 c8 hgB hal
      go_cut [8] (fun s8 wx => ∃ (ab : Option Addr) (bc : Nat), s8 = .slice ab (absR MR).length bc ∧ wx.heap[g]? = some (.cells (wcells (absH h1 MR)) 93 (0, 0)) ∧ Bs wx aa (absR TF).length ac (absR TF) ∧ Bs wx ab (absR MR).length bc (absR MR) ∧ Below B3 w3 wx)
      case first =>
        go_region_with (first | (go_at_call 58; refine (absorb_any h1 _ (n - F) _ MR _ ?_ Hal.out ?_ ?_).mono ?_; exact Tabs_drew Ht4.out; exact Bs_drew HbD4.out; omega; rintro e w' ⟨ab, bc, rfl, habB, hb3⟩; have u3 := Blk8_keep hb3 g ((Blk8_drew _ _).2 blk)))
        all_goals
          go_wp2_with fail
          go_meet
          obtain ⟨old, ho, hgo⟩ := id u3
          exact ⟨ab, bc, rfl, setRow_heap _ _ _ _ _ _ hgo, Bs_setRow ((Bs_drew Haa.out).below hb3) u3 _, Bs_setRow habB u3 _, Below_setRow (Hbx.out.drew.trans (hb3.mono (by have := Hbx.out.size; have := HB3.out; simp; omega))) HgB.out _⟩
      case rest =>
        obtain ⟨ab, bc, rfl, hg, haa, hab, hbx⟩ := hcut
        go_upto_region 4 with (fail)
        obtain ⟨w5, hw5⟩ : ∃ w5, w5 = wc := ⟨_, rfl⟩
        rw [← hw5] at hg haa hab hbx ⊢
        clear hw5 blk r4 e4 hsl hcap
        obtain ⟨h2, hh2⟩ : ∃ h2, h2 = absH h1 MR := ⟨_, rfl⟩
        rw [← hh2] at hg hal2
        have blk : Blk8 w5 g := ⟨_, hal2, hg⟩
        have r5 : Row8 w5 g 0 := Blk8_row blk
        have e5 : row8 w5 g 0 = h2 := row8_of hal2 (fun j v hv => by rw [Nat.zero_add, cell_of_row w5 g j _ _ _ hg, ← wvals_arr, List.getElem?_toArray]; exact hv)
        have b33 : Blk33 w5 (w.heap.size + 1) := ⟨_, _, _, _, _, by simp, (hbx.block _ (by have := Hs2.out; have := HB3.out; omega)).trans H1.out⟩
        have c5 : w5.cell? ⟨w.heap.size, 9, none⟩ = some (.int .i64 L) := (hbx.cell (p := ⟨w.heap.size, 9, none⟩) (by simp; have := Hs2.out; have := HB3.out; omega)).trans c9
        have c5a : ∀ o, (w5.alloc o).cell? ⟨w.heap.size, 9, none⟩ = some (.int .i64 L) := fun o => (((Below.refl _ _).alloc (Nat.le_refl _) o).cell (p := ⟨w.heap.size, 9, none⟩) (block_lt_of_cell c5)).trans c5
        have c5b : ∀ o, (w5.alloc o).drew.cell? ⟨w.heap.size, 9, none⟩ = some (.int .i64 L) := c5a
        have hne : w5.heap.size ≠ w.heap.size := World.new_ne w5 _ c5
        have hne' : w.heap.size ≠ w5.heap.size := hne.symm
        obtain ⟨RR, hRR⟩ : ∃ RR, RR = absR TF ++ absR MR := ⟨_, rfl⟩
        have hRl : RR.length ≤ 140737488355328 := by
          rw [hRR, List.length_append, absR_len, absR_len]; omega
        have HRR := Lib.hid hRR
        have HRl := Lib.hid hRl
        have Hh2 := Lib.hid hh2
        have Haa := Lib.hid haa
        have Hab := Lib.hid hab
        have Hbx2 := Lib.hid hbx
        clear hg haa hab hbx hh2 hRR hRl c9 blk
        generalize eRT : absR TF = RT at *
        generalize eRM : absR MR = RM at *
        have HRT := Lib.hid eRT
        have HRM := Lib.hid eRM
        clear eRT eRM
        obtain ⟨nT, hnT⟩ : ∃ nT, nT = RT.length := ⟨_, rfl⟩
        obtain ⟨nM, hnM⟩ : ∃ nM, nM = RM.length := ⟨_, rfl⟩
        rw [← hnT] at Haa ⊢
        rw [← hnM] at Hab ⊢
        clear hnT hnM
        go_region_with (first | (go_at_call 59; refine (concat2_any aa nT ac RT ab nM bc RM _ 34 _ ?_ ?_ ?_ RR HRR.out HRl.out).mono ?_; exact heap_new rfl; exact Bs_drew (Haa.out.alloc _); exact Bs_drew (Hab.out.alloc _); rintro e w' ⟨ca, cc, rfl, hcB, hb4⟩; have hb5 := Bel_alloc hb4; obtain ⟨r6, e6, b6, c6⟩ := keep5 r5 e5 b33 c5 hb5))
        all_goals
          go_wp2_with fail
          obtain ⟨hs', a', n', c', L', hl', hg'⟩ := id b6
          have hw : IntKind.i64.wrap ((L : Int) + (n : Int)) = (L : Int) + (n : Int) := by have := HL.out; exact i64_id _ (by omega) (by omega)
          refine bodyPost_ret (v := .agg (dcells h2 ca RR.length cc (IntKind.i64.wrap ((L : Int) + (n : Int))))) ?_ rfl ⟨_, rfl, write_out (write_fin HFill.out Hhs.out HTT.out HTF.out HMR.out Hh1.out Hh2.out HRT.out HRM.out HRR.out) hcB HL.out Hmn.out hw b6, Below_setRow (HBel.out.trans ((Hbx2.out.mono (by have := Hs2.out; have := HB3.out; omega)).trans (hb5.mono (by have := Hbx2.out.size; have := Hs2.out; have := HB3.out; omega)))) (by omega) _⟩
          exact results_cell_row rfl _ _ (w.heap.size + 1) 95 _ (0, 0) _ rfl (setRow_heap _ _ _ _ _ _ hg') Tryd.underlying95 rfl (by rw [dcells_size _ _ _ _ _ hal2]; exact size33)
end Go.Proofs.YthffegfcgmhppaaDoor.Dg
namespace Go.Proofs.YthffegfcgmhppaaDoor.Dg
set_option maxRecDepth 100000
set_option linter.unusedSimpArgs false
set_option linter.unusedVariables false
open Go.RowKit
theorem Tabs.range0 {w : World} (h : Tabs w) : w.rangeAt 0 0 (wvals H8) := by
  intro j v hv
  have hj : j < 8 := by have := (List.getElem?_eq_some_iff.1 hv).1; rw [wvals_len, H8_len] at this; exact this
  rw [Nat.zero_add, h.2.1 j hj]
  have hj2 : j < H8.length := hj
  rw [← hv]
  simp [wvals, wAt, hj2]
theorem run_build1 (w : World) (x0 x1 x2 x3 x4 x5 x6 x7 : BitVec 32) :
    (Instr.build 95 #[(0, .agg (wcells [x0, x1, x2, x3, x4, x5, x6, x7]))]).run Tryd.prog w = .ok (.agg (dcells [x0, x1, x2, x3, x4, x5, x6, x7] none 0 0 0)) w := by kernel_rfl
theorem run_build1' (w : World) (hs : List (BitVec 32)) (h : hs.length = 8) : (Instr.build 95 #[(0, .agg (wcells hs))]).run Tryd.prog w = .ok (.agg (dcells hs none 0 0 0)) w := by
  obtain ⟨x0, x1, x2, x3, x4, x5, x6, x7, rfl⟩ := words8 h
  exact run_build1 ..
def build1A (x : Value) : Sem Next := do pure (.value (← Instr.build 95 #[(0, x)]))
theorem exec_build1 (ρ : Operand → Value) (d : Option Tmp) (x : Operand) (ty : TypeId) (pos : String) (af : Array Edge) (gd : Option (Nat × Bool)) :
    execOp ρ { dst := d, op := .build 95 #[(0, x)], type := ty, pos := pos, after := af, guard := gd } = build1A (ρ x) := by
  unfold execOp build1A
  simp
theorem run_build1A (w : World) (hs : List (BitVec 32)) (h : hs.length = 8) : (build1A (.agg (wcells hs))).run Tryd.prog w = .ok (.value (.agg (dcells hs none 0 0 0))) w := by
  unfold build1A
  simp only [Sem.run_bind, Sem.run_pure, run_build1' w hs h, Result.andThen_ok]
attribute [local go_sem ↓] exec_build1
attribute [local go_sem] run_build1A
set_option maxRecDepth 100000 in
set_option maxHeartbeats 1000000 in
theorem new_any (w : World) (hT : Tabs w) :
    Calls Tryd.prog 42 #[] w fun e w' => ∃ v, e = .returned v ∧ St w' v [] ∧ Below w.heap.size w w' := by
  obtain ⟨hs, hhs⟩ : ∃ hs, hs = H8 := ⟨_, rfl⟩
  have hl : hs.length = 8 := by rw [hhs]; rfl
  have hr := hT.range0
  have h2 := hT.2.2
  rw [← hhs] at hr
  have Hhs := Lib.hid hhs
  clear hhs hT
  go_enter Tryd.func42, Tryd.ntmps42
  go_upto_region 1 with (fail)
  rw [zeros33]
  have hr2 := range_below hr ((Below.refl _ _).alloc (Nat.le_refl _) (.cells (dcells (List.replicate 8 0) none 0 0 0) 95))
  have hg : (w.alloc (.cells (dcells (List.replicate 8 0) none 0 0 0) 95)).heap[w.heap.size]? = some (.cells (dcells (List.replicate 8 0) none 0 0 0) 95 (0, 0)) := heap_new rfl
  have hb : Below w.heap.size w (w.alloc (.cells (dcells (List.replicate 8 0) none 0 0 0) 95)) := (Below.refl _ _).alloc (Nat.le_refl _) _
  generalize w.alloc (.cells (dcells (List.replicate 8 0) none 0 0 0) 95) = w1 at *
  go_wp2_with (first | (refine wpList_load_mid rfl 93 (.global 0) rfl 0 0 rfl (wvals hs) _ hr2 Tryd.underlying93 rfl (by rw [wvals_len, hl]; exact size8w) ?_; rw [wvals_arr]) | (refine wpList_store_row rfl 95 (.tmp 0) (.tmp 2) rfl w.heap.size _ rfl rfl 95 _ hg (by rw [dcells_size _ _ _ _ _ hl]; exact size33) (by rw [dcells_size _ _ _ _ _ hl, dcells_size _ _ _ _ _ (by simp)]) (dcells_one _ _ _ _ _) ?_))
  refine bodyPost_ret (v := .agg (dcells hs none 0 0 0)) ?_ rfl ⟨_, rfl, ⟨none, 0, by rw [Hhs.out]; rfl, Bs_empty _ _ _ (Nat.zero_le _) (fun _ => rfl)⟩, Below_setRow hb (Nat.le_refl _) _⟩
  exact results_cell_row rfl _ _ w.heap.size 95 _ (0, 0) _ rfl (setRow_heap _ _ _ _ _ _ hg) Tryd.underlying95 rfl (by rw [dcells_size _ _ _ _ _ hl]; exact size33)
end Go.Proofs.YthffegfcgmhppaaDoor.Dg
namespace Go.Proofs.YthffegfcgmhppaaDoor.Dg
set_option maxRecDepth 100000
set_option linter.unusedSimpArgs false
set_option linter.unusedVariables false
open Go.RowKit
attribute [local go_sem ↓] exec_at_zero exec_at_succ Go.wp_at_zero Go.wp_at_succ
/-- the hash value of some bytes -/
def Hv (l : List UInt8) : List UInt8 := joinB (absH H8 (l ++ padB l.length))
theorem Hv_len (l : List UInt8) : (Hv l).length = 32 := joinB_len _
theorem padB_len (n : Nat) : (padB n).length ≤ 72 := by
  obtain ⟨p0, p1⟩ := padI_bd ((n : Int) + 1) 56
  simp only [padB, be8, List.length_append, List.length_cons, List.length_replicate, List.length_map, List.length_range]
  omega
def load33A (v : Value) : Sem Next := do pure (.value (← Instr.loadAt 95 v))
theorem exec_load33 (ρ : Operand → Value) (d : Option Tmp) (x : Operand) (ty : TypeId) (pos : String) (af : Array Edge) (gd : Option (Nat × Bool)) :
    execOp ρ { dst := d, op := .load 95 x, type := ty, pos := pos, after := af, guard := gd } = load33A (ρ x) := rfl
theorem run_load33 {w : World} {g : Nat} {hs : List (BitVec 32)} {a : Option Addr} {n c : Nat} {L : Int} (hl : hs.length = 8) (h : w.heap[g]? = some (.cells (dcells hs a n c L) 95 (0, 0))) :
    (load33A (.pointer (some ⟨g, 0, none⟩))).run Tryd.prog w = .ok (.value (.agg (dcells hs a n c L))) w := by
  unfold load33A
  simp only [Instr.loadAt, Instr.sureAddr, Sem.run_bind, Sem.run_pure, Result.andThen_ok, run_loadVar_row w g 95 95 _ (0, 0) _ h Tryd.underlying95 rfl (by rw [dcells_size _ _ _ _ _ hl]; exact size33)]
def field0A (v : Value) : Sem Next := do pure (.value (← Instr.field 95 v 0))
theorem exec_field0 (ρ : Operand → Value) (d : Option Tmp) (x : Operand) (ty : TypeId) (pos : String) (af : Array Edge) (gd : Option (Nat × Bool)) :
    execOp ρ { dst := d, op := .field 95 x 0, type := ty, pos := pos, after := af, guard := gd } = field0A (ρ x) := rfl
theorem run_field0' (w : World) (x0 x1 x2 x3 x4 x5 x6 x7 : BitVec 32) (a : Option Addr) (n c : Nat) (L : Int) :
    (Instr.field 95 (.agg (dcells [x0, x1, x2, x3, x4, x5, x6, x7] a n c L)) 0).run Tryd.prog w = .ok (.agg (wcells [x0, x1, x2, x3, x4, x5, x6, x7])) w := by kernel_rfl
theorem run_field0 (w : World) (l : List UInt8) (a : Option Addr) (n c : Nat) (L : Int) :
    (field0A (.agg (dcells (absH H8 l) a n c L))).run Tryd.prog w = .ok (.value (.agg (wcells (absH H8 l)))) w := by
  obtain ⟨x0, x1, x2, x3, x4, x5, x6, x7, e⟩ := words8 (absH_len l)
  rw [e]
  unfold field0A
  simp only [Sem.run_bind, Sem.run_pure, run_field0', Result.andThen_ok]
/-- a block of a hash value -/
def Blk32 (w : World) (g : Nat) : Prop := ∃ l : List UInt8, l.length = 32 ∧ w.heap[g]? = some (.cells (bcells l) 51 (0, 0))
def store24A (v x : Value) : Sem Next := do Instr.storeAt 51 v x; pure .skip
theorem exec_store24 (ρ : Operand → Value) (d : Option Tmp) (x y : Operand) (ty : TypeId) (pos : String) (af : Array Edge) (gd : Option (Nat × Bool)) :
    execOp ρ { dst := d, op := .store 51 x y, type := ty, pos := pos, after := af, guard := gd } = store24A (ρ x) (ρ y) := rfl
theorem run_store24 (w : World) (g : Nat) (l : List UInt8) (hl : l.length = 32) (h : Blk32 w g) : (store24A (.pointer (some ⟨g, 0, none⟩)) (.agg (bcells l))).run Tryd.prog w = .ok .skip (w.setRow g (bcells l)) := by
  obtain ⟨old, ho, hg⟩ := h
  unfold store24A
  simp only [Instr.storeAt, Instr.sureAddr, Sem.run_bind, Sem.run_pure, Result.andThen_ok, run_storeVar_row w g 51 51 _ (bcells l) hg (by rw [bcells_size, hl]; exact size32b) (by rw [bcells_size, bcells_size, ho, hl]) (bcells_one l)]
theorem Blk32_drew (w : World) (g : Nat) : Blk32 w.drew g ↔ Blk32 w g := by constructor <;> exact id
theorem Blk32_keep {w w' : World} (hb : Below w.heap.size w w') : ∀ g, Blk32 w g → Blk32 w' g := fun g ⟨l, hl, hg⟩ => ⟨l, hl, (hb.block g (heap_lt hg)).trans hg⟩
attribute [local go_sem ↓] exec_load33 exec_field0 exec_store24
attribute [local go_sem] run_field0 run_store24 Blk32_drew joinB_len
set_option maxRecDepth 100000 in
set_option maxHeartbeats 1000000 in
theorem close_any (v : Value) (l : List UInt8) (w : World) (hT : Tabs w) (hS : St w v l) (hn : l.length ≤ 35184372088832) :
    Calls Tryd.prog 40 #[v] w fun e w' => e = .returned (.agg (bcells (Hv l))) ∧ Below w.heap.size w w' := by
  obtain ⟨ta, tc, rfl, hTB⟩ := id hS
  have hz := hT.2.2
  have HT := Lib.hid hT
  have HS := Lib.hid hS
  have Hn := Lib.hid hn
  have hlH := absH_len l
  obtain ⟨hs, hhs⟩ : ∃ hs, hs = absH H8 l := ⟨_, rfl⟩
  obtain ⟨tn, htn⟩ : ∃ tn, tn = (absR l).length := ⟨_, rfl⟩
  rw [← hhs] at hlH ⊢
  rw [← hhs, ← htn] at HS
  rw [← htn]
  obtain ⟨L, hL⟩ : ∃ L, L = l.length := ⟨_, rfl⟩
  rw [← hL]
  rw [← hL] at hn HS
  have HL := Lib.hid hL
  clear hT hS hTB hL hhs htn
  go_enter Tryd.func40, Tryd.ntmps40
  go_upto_region 1 with (fail)
  rw [zeros32]
  have h0 : ((w.alloc (.cells (dcells hs ta tn tc L) 95)).alloc (.cells (bcells (List.replicate 32 0)) 51)).heap[w.heap.size]? = some (.cells (dcells hs ta tn tc L) 95 (0, 0)) := heap_old (heap_new rfl)
  have h1 : Blk32 ((w.alloc (.cells (dcells hs ta tn tc L) 95)).alloc (.cells (bcells (List.replicate 32 0)) 51)) (w.heap.size + 1) := ⟨_, by simp, heap_new (by simp only [size_alloc1])⟩
  have hbel : Below w.heap.size w ((w.alloc (.cells (dcells hs ta tn tc L) 95)).alloc (.cells (bcells (List.replicate 32 0)) 51)) := ((Below.refl _ _).alloc (Nat.le_refl _) _).alloc (by simp) _
  have hs2 : ((w.alloc (.cells (dcells hs ta tn tc L) 95)).alloc (.cells (bcells (List.replicate 32 0)) 51)).heap.size = w.heap.size + 2 := by simp only [size_alloc1]
  generalize ((w.alloc (.cells (dcells hs ta tn tc L) 95)).alloc (.cells (bcells (List.replicate 32 0)) 51)) = w1 at *
  have c9 := (dblock h0 hlH).2.2.2
  have l0 := run_load33 hlH h0
  have l1 : (load33A (.pointer (some ⟨w.heap.size, 0, none⟩))).run Tryd.prog w1.drew = .ok (.value (.agg (dcells hs ta tn tc L))) w1.drew := run_load33 hlH h0
  have Hs2 := Lib.hid hs2
  have HBel := Lib.hid hbel
  have H0 := Lib.hid h0
  clear hs2 hbel h0
  go_region_with (first
    | (go_at_call 56; refine (padding_any _ _ (by omega) (by omega)).mono ?_; rintro e w' ⟨pv, rfl, hown, hb1⟩; obtain ⟨pa, pc, rfl, hpB⟩ := Bs_of_own hown; have hb2 : Below w1.heap.size w1 w' := (Below.refl _ _).drew.trans hb1; have l2 := run_load33 hlH ((hb2.block _ (heap_lt H0.out)).trans H0.out); have q1 := Blk32_keep hb2 _ h1; have HpB := Lib.hid hpB; have Hb2 := Lib.hid hb2; clear hb1 hb2 hown hpB)
    | (go_at_call 41; refine (write_any _ l pa _ pc (padB ((L : Int)).toNat) _ ?_ ?_ ?_ ?_).mono ?_; exact (tabs_below (HT.out.below HBel.out hz) Hb2.out); exact (HS.out.below HBel.out).below Hb2.out; exact HpB.out; (have := padB_len ((L : Int)).toNat; have := Hn.out; omega); rintro e w' ⟨v', rfl, ⟨ua, uc, rfl, hub⟩, hb3⟩; have q2 := Blk32_keep hb3 _ q1; have Hb3 := Lib.hid hb3; clear hb3 hub)
    | (go_at_call 55; refine (join_any _ _ (absH_len _)).mono ?_; rintro e w' ⟨rfl, hb4⟩; have q3 := Blk32_keep hb4 _ q2; have Hb4 := Lib.hid hb4; clear hb4))
  all_goals
    go_wp2_with fail
    obtain ⟨old, ho, hg⟩ := id q3
    refine bodyPost_ret (v := .agg (bcells (Hv l))) ?_ rfl ⟨rfl, Below_setRow (HBel.out.trans ((Hb2.out.trans (Hb3.out.trans (Hb4.out.mono Hb3.out.size) |>.mono Hb2.out.size)).mono (by have := Hs2.out; omega))) (by omega) _⟩
    have e : bcells (joinB (absH H8 (l ++ padB L))) = bcells (Hv l) := by rw [HL.out]; rfl
    rw [e]
    exact results_cell_row rfl _ _ (w.heap.size + 1) 51 _ (0, 0) _ rfl (setRow_heap _ _ _ _ _ _ hg) Tryd.underlying51 rfl (by rw [bcells_size, Hv_len]; exact size32b)
set_option maxRecDepth 100000 in
set_option maxHeartbeats 1000000 in
theorem sum_any (a : Option Addr) (n c : Nat) (l : List UInt8) (w : World) (hT : Tabs w) (hB : Bs w a n c l) (hn : n ≤ 35184372088832) :
    Calls Tryd.prog 19 #[.slice a n c] w fun e w' => e = .returned (.agg (bcells (Hv l))) ∧ Below w.heap.size w w' := by
  have hz := hT.2.2
  have hl := hB.1
  have HT := Lib.hid hT
  have HB := Lib.hid hB
  clear hT hB
  go_enter Tryd.func19, Tryd.ntmps19
  go_upto_region 1 with (fail)
  rw [zeros32]
  have hg : (w.alloc (.cells (bcells (List.replicate 32 0)) 51)).heap[w.heap.size]? = some (.cells (bcells (List.replicate 32 0)) 51 (0, 0)) := heap_new rfl
  have hb : Below w.heap.size w (w.alloc (.cells (bcells (List.replicate 32 0)) 51)) := (Below.refl _ _).alloc (Nat.le_refl _) _
  have hs1 : (w.alloc (.cells (bcells (List.replicate 32 0)) 51)).heap.size = w.heap.size + 1 := by simp only [size_alloc1]
  generalize w.alloc (.cells (bcells (List.replicate 32 0)) 51) = w1 at *
  have T1 := Lib.hid (HT.out.below hb hz)
  have B1 := Lib.hid (HB.out.below hb)
  have Hb := Lib.hid hb
  have Hg := Lib.hid hg
  clear hb hg
  go_wp2_with (first
    | (go_at_call 42; refine (new_any _ T1.out).mono ?_; rintro e w2 ⟨v, rfl, hS, hb2⟩; have T2 := Lib.hid (tabs_below T1.out hb2); have B2 := Lib.hid (B1.out.below hb2); have S2 := Lib.hid hS; have Hb2 := Lib.hid hb2; clear hS hb2)
    | (go_at_call 41; refine (write_any _ [] a n c l _ T2.out S2.out B2.out (by simp; omega)).mono ?_; rintro e w3 ⟨v', rfl, hS, hb3⟩; have T3 := Lib.hid (tabs_below T2.out hb3); have S3 := Lib.hid hS; have Hb3 := Lib.hid hb3; clear hS hb3)
    | (go_at_call 40; refine (close_any _ ([] ++ l) _ T3.out S3.out (by simp; omega)).mono ?_; rintro e w4 ⟨rfl, hb4⟩; have Hb4 := Lib.hid hb4; have hw4 := (hb4.block _ (heap_lt ((Hb3.out.block _ (heap_lt ((Hb2.out.block _ (heap_lt Hg.out)).trans Hg.out))).trans ((Hb2.out.block _ (heap_lt Hg.out)).trans Hg.out)))).trans ((Hb3.out.block _ (heap_lt ((Hb2.out.block _ (heap_lt Hg.out)).trans Hg.out))).trans ((Hb2.out.block _ (heap_lt Hg.out)).trans Hg.out)); clear hb4)
    | (refine wpList_store_row rfl 51 (.tmp 2) (.tmp 6) rfl w.heap.size _ rfl rfl 51 _ hw4 (by rw [bcells_size, Hv_len]; exact size32b) (by simp only [bcells_size, Hv_len, List.length_replicate]) (bcells_one _) ?_))
  refine bodyPost_ret (v := .agg (bcells (Hv l))) ?_ rfl ⟨rfl, Below_setRow (Hb.out.trans ((Hb2.out.trans (Hb3.out.trans (Hb4.out.mono Hb3.out.size) |>.mono Hb2.out.size)).mono (by omega))) (by omega) _⟩
  exact results_cell_row rfl _ _ w.heap.size 51 _ (0, 0) _ rfl (setRow_heap _ _ _ _ _ _ hw4) Tryd.underlying51 rfl (by rw [bcells_size, Hv_len]; exact size32b)
end Go.Proofs.YthffegfcgmhppaaDoor.Dg
namespace Go.Proofs.YthffegfcgmhppaaDoor.Dg
set_option maxRecDepth 100000
set_option linter.unusedSimpArgs false
set_option linter.unusedVariables false
open Go.ChangeShapes Go.WideShapes Go.ChangeAt Go.RowKit
theorem own : ownKnob Tryd.prog.godebug = none := by kernel_rfl
theorem laidOut : laidOutB Tryd.prog = true := by kernel_rfl
def z0 : List Int := H8.map wi
def z1 : List Int := K64.map wi
theorem laid0 : (Rows.laid_rollbook_digest_initial : DataW Unit) = Lib.tabData .u32 z0 := by kernel_rfl
theorem laid1 : (Rows.laid_rollbook_digest_rounds : DataW Unit) = Lib.tabData .u32 z1 := by kernel_rfl
theorem gn0 : Tryd.prog.globalNamed "rollbook/digest.initial" = some 0 := by kernel_rfl
theorem gn1 : Tryd.prog.globalNamed "rollbook/digest.rounds" = some 1 := by kernel_rfl
theorem gt0 : (Tryd.prog.globals[0]?).map (·.type) = some 93 := by kernel_rfl
theorem gt1 : (Tryd.prog.globals[1]?).map (·.type) = some 119 := by kernel_rfl
theorem cells8w : Tryd.prog.cellsOf 93 = 8 := by kernel_rfl
theorem cells64w : Tryd.prog.cellsOf 119 = 64 := by kernel_rfl
theorem cells1w : Tryd.prog.cellsOf 92 = 1 := by kernel_rfl
theorem cells1b : Tryd.prog.cellsOf 5 = 1 := by kernel_rfl
theorem K64_len : K64.length = 64 := rfl
theorem z_get (l : List (BitVec 32)) (i : Nat) (h : i < l.length) : (l.map wi).getD i 0 = wi (wAt l i) := by
  simp [List.getD, wAt, h]
/-- what the row's list gives -/
theorem tabs_laid {W : World} (h : laidMetH Tryd.prog [("rollbook/digest.initial", Rows.laid_rollbook_digest_initial), ("rollbook/digest.rounds", Rows.laid_rollbook_digest_rounds)] W) : Tabs W := by
  have h0 : laidMet Tryd.prog [("rollbook/digest.initial", Rows.laid_rollbook_digest_initial), ("rollbook/digest.rounds", Rows.laid_rollbook_digest_rounds)] W := h
  have h1 := h0.tail
  rw [laid0] at h0
  rw [laid1] at h1
  have t0 := Lib.tabIs_of_head gn0 gt0 Tryd.underlying93 Tryd.underlying92 cells1w cells8w h0
  have t1 := Lib.tabIs_of_head gn1 gt1 Tryd.underlying119 Tryd.underlying92 cells1w cells64w h1
  have c1 : ∀ i, i < 64 → W.cell? ⟨1, i, none⟩ = some (.int .u32 (wi (wAt K64 i))) := fun i hi => by
    rw [t1.cell gn1 i (by simp [z1, K64_len]; exact hi), z1, z_get K64 i (by rw [K64_len]; exact hi)]
  refine ⟨c1, fun i hi => ?_, ?_⟩
  · rw [t0.cell gn0 i (by simp [z0, H8_len]; exact hi), z0, z_get H8 i (by rw [H8_len]; exact hi)]
  · have := block_lt_of_cell (c1 0 (by omega))
    exact this
theorem bulk_lits {H : Type} (k : IntKind) (zs : List Int) : zs.length = Rows.uptoBulkAll (lits (H := H) k zs) := by
  induction zs with
  | nil => rfl
  | cons z r ih =>
    simp only [lits, List.map_cons, Rows.uptoBulkAll, List.length_cons] at ih ⊢
    simp only [Rows.uptoBulk]
    omega
def withCells (cs : Array Value) : Obj → Obj
  | .cells _ t frozen => .cells cs t frozen
  | o => o
/-- a world for the witnesses: the tables hold what their initialisers lay -/
noncomputable def laidWorld (os : Os) : World :=
  { World.holding Tryd.prog os ⟨#[], #[], []⟩ with heap := ((World.holding Tryd.prog os ⟨#[], #[], []⟩).heap.modify 0 (withCells (wcells H8))).modify 1 (withCells (wcells K64)) }
end Go.Proofs.YthffegfcgmhppaaDoor.Dg

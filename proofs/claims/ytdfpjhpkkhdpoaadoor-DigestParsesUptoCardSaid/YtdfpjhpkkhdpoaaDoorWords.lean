/-
  Plain mathematics for the digest seat: 32-bit words as BitVec 32 inside the model's integers.
-/
import Derived.Test.YtdfpjhpkkhdpoaaDoorRows
import Derived.WalkKit
import Derived.Lib.Hide
namespace Go.Proofs.YtdfpjhpkkhdpoaaDoor
open Go.RowKit

/-- a word as the model's integer -/
def wi (x : BitVec 32) : Int := (x.toNat : Int)
theorem wi_nonneg (x : BitVec 32) : 0 ≤ wi x := by unfold wi; omega
theorem wi_lt (x : BitVec 32) : wi x < 4294967296 := by unfold wi; have := x.isLt; omega
theorem ofInt_wi (x : BitVec 32) : BitVec.ofInt 32 (wi x) = x := by
  unfold wi; apply BitVec.eq_of_toNat_eq; simp
theorem wrap_ofInt (n : Int) : IntKind.u32.wrap n = wi (BitVec.ofInt 32 n) := by
  rw [IntKind.wrap_u32]; unfold wi; simp [BitVec.toNat_ofInt]; omega
theorem wrap_toNat (x : BitVec 32) : IntKind.u32.wrap (x.toNat : Int) = wi x := by
  rw [IntKind.wrap_u32]; unfold wi; have := x.isLt; omega
theorem wi_xor (a b : BitVec 32) : bits .xor .u32 (wi a) (wi b) = wi (a ^^^ b) := by
  show IntKind.u32.wrap ((BitVec.ofInt 32 (wi a) ^^^ BitVec.ofInt 32 (wi b)).toNat : Int) = _
  rw [ofInt_wi, ofInt_wi, wrap_toNat]
theorem wi_and (a b : BitVec 32) : bits .and .u32 (wi a) (wi b) = wi (a &&& b) := by
  show IntKind.u32.wrap ((BitVec.ofInt 32 (wi a) &&& BitVec.ofInt 32 (wi b)).toNat : Int) = _
  rw [ofInt_wi, ofInt_wi, wrap_toNat]
theorem wi_or (a b : BitVec 32) : bits .or .u32 (wi a) (wi b) = wi (a ||| b) := by
  show IntKind.u32.wrap ((BitVec.ofInt 32 (wi a) ||| BitVec.ofInt 32 (wi b)).toNat : Int) = _
  rw [ofInt_wi, ofInt_wi, wrap_toNat]
theorem wi_add (a b : BitVec 32) : IntKind.u32.wrap (wi a + wi b) = wi (a + b) := by
  rw [wrap_ofInt, BitVec.ofInt_add, ofInt_wi, ofInt_wi]
theorem wi_shl (a : BitVec 32) (n : Nat) : IntKind.u32.wrap (wi a * 2 ^ n) = wi (a <<< n) := by
  rw [IntKind.wrap_u32]; unfold wi; rw [BitVec.toNat_shiftLeft, Nat.shiftLeft_eq]; simp
theorem wi_shr (a : BitVec 32) (n : Nat) : wi a / 2 ^ n = wi (a >>> n) := by
  unfold wi; rw [BitVec.toNat_ushiftRight, Nat.shiftRight_eq_div_pow]; simp
theorem wi_inj {a b : BitVec 32} (h : wi a = wi b) : a = b := by
  unfold wi at h; apply BitVec.eq_of_toNat_eq; omega
theorem wi_eq (a b : BitVec 32) : (wi a == wi b) = (a == b) := by
  rw [Bool.eq_iff_iff]; simp; exact ⟨wi_inj, fun h => by rw [h]⟩

theorem wi_addm (a b : BitVec 32) : (wi a + wi b) % 4294967296 = wi (a + b) := by
  rw [← IntKind.wrap_u32, wi_add]
theorem wi_shlm (a : BitVec 32) (n : Nat) : (wi a * 2 ^ n) % 4294967296 = wi (a <<< n) := by
  rw [← IntKind.wrap_u32, wi_shl]

/-- rotation to the right by n -/
def rotr (x : BitVec 32) (n : Nat) : BitVec 32 := x >>> n ||| x <<< (32 - n)
theorem mask31 (n : Nat) (h0 : 0 < n) (h1 : n < 32) : bits .and .u64 (IntKind.u64.wrap (-(n : Int))) 31 = ((32 - n : Nat) : Int) := by
  have : ∀ n : Fin 32, 0 < n.val → bits .and .u64 (IntKind.u64.wrap (-(n.val : Int))) 31 = ((32 - n.val : Nat) : Int) := by decide +kernel
  exact this ⟨n, h1⟩ h0

/-- a byte of a list, a word of a list -/
def byteAt (b : List UInt8) (i : Nat) : UInt8 := b.getD i 0
def wAt (l : List (BitVec 32)) (i : Nat) : BitVec 32 := l.getD i 0
/-- a byte as the model's integer -/
def bi (x : UInt8) : Int := (x.toNat : Int)
theorem bi_nonneg (x : UInt8) : 0 ≤ bi x := by unfold bi; omega
theorem bi_lt (x : UInt8) : bi x < 256 := by unfold bi; have := x.toNat_lt; omega
/-- the cells of an array or a row of bytes, of words -/
def bcells (l : List UInt8) : Array Value := (l.map fun x => Value.int .u8 (bi x)).toArray
def wcells (l : List (BitVec 32)) : Array Value := (l.map fun x => Value.int .u32 (wi x)).toArray
theorem bcells_size (l : List UInt8) : (bcells l).size = l.length := by simp [bcells]
theorem wcells_size (l : List (BitVec 32)) : (wcells l).size = l.length := by simp [wcells]
theorem bcells_get (l : List UInt8) (i : Nat) (h : i < l.length) : (bcells l)[i]? = some (.int .u8 (bi l[i])) := by simp [bcells, h]
theorem wcells_get (l : List (BitVec 32)) (i : Nat) (h : i < l.length) : (wcells l)[i]? = some (.int .u32 (wi l[i])) := by simp [wcells, h]
theorem wcells_set (l : List (BitVec 32)) (i : Nat) (x : BitVec 32) : (wcells l).setIfInBounds i (.int .u32 (wi x)) = wcells (l.set i x) := by
  simp [wcells, List.map_set]
theorem bcells_set (l : List UInt8) (i : Nat) (x : UInt8) : (bcells l).setIfInBounds i (.int .u8 (bi x)) = bcells (l.set i x) := by
  simp [bcells, List.map_set]
theorem wcells_one (l : List (BitVec 32)) : (wcells l).all (·.oneCell') = true := by
  simp [wcells, Value.oneCell']
theorem bcells_one (l : List UInt8) : (bcells l).all (·.oneCell') = true := by
  simp [bcells, Value.oneCell']

/-- a byte as a word -/
def byteW (x : UInt8) : BitVec 32 := BitVec.ofNat 32 x.toNat
/-- the big-endian word of four bytes -/
def be32 (a b c d : UInt8) : BitVec 32 := byteW a <<< 24 ||| byteW b <<< 16 ||| byteW c <<< 8 ||| byteW d
def wordAt (b : List UInt8) (i : Nat) : BitVec 32 := be32 (byteAt b (4 * i)) (byteAt b (4 * i + 1)) (byteAt b (4 * i + 2)) (byteAt b (4 * i + 3))
/-- the words of a block -/
def wordsOf (b : List UInt8) : List (BitVec 32) := (List.range 16).map (wordAt b)
/-- the first k of n words of a function, the others zero -/
def firstW (f : Nat → BitVec 32) (n k : Nat) : List (BitVec 32) := (List.range n).map fun i => if i < k then f i else 0
theorem firstW_len (f : Nat → BitVec 32) (n k : Nat) : (firstW f n k).length = n := by simp [firstW]
theorem firstW_set (f : Nat → BitVec 32) (n k : Nat) : (firstW f n k).set k (f k) = firstW f n (k + 1) := by
  apply List.ext_getElem?
  intro i
  simp only [firstW, List.getElem?_set, List.getElem?_map, List.getElem?_range, List.length_map, List.length_range]
  by_cases h : k = i
  · subst h
    by_cases h2 : k < n <;> simp [h2]
  · simp only [h, if_false]
    by_cases h2 : i < n
    · have : (i < k + 1) = (i < k) := by apply propext; omega
      simp [h2, this]
    · simp [h2]
theorem firstW_zero (f : Nat → BitVec 32) (n : Nat) : firstW f n 0 = List.replicate n 0 := by
  simp [firstW, List.map_const']
theorem firstW_all (f : Nat → BitVec 32) (n : Nat) : firstW f n n = (List.range n).map f := by
  apply List.map_congr_left
  intro i hi
  have := List.mem_range.1 hi
  simp [this]

theorem heap_alloc_if (w : World) (o : Obj) (i : Nat) : (w.alloc o).heap[i]? = if i = w.heap.size then some o else w.heap[i]? := by
  show (w.heap.push o)[i]? = _
  rw [Array.getElem?_push]
theorem size_alloc1 (w : World) (o : Obj) : (w.alloc o).heap.size = w.heap.size + 1 := by
  show (w.heap.push o).size = _
  simp
theorem heap_new {w : World} {o : Obj} {g : Nat} (h : g = w.heap.size) : (w.alloc o).heap[g]? = some o := by
  rw [heap_alloc_if, if_pos h]
theorem heap_old {w : World} {o o' : Obj} {g : Nat} (h : w.heap[g]? = some o) : (w.alloc o').heap[g]? = some o := by
  have hl : g < w.heap.size := by
    by_cases hl : g < w.heap.size
    · exact hl
    · rw [Array.getElem?_eq_none (by omega)] at h; cases h
  rw [heap_alloc_if, if_neg (by omega), h]
theorem heap_lt {w : World} {o : Obj} {g : Nat} (h : w.heap[g]? = some o) : g < w.heap.size := by
  by_cases hl : g < w.heap.size
  · exact hl
  · rw [Array.getElem?_eq_none (by omega)] at h; cases h
theorem cell_bytes {w : World} {g : Nat} {l : List UInt8} {t : TypeId} {fr : Nat × Nat} (h : w.heap[g]? = some (.cells (bcells l) t fr)) (i : Nat) (hi : i < l.length) :
    w.cell? ⟨g, i, none⟩ = some (.int .u8 (bi (byteAt l i))) := by
  rw [cell_of_row w g i _ t fr h, bcells_get l i hi]; simp [byteAt, hi]
theorem cell_words {w : World} {g : Nat} {l : List (BitVec 32)} {t : TypeId} {fr : Nat × Nat} (h : w.heap[g]? = some (.cells (wcells l) t fr)) (i : Nat) (hi : i < l.length) :
    w.cell? ⟨g, i, none⟩ = some (.int .u32 (wi (wAt l i))) := by
  rw [cell_of_row w g i _ t fr h, wcells_get l i hi]; simp [wAt, hi]

theorem Below_setRow {B : Nat} {a w : World} (h : Below B a w) {g : Nat} (hg : B ≤ g) (cs : Array Value) : Below B a (w.setRow g cs) :=
  ⟨h.os, h.tape, h.output, by simp; exact h.size, fun b hb => (setRow_other w g b cs (by omega)).trans (h.block b hb)⟩
theorem size8w : (Tryd.prog.info? 31).map (·.size) = some 8 := by kernel_rfl
theorem size16w : (Tryd.prog.info? 70).map (·.size) = some 16 := by kernel_rfl
theorem size64w : (Tryd.prog.info? 74).map (·.size) = some 64 := by kernel_rfl
theorem size64b : (Tryd.prog.info? 72).map (·.size) = some 64 := by kernel_rfl
theorem size32b : (Tryd.prog.info? 24).map (·.size) = some 32 := by kernel_rfl
/-- the word that the schedule has at place t, of those before it -/
def nextW (l : List (BitVec 32)) (t : Nat) : BitVec 32 :=
  wAt l (t - 16) + (rotr (wAt l (t - 15)) 7 ^^^ rotr (wAt l (t - 15)) 18 ^^^ wAt l (t - 15) >>> 3) + wAt l (t - 7) + (rotr (wAt l (t - 2)) 17 ^^^ rotr (wAt l (t - 2)) 19 ^^^ wAt l (t - 2) >>> 10)
/-- the schedule's first 16 + k words -/
def schedTo (ws : List (BitVec 32)) : Nat → List (BitVec 32)
  | 0 => ws
  | k + 1 => schedTo ws k ++ [nextW (schedTo ws k) (16 + k)]
theorem schedTo_len (ws : List (BitVec 32)) (h : ws.length = 16) (k : Nat) : (schedTo ws k).length = 16 + k := by
  induction k with
  | zero => exact h
  | succ k ih => simp [schedTo, ih]; omega
/-- the same in an array of 64 -/
def schedPad (ws : List (BitVec 32)) (k : Nat) : List (BitVec 32) := schedTo ws k ++ List.replicate (48 - k) 0
theorem schedPad_len (ws : List (BitVec 32)) (h : ws.length = 16) (k : Nat) (hk : k ≤ 48) : (schedPad ws k).length = 64 := by
  simp [schedPad, schedTo_len ws h]; omega
theorem schedPad_at (ws : List (BitVec 32)) (h : ws.length = 16) (k i : Nat) (hi : i < 16 + k) : wAt (schedPad ws k) i = wAt (schedTo ws k) i := by
  unfold wAt schedPad
  rw [List.getD_eq_getElem?_getD, List.getD_eq_getElem?_getD, List.getElem?_append_left (by rw [schedTo_len ws h]; exact hi)]
theorem schedPad_next (ws : List (BitVec 32)) (h : ws.length = 16) (k : Nat) (hk : k < 48) (v : BitVec 32) (hv : v = nextW (schedTo ws k) (16 + k)) :
    (schedPad ws k).set (16 + k) v = schedPad ws (k + 1) := by
  subst hv
  unfold schedPad
  have hl := schedTo_len ws h k
  rw [List.set_append_right _ _ (by omega), show 16 + k - (schedTo ws k).length = 0 by omega]
  rw [show 48 - k = (48 - (k + 1)) + 1 by omega, List.replicate_succ, List.set_cons_zero]
  simp [schedTo]
/-- W0 to W63 -/
def sched (ws : List (BitVec 32)) : List (BitVec 32) := schedTo ws 48
theorem sched_len (ws : List (BitVec 32)) (h : ws.length = 16) : (sched ws).length = 64 := by
  unfold sched; rw [schedTo_len ws h]
theorem schedPad_all (ws : List (BitVec 32)) : schedPad ws 48 = sched ws := by simp [schedPad, sched]
theorem zeros64 : (#[.int .u32 0, .int .u32 0, .int .u32 0, .int .u32 0, .int .u32 0, .int .u32 0, .int .u32 0, .int .u32 0, .int .u32 0, .int .u32 0, .int .u32 0, .int .u32 0, .int .u32 0, .int .u32 0, .int .u32 0, .int .u32 0, .int .u32 0, .int .u32 0, .int .u32 0, .int .u32 0, .int .u32 0, .int .u32 0, .int .u32 0, .int .u32 0, .int .u32 0, .int .u32 0, .int .u32 0, .int .u32 0, .int .u32 0, .int .u32 0, .int .u32 0, .int .u32 0, .int .u32 0, .int .u32 0, .int .u32 0, .int .u32 0, .int .u32 0, .int .u32 0, .int .u32 0, .int .u32 0, .int .u32 0, .int .u32 0, .int .u32 0, .int .u32 0, .int .u32 0, .int .u32 0, .int .u32 0, .int .u32 0, .int .u32 0, .int .u32 0, .int .u32 0, .int .u32 0, .int .u32 0, .int .u32 0, .int .u32 0, .int .u32 0, .int .u32 0, .int .u32 0, .int .u32 0, .int .u32 0, .int .u32 0, .int .u32 0, .int .u32 0, .int .u32 0] : Array Value) = wcells (List.replicate 64 0) := by
  simp [wcells, wi, List.replicate]
/-- K0 to K63, H0 to H7 -/
def K64 : List (BitVec 32) := [1116352408, 1899447441, 3049323471, 3921009573, 961987163, 1508970993, 2453635748, 2870763221, 3624381080, 310598401, 607225278, 1426881987, 1925078388, 2162078206, 2614888103, 3248222580, 3835390401, 4022224774, 264347078, 604807628, 770255983, 1249150122, 1555081692, 1996064986, 2554220882, 2821834349, 2952996808, 3210313671, 3336571891, 3584528711, 113926993, 338241895, 666307205, 773529912, 1294757372, 1396182291, 1695183700, 1986661051, 2177026350, 2456956037, 2730485921, 2820302411, 3259730800, 3345764771, 3516065817, 3600352804, 4094571909, 275423344, 430227734, 506948616, 659060556, 883997877, 958139571, 1322822218, 1537002063, 1747873779, 1955562222, 2024104815, 2227730452, 2361852424, 2428436474, 2756734187, 3204031479, 3329325298]
def H8 : List (BitVec 32) := [1779033703, 3144134277, 1013904242, 2773480762, 1359893119, 2600822924, 528734635, 1541459225]
/-- the eight words of a round -/
structure V8 where
  a : BitVec 32
  b : BitVec 32
  c : BitVec 32
  d : BitVec 32
  e : BitVec 32
  f : BitVec 32
  g : BitVec 32
  h : BitVec 32
def V8.list (v : V8) : List (BitVec 32) := [v.a, v.b, v.c, v.d, v.e, v.f, v.g, v.h]
def V8.of (l : List (BitVec 32)) : V8 := ⟨wAt l 0, wAt l 1, wAt l 2, wAt l 3, wAt l 4, wAt l 5, wAt l 6, wAt l 7⟩
def t1Of (v : V8) (K W : BitVec 32) : BitVec 32 := v.h + (rotr v.e 6 ^^^ rotr v.e 11 ^^^ rotr v.e 25) + (v.e &&& v.f ^^^ ~~~v.e &&& v.g) + K + W
def t2Of (v : V8) : BitVec 32 := (rotr v.a 2 ^^^ rotr v.a 13 ^^^ rotr v.a 22) + (v.a &&& v.b ^^^ v.a &&& v.c ^^^ v.b &&& v.c)
def step8 (v : V8) (K W : BitVec 32) : V8 := ⟨t1Of v K W + t2Of v, v.a, v.b, v.c, v.d + t1Of v K W, v.e, v.f, v.g⟩
def runTo (v : V8) (ws : List (BitVec 32)) : Nat → V8
  | 0 => v
  | t + 1 => step8 (runTo v ws t) (wAt K64 t) (wAt ws t)
/-- the chaining values after a block of sixteen words -/
def mixW (hs ws : List (BitVec 32)) : List (BitVec 32) := List.zipWith (· + ·) hs (runTo (V8.of hs) (sched ws) 64).list
theorem zeros8 : (#[.int .u32 0, .int .u32 0, .int .u32 0, .int .u32 0, .int .u32 0, .int .u32 0, .int .u32 0, .int .u32 0] : Array Value) = wcells (List.replicate 8 0) := by
  simp [wcells, wi, List.replicate]
/-- the program's tables, where the program keeps them -/
def Tabs (w : World) : Prop := (∀ i, i < 64 → w.cell? ⟨1, i, none⟩ = some (.int .u32 (wi (wAt K64 i)))) ∧ (∀ i, i < 8 → w.cell? ⟨0, i, none⟩ = some (.int .u32 (wi (wAt H8 i)))) ∧ 2 ≤ w.heap.size
theorem Tabs.below {w w' : World} (h : Tabs w) {B : Nat} (hb : Below B w w') (hB : 2 ≤ B) : Tabs w' :=
  ⟨fun i hi => (hb.cell (p := ⟨1, i, none⟩) (by simp; omega)).trans (h.1 i hi), fun i hi => (hb.cell (p := ⟨0, i, none⟩) (by simp; omega)).trans (h.2.1 i hi), by have := hb.size; have := h.2.2; omega⟩
/-- the first j sums, the others as they were -/
def addTo (hs vs : List (BitVec 32)) (j : Nat) : List (BitVec 32) := (List.zipWith (· + ·) hs vs).take j ++ hs.drop j
theorem addTo_len (hs vs : List (BitVec 32)) (h : hs.length = 8) (h2 : vs.length = 8) (j : Nat) (hj : j ≤ 8) : (addTo hs vs j).length = 8 := by
  simp [addTo, h, h2]; omega
theorem addTo_at (hs vs : List (BitVec 32)) (h : hs.length = 8) (h2 : vs.length = 8) (j : Nat) (hj : j < 8) : wAt (addTo hs vs j) j = wAt hs j := by
  unfold wAt addTo
  rw [List.getD_eq_getElem?_getD, List.getD_eq_getElem?_getD, List.getElem?_append_right (by simp [h, h2]; omega)]
  simp [h, h2]
  rw [show j + (j - min j 8) = j by omega]
theorem addTo_set (hs vs : List (BitVec 32)) (h : hs.length = 8) (h2 : vs.length = 8) (j : Nat) (hj : j < 8) :
    (addTo hs vs j).set j (wAt hs j + wAt vs j) = addTo hs vs (j + 1) := by
  have hl : ((List.zipWith (· + ·) hs vs).take j).length = j := by simp [h, h2]; omega
  unfold addTo
  rw [List.set_append_right _ _ (by omega), hl, Nat.sub_self, List.take_succ_eq_append_getElem (by simp [h, h2]; omega), List.drop_eq_getElem_cons (by omega : j < hs.length), List.set_cons_zero]
  simp [wAt, h, h2, hj]
theorem addTo_zero (hs vs : List (BitVec 32)) : addTo hs vs 0 = hs := by simp [addTo]
theorem addTo_all (hs vs : List (BitVec 32)) (h : hs.length = 8) (h2 : vs.length = 8) : addTo hs vs 8 = List.zipWith (· + ·) hs vs := by
  simp [addTo, h, h2, List.take_of_length_le, List.drop_of_length_le]
/-- the low byte of a word -/
def low8 (x : BitVec 32) : UInt8 := UInt8.ofNat x.toNat
theorem wrap8_wi (x : BitVec 32) : IntKind.u8.wrap (wi x) = bi (low8 x) := by
  rw [IntKind.wrap_u8]; unfold bi wi low8; simp
theorem mod8_wi (x : BitVec 32) : wi x % (256 : Int) = bi (low8 x) := (IntKind.wrap_u8 _).symm.trans (wrap8_wi x)
attribute [go_sem] wrap8_wi mod8_wi
/-- byte i of the chaining values -/
def joinAt (hs : List (BitVec 32)) (i : Nat) : UInt8 := low8 (wAt hs (i / 4) >>> (24 - i % 4 * 8))
def joinB (hs : List (BitVec 32)) : List UInt8 := (List.range 32).map (joinAt hs)
theorem joinB_len (hs : List (BitVec 32)) : (joinB hs).length = 32 := by simp [joinB]
def firstB (f : Nat → UInt8) (n k : Nat) : List UInt8 := (List.range n).map fun i => if i < k then f i else 0
theorem firstB_len (f : Nat → UInt8) (n k : Nat) : (firstB f n k).length = n := by simp [firstB]
theorem firstB_set (f : Nat → UInt8) (n k : Nat) : (firstB f n k).set k (f k) = firstB f n (k + 1) := by
  apply List.ext_getElem?
  intro i
  simp only [firstB, List.getElem?_set, List.getElem?_map, List.getElem?_range, List.length_map, List.length_range]
  by_cases h : k = i
  · subst h
    by_cases h2 : k < n <;> simp [h2]
  · simp only [h, if_false]
    by_cases h2 : i < n
    · have : (i < k + 1) = (i < k) := by apply propext; omega
      simp [h2, this]
    · simp [h2]
theorem firstB_zero (f : Nat → UInt8) (n : Nat) : firstB f n 0 = List.replicate n 0 := by
  simp [firstB, List.map_const']
theorem firstB_all (f : Nat → UInt8) (n : Nat) : firstB f n n = (List.range n).map f := by
  apply List.map_congr_left
  intro i hi
  have := List.mem_range.1 hi
  simp [this]
theorem zeros32 : (#[.int .u8 0, .int .u8 0, .int .u8 0, .int .u8 0, .int .u8 0, .int .u8 0, .int .u8 0, .int .u8 0, .int .u8 0, .int .u8 0, .int .u8 0, .int .u8 0, .int .u8 0, .int .u8 0, .int .u8 0, .int .u8 0, .int .u8 0, .int .u8 0, .int .u8 0, .int .u8 0, .int .u8 0, .int .u8 0, .int .u8 0, .int .u8 0, .int .u8 0, .int .u8 0, .int .u8 0, .int .u8 0, .int .u8 0, .int .u8 0, .int .u8 0, .int .u8 0] : Array Value) = bcells (List.replicate 32 0) := by
  simp [bcells, bi, List.replicate]
/-- how the walk writes operations on words -/
theorem wrap_bi (x : UInt8) : IntKind.u32.wrap (bi x) = wi (byteW x) := by
  rw [IntKind.wrap_u32]; unfold bi wi byteW; have := x.toNat_lt; simp; omega
theorem shl_lit (a : BitVec 32) (n : Nat) (c : Int) (h : c = 2 ^ n) : IntKind.u32.wrap (wi a * c) = wi (a <<< n) := by rw [h, wi_shl]
theorem shr_lit (a : BitVec 32) (n : Nat) (c : Int) (h : c = 2 ^ n) : wi a / c = wi (a >>> n) := by rw [h, wi_shr]
theorem shl24 (a : BitVec 32) : IntKind.u32.wrap (wi a * (16777216 : Int)) = wi (a <<< 24) := shl_lit a 24 _ (by decide)
theorem shl16 (a : BitVec 32) : IntKind.u32.wrap (wi a * (65536 : Int)) = wi (a <<< 16) := shl_lit a 16 _ (by decide)
theorem shl8 (a : BitVec 32) : IntKind.u32.wrap (wi a * (256 : Int)) = wi (a <<< 8) := shl_lit a 8 _ (by decide)
theorem shr3 (a : BitVec 32) : wi a / (8 : Int) = wi (a >>> 3) := shr_lit a 3 _ (by decide)
theorem shr10 (a : BitVec 32) : wi a / (1024 : Int) = wi (a >>> 10) := shr_lit a 10 _ (by decide)
theorem shr8 (a : BitVec 32) : wi a / (256 : Int) = wi (a >>> 8) := shr_lit a 8 _ (by decide)
theorem shr16 (a : BitVec 32) : wi a / (65536 : Int) = wi (a >>> 16) := shr_lit a 16 _ (by decide)
theorem shr24 (a : BitVec 32) : wi a / (16777216 : Int) = wi (a >>> 24) := shr_lit a 24 _ (by decide)
theorem shl24m (a : BitVec 32) : (wi a * (16777216 : Int)) % (4294967296 : Int) = wi (a <<< 24) := (IntKind.wrap_u32 _).symm.trans (shl24 a)
theorem shl16m (a : BitVec 32) : (wi a * (65536 : Int)) % (4294967296 : Int) = wi (a <<< 16) := (IntKind.wrap_u32 _).symm.trans (shl16 a)
theorem shl8m (a : BitVec 32) : (wi a * (256 : Int)) % (4294967296 : Int) = wi (a <<< 8) := (IntKind.wrap_u32 _).symm.trans (shl8 a)
theorem wi_addm2 (a b : BitVec 32) : (wi a + wi b) % (4294967296 : Int) = wi (a + b) := (IntKind.wrap_u32 _).symm.trans (wi_add a b)
theorem wi_addm3 (a b c : BitVec 32) : (wi a + wi b + wi c) % (4294967296 : Int) = wi (a + b + c) := by
  rw [← wi_addm2, ← wi_addm2, Int.emod_add_emod]
theorem wi_addm4 (a b c d : BitVec 32) : (wi a + wi b + wi c + wi d) % (4294967296 : Int) = wi (a + b + c + d) := by
  rw [← wi_addm2, ← wi_addm3, Int.emod_add_emod]
theorem wi_addm5 (a b c d e : BitVec 32) : (wi a + wi b + wi c + wi d + wi e) % (4294967296 : Int) = wi (a + b + c + d + e) := by
  rw [← wi_addm2, ← wi_addm4, Int.emod_add_emod]
theorem wi_not (a : BitVec 32) : bits .xor .u32 (if IntKind.u32.signed = true then -1 else IntKind.u32.max) (wi a) = wi (~~~a) := by
  have h : (if IntKind.u32.signed = true then -1 else IntKind.u32.max) = wi (BitVec.allOnes 32) := by decide
  rw [h, wi_xor, BitVec.allOnes_xor]
attribute [go_sem] wi_not
attribute [go_sem] wi_addm2 wi_addm3 wi_addm4 wi_addm5
attribute [go_sem] wrap_bi shl24 shl16 shl8 shl24m shl16m shl8m shr3 shr10 shr8 shr16 shr24 wi_or wi_and wi_xor wi_add
/-- a sum that does not wrap -/
theorem i64_id (n : Int) (h0 : -9223372036854775808 ≤ n) (h1 : n ≤ 9223372036854775807) : IntKind.i64.wrap n = n := by
  rw [IntKind.wrap_i64]; omega
end Go.Proofs.YtdfpjhpkkhdpoaaDoor

/-
  Bytes, numbers, writers and readers in memory.
-/
import Derived.Test.YtcdjilnlmihnhaaDoorRows
import Derived.Test.YtcdjilnlmihnhaaDoorK0
import Derived.Test.YtcdjilnlmihnhaaDoorM1
import Derived.WalkKit
import Derived.WalkSpells
import Derived.WalkLawsBesides
namespace Go.Proofs.YtcdjilnlmihnhaaDoor
open Go.RowKit
theorem heap_alloc_if (w : World) (o : Obj) (i : Nat) : (w.alloc o).heap[i]? = if i = w.heap.size then some o else w.heap[i]? := by
  show (w.heap.push o)[i]? = _
  rw [Array.getElem?_push]
theorem size_alloc1 (w : World) (o : Obj) : (w.alloc o).heap.size = w.heap.size + 1 := by
  show (w.heap.push o).size = _
  simp
theorem heap_new {w : World} {o : Obj} {g : Nat} (h : g = w.heap.size) : (w.alloc o).heap[g]? = some o := by
  rw [heap_alloc_if, if_pos h]
theorem heap_old {w : World} {o o' : Obj} {g : Nat} (h : w.heap[g]? = some o) : (w.alloc o').heap[g]? = some o := by
  have hl : g < w.heap.size := by
    by_cases hl : g < w.heap.size
    · exact hl
    · rw [Array.getElem?_eq_none (by omega)] at h; cases h
  rw [heap_alloc_if, if_neg (by omega), h]
theorem heap_lt {w : World} {o : Obj} {g : Nat} (h : w.heap[g]? = some o) : g < w.heap.size := by
  by_cases hl : g < w.heap.size
  · exact hl
  · rw [Array.getElem?_eq_none (by omega)] at h; cases h
def vals (l : List UInt8) : List Value := l.map fun x => Value.int .u8 (x.toNat : Int)
theorem vals_len (l : List UInt8) : (vals l).length = l.length := by simp [vals]
theorem vals_app (l m : List UInt8) : vals (l ++ m) = vals l ++ vals m := by simp [vals]
theorem vals_one (l : List UInt8) : ∀ u ∈ vals l, u.oneCell' = true := by simp [vals, Value.oneCell']
theorem vals_str (s : ByteArray) : byteCells s = vals s.data.toList := rfl
def ivals (l : List Int) : List Value := l.map (Value.int .i64)
theorem ivals_len (l : List Int) : (ivals l).length = l.length := by simp [ivals]
theorem ivals_app (l m : List Int) : ivals (l ++ m) = ivals l ++ ivals m := by simp [ivals]
theorem ivals_one (l : List Int) : ∀ u ∈ ivals l, u.oneCell' = true := by simp [ivals, Value.oneCell']
theorem info5 : (Tryd.prog.info? 5).map (fun i => (i.zero, i.size, i.bytes)) = some (some (.int .u8 0), 1, 1) := by kernel_rfl
theorem info3 : (Tryd.prog.info? 3).map (fun i => (i.zero, i.size, i.bytes)) = some (some (.int .i64 0), 1, 8) := by kernel_rfl
theorem i64_id (n : Int) (h0 : -9223372036854775808 ≤ n) (h1 : n ≤ 9223372036854775807) : IntKind.i64.wrap n = n := by
  rw [IntKind.wrap_i64]; omega
/-- a slice of bytes -/
def Bs (D : Nat → Prop) (w : World) (a : Option Addr) (n c : Nat) (l : List UInt8) : Prop := l.length = n ∧ Sl D w a n c (vals l) 1
/-- a slice of numbers -/
def Is (D : Nat → Prop) (w : World) (a : Option Addr) (n c : Nat) (l : List Int) : Prop := l.length = n ∧ Sl D w a n c (ivals l) 1
theorem Bs.kept {D S : Nat → Prop} {w w' : World} {a : Option Addr} {n c : Nat} {l : List UInt8} (h : Bs D w a n c l) (hk : Kept S w w') (hd : ∀ b, b < w.heap.size → D b → ¬ S b) : Bs D w' a n c l := ⟨h.1, h.2.kept (by decide) hk hd⟩
theorem Is.kept {D S : Nat → Prop} {w w' : World} {a : Option Addr} {n c : Nat} {l : List Int} (h : Is D w a n c l) (hk : Kept S w w') (hd : ∀ b, b < w.heap.size → D b → ¬ S b) : Is D w' a n c l := ⟨h.1, h.2.kept (by decide) hk hd⟩
theorem Bs.dom {D D' : Nat → Prop} {w : World} {a : Option Addr} {n c : Nat} {l : List UInt8} (h : Bs D w a n c l) (hd : ∀ b, D b → D' b) : Bs D' w a n c l := ⟨h.1, h.2.dom hd⟩
theorem Is.dom {D D' : Nat → Prop} {w : World} {a : Option Addr} {n c : Nat} {l : List Int} (h : Is D w a n c l) (hd : ∀ b, D b → D' b) : Is D' w a n c l := ⟨h.1, h.2.dom hd⟩
/-- from one world of a writer to a later one: nothing but its own blocks has changed, and its row moves to new blocks only -/
structure Link (g : Nat) (k : Option Nat) (w : World) (k' : Option Nat) (w' : World) : Prop where
  fresh : ∀ j, k' = some j → k = some j ∨ w.heap.size ≤ j
  kept : Kept (fun j => j = g ∨ k = some j) w w'
theorem Link.trans {g : Nat} {k k1 k2 : Option Nat} {w w1 w2 : World} (h : Link g k w k1 w1) (h2 : Link g k1 w1 k2 w2) : Link g k w k2 w2 := by
  refine ⟨fun j hj => ?_, h.kept.trans h2.kept (fun j hj ht => ?_)⟩
  · rcases h2.fresh j hj with e | e
    · exact h.fresh j e
    · exact .inr (Nat.le_trans h.kept.size e)
  · rcases ht with e | e
    · exact .inl e
    · rcases h.fresh j e with e | e
      · exact .inr e
      · omega
theorem Link.refl (g : Nat) (k : Option Nat) (w : World) : Link g k w k w := ⟨fun _ h => .inl h, Kept.refl _ _⟩
theorem Link.of_below {g : Nat} {k : Option Nat} {w w' : World} (h : Below w.heap.size w w') : Link g k w k w' := ⟨fun _ h => .inl h, Kept.of_below _ h⟩
theorem one_set {w : World} {g : Nat} {v u : Value} {t : TypeId} (hg : w.heap[g]? = some (.cells #[v] t (0, 0))) : (w.setCell ⟨g, 0, none⟩ u).heap[g]? = some (.cells #[u] t (0, 0)) := by
  rw [heap_setCell_same w g 0 _ _ _ hg]
  rfl
end Go.Proofs.YtcdjilnlmihnhaaDoor

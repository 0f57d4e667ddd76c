/-
  DiskWire: the mathematics; bytes of one's own that grow.
-/
import Derived.Test.YtbnodhcgdgcebaaWA
import Derived.Test.YtbnodhcgdgcebaaU5
import Derived.Laws.CopyOwn
namespace Go.Proofs.Ytbnodhcgdgcebaa
open Go.RowKit
set_option linter.unusedSimpArgs false
set_option linter.unusedVariables false
/-- a slice of bytes of one's own -/
def baccO (v : Value) (l : List UInt8) : Obj := ⟨fun B w => ∃ k, Own w 5 1 k v l.length (vals l) ∧ ∀ j, k = some j → B j, fun {B S w w'} h hk hs => by
  obtain ⟨k, h1, h2⟩ := h
  exact ⟨k, h1.kept hk (fun j hj => hs j (h1.lt j hj) (h2 j hj)), h2⟩⟩
theorem Lv.bacc0 {w0 w : World} {L : List Obj} (h : Lv w0 w L) : Lv w0 w (baccO (.slice none 0 0) [] :: L) :=
  h.cons (Below.refl _ _) (B := fun _ => False) ⟨none, Own.nil _ _ _, (fun _ h => by cases h)⟩ (fun _ h => h.elim)
theorem Lv.baccBytes {w0 w : World} {L : List Obj} (h : Lv w0 w L) {i : Nat} {v : Value} {l : List UInt8} (hi : L[i]? = some (baccO v l)) : Lv w0 w (L.set i (bytesO v l)) := by
  refine h.weaken hi (fun B hB => ?_)
  obtain ⟨k, h1, h2⟩ := hB
  obtain ⟨a, c, hv, hs⟩ := h1.sl
  exact ⟨a, c, hv, rfl, hs.dom (fun b hb => h2 b hb)⟩
theorem wpList_bacc {w0 w : World} {L : List Obj} (h : Lv w0 w L) {i : Nat} {v : Value} {l : List UInt8} (hi : L[i]? = some (baccO v l)) {ops : Array Oper} {rest : List Oper} {o : Oper} {a : Act} {Q : Exit → Act → World → Prop} (hgd : o.guard = none) (s x : Operand)
    (ho : o.op = .call { callee := .builtin .append, args := #[s, x], argTypes := #[32, 32] }) (hs : a.eval s = v) (us : List UInt8) (hx : Src Try.prog 1 32 (a.eval x) us.length (vals us) w) (hb : l.length + us.length ≤ 1000000)
    (K : ∀ v' w', Lv w0 w' (L.set i (baccO v' (l ++ us))) → wpList Try.prog ops Q rest (a.put o.dst v') w') : wpList Try.prog ops Q (o :: rest) a w := by
  obtain ⟨i0, hi0, hz0, hz1, hz2⟩ := info_parts info5
  obtain ⟨B, ⟨k, h1, h2⟩, hlt, _, hset⟩ := h.get hi
  refine wpList_append_any w hgd s x _ _ ho 5 i0 _ 1 1 Try.underlying32 hi0 hz0 hz1 hz2 rfl k v l.length (vals l) hs h1 us.length (vals us) hx (by unfold maxLen; omega) (by omega) ?_
  intro k' v' w' ho' hf' hK' hn'
  refine K v' w' (hset w' _ (fun j => k' = some j) ⟨k', ?_, fun _ h => h⟩ (hK'.mono (fun j _ hj => h2 j hj)) (fun j hj => (hf' j hj).imp (fun e => h2 j e) id) (fun j hj => ho'.lt j hj))
  rw [List.length_append, vals_app]
  exact ho'
theorem run_mk64 (W : World) : (Instr.makeSlice 32 (.int .i64 64) (.int .i64 64)).run Try.prog W = .ok (.slice (some ⟨W.heap.size, 0, none⟩) 64 64) (W.alloc (.cells Z64 5)) := by kernel_rfl
theorem Z64_vals : Z64 = (vals zeroB).toArray := by simp [Z64, zeroB, vals]
theorem Wr.new (w : World) : Wr (w.alloc (.cells #[.slice none 0 0] 77)) w.heap.size none [] := ⟨_, heap_new rfl, Own.nil _ _ _, by simp⟩
/-- some bytes, filled up with zeros -/
def padB (l : List UInt8) : List UInt8 := l ++ zeroB.drop l.length
theorem zeroB_len : zeroB.length = 64 := by simp [zeroB]
theorem padB_len (l : List UInt8) (h : l.length ≤ 64) : (padB l).length = 64 := by
  unfold padB; rw [List.length_append, List.length_drop, zeroB_len]; omega
theorem splice_pad (l : List UInt8) : splice (vals zeroB) 0 (vals l) = vals (padB l) := by
  unfold splice padB
  rw [vals_app, List.take_zero, List.nil_append, Nat.zero_add, vals_len, vals_drop]
/-- what is written to the sectors -/
def blkB (b : List UInt8) (i : Nat) : List UInt8 := padB ((b.drop (i * 64)).take 64)
theorem blkB_len (b : List UInt8) (i : Nat) : (blkB b i).length = 64 := padB_len _ (by rw [List.length_take]; omega)
theorem blkB_get (b : List UInt8) (i j : Nat) (hj : j < 64) : (blkB b i)[j]? = if i * 64 + j < b.length then b[i * 64 + j]? else some 0 := by
  have hl : ((b.drop (i * 64)).take 64).length = min 64 (b.length - i * 64) := by rw [List.length_take, List.length_drop]
  unfold blkB padB
  by_cases h : i * 64 + j < b.length
  · rw [if_pos h, List.getElem?_append_left (by rw [hl]; omega), List.getElem?_take, if_pos hj, List.getElem?_drop]
  · rw [if_neg h, List.getElem?_append_right (by rw [hl]; omega), List.getElem?_drop]
    unfold zeroB
    rw [List.getElem?_replicate, if_pos (by rw [hl]; omega)]
theorem blkB_far (b : List UInt8) (i : Nat) (h : b.length ≤ i * 64) : blkB b i = zeroB := by
  unfold blkB
  rw [List.drop_of_length_le h]
  rfl
def allB (b : List UInt8) (n : Nat) : List UInt8 := ((List.range n).map (blkB b)).flatten
theorem allB_succ (b : List UInt8) (n : Nat) : allB b (n + 1) = allB b n ++ blkB b n := by simp [allB, List.range_succ]
theorem allB_len (b : List UInt8) (n : Nat) : (allB b n).length = 64 * n := by
  induction n with
  | zero => rfl
  | succ n ih => rw [allB_succ, List.length_append, ih, blkB_len]; omega
theorem allB_get (b : List UInt8) (n : Nat) : ∀ j, j < 64 * n → (allB b n)[j]? = if j < b.length then b[j]? else some 0 := by
  induction n with
  | zero => intro j hj; omega
  | succ n ih =>
    intro j hj
    rw [allB_succ]
    by_cases h : j < 64 * n
    · rw [List.getElem?_append_left (by rw [allB_len]; exact h), ih j h]
    · rw [List.getElem?_append_right (by rw [allB_len]; omega), allB_len, blkB_get b n (j - 64 * n) (by omega), show n * 64 + (j - 64 * n) = j by omega]
theorem allB_take (b : List UInt8) (n : Nat) (h : b.length ≤ 64 * n) : (allB b n).take b.length = b := by
  apply List.ext_getElem?
  intro j
  rw [List.getElem?_take]
  by_cases hj : j < b.length
  · rw [if_pos hj, allB_get b n j (by omega), if_pos hj]
  · rw [if_neg hj, List.getElem?_eq_none (by omega)]
/-- the disk when the first i sectors have been written -/
def wr0 (b : List UInt8) : Nat → DM
  | 0 => DM.new 16
  | i + 1 => (wr0 b i).write i (blkB b i)
theorem wr0_fuse (b : List UInt8) (i : Nat) : (wr0 b i).fuse = 0 := by
  induction i with
  | zero => rfl
  | succ i ih => exact (write_fuse ih).trans ih
theorem wr0_on (b : List UInt8) (i : Nat) : (wr0 b i).on = true := by
  induction i with
  | zero => rfl
  | succ i ih => exact (write_on (wr0_fuse b i)).trans ih
theorem wr0_len (b : List UInt8) (i : Nat) : (wr0 b i).S.length = 16 := by
  induction i with
  | zero => simp [wr0, DM.new]
  | succ i ih => exact (write_len _ _ _).trans ih
theorem wr0_ok (b : List UInt8) (i : Nat) : (wr0 b i).Ok i := by
  induction i with
  | zero => exact DM.new_ok (by omega) (by omega)
  | succ i ih => exact DM.write_ok ih (blkB_len b i)
theorem write_get (d : DM) (k : Nat) (l : List UInt8) (j : Nat) : (d.write k l).S[j]? = if k = j then d.S[j]?.map (· ++ [l]) else d.S[j]? := by
  unfold DM.write
  rw [DM.burn_S]
  simp only [List.getElem?_modify]
  split <;> simp
theorem wr0_get (b : List UInt8) (i k : Nat) (hk : k < 16) : (wr0 b i).S[k]? = some (if k < i then [zeroB, blkB b k] else [zeroB]) := by
  induction i with
  | zero =>
    show (List.replicate 16 [zeroB])[k]? = _
    rw [List.getElem?_replicate, if_pos hk, if_neg (by omega)]
  | succ i ih =>
    show ((wr0 b i).write i (blkB b i)).S[k]? = _
    rw [write_get, ih]
    by_cases e : i = k
    · subst e; simp
    · rw [if_neg e]
      by_cases h : k < i
      · rw [if_pos h, if_pos (by omega)]
      · rw [if_neg h, if_neg (by omega)]
/-- the first eight sectors have the blocks, flushed -/
def Has8 (b : List UInt8) (d : DM) : Prop := ∀ k, k < 8 → d.S[k]? = some [blkB b k]
theorem has8_flush (b : List UInt8) (i : Nat) (h : b.length ≤ i * 64) : Has8 b (wr0 b i).flush := by
  intro k hk
  unfold DM.flush
  rw [DM.burn_S]
  simp only [List.getElem?_map, wr0_get b i k (by omega), Option.map_some]
  by_cases hi : k < i
  · rw [if_pos hi]; rfl
  · rw [if_neg hi, blkB_far b k (Nat.le_trans h (Nat.mul_le_mul_right _ (by omega)))]; rfl
theorem Has8.write {b : List UInt8} {d : DM} (h : Has8 b d) {k : Nat} (hk : 8 ≤ k) (l : List UInt8) : Has8 b (d.write k l) := by
  intro j hj
  rw [write_get, if_neg (by omega)]
  exact h j hj
theorem setFuse_S (d : DM) (n : Int) : (d.setFuse n).S = d.S := by unfold DM.setFuse; split <;> rfl
theorem Has8.restart {b : List UInt8} {d : DM} (h : Has8 b d) (ts : List TM) (k : Nat) (hk : k < 8) (h2 : k < (d.restart ts).S.length) : lastB ((d.restart ts).S[k]'h2) = blkB b k := by
  have hd : k < d.S.length := by rw [restart_len] at h2; exact h2
  have e : d.S[k] = [blkB b k] := Option.some.inj ((List.getElem?_eq_getElem hd).symm.trans (h k hk))
  rw [restart_get d ts k hd h2, e]
  cases firstOf ts k with
  | none => rfl
  | some t => simp [surv]
theorem encL_pos (z : List Int) : 0 < (encL z).length := by
  unfold encL
  have := encU_len_pos z.length
  rw [List.length_append]; omega
theorem encL_le (z : List Int) (h : Ok64 z) (hz : z.length ≤ 30) : (encL z).length ≤ 310 := by
  unfold encL
  have h1 := encU_len10 z.length (by omega)
  have h2 := encIs_len z h
  rw [List.length_append]; omega
theorem rUint_enc (n : Nat) (r : List UInt8) (h : n < 18446744073709551616) : rUint ⟨encU n ++ r, 0⟩ = (n, ⟨r, 0⟩) := by
  rw [rUint_ok _ rfl]
  have := fnum_enc n r 0 0 (by simpa using h) (by omega) (by omega)
  simp only [this, Nat.zero_add, Nat.pow_zero, Nat.mul_one, List.drop_left]
theorem rInt_enc (n : Int) (r : List UInt8) (h1 : -9223372036854775808 ≤ n) (h2 : n ≤ 9223372036854775807) : rInt ⟨encI n ++ r, 0⟩ = (n, ⟨r, 0⟩) := by
  unfold rInt encI
  rw [rUint_enc _ _ (zig_lt n h1 h2)]
  simp only [zag_zig]
theorem rLen_enc (n : Nat) (r : List UInt8) (most : Int) (h : n < 18446744073709551616) (hm : (n : Int) ≤ most) : rLen ⟨encU n ++ r, 0⟩ most = (n, ⟨r, 0⟩) := by
  unfold rLen
  rw [rUint_enc n r h, if_neg (by simp only; omega)]
theorem rIntsGo_enc (l : List Int) : ∀ (acc : List Int) (r : List UInt8), Ok64 l → rIntsGo l.length acc ⟨l.flatMap encI ++ r, 0⟩ = (acc ++ l, ⟨r, 0⟩) := by
  induction l with
  | nil => intro acc r _; simp [rIntsGo]
  | cons x t ih =>
    intro acc r h
    have hx := h x (by simp)
    have ht : Ok64 t := fun y hy => h y (by simp [hy])
    rw [List.flatMap_cons, List.length_cons, rIntsGo, List.append_assoc, rInt_enc x _ hx.1 hx.2, if_pos rfl, ih _ _ ht]
    simp
theorem rInts_enc (l : List Int) (r : List UInt8) (most : Int) (h : Ok64 l) (hl : l.length < 18446744073709551616) (hm : (l.length : Int) ≤ most) : rInts ⟨encL l ++ r, 0⟩ most = (l, ⟨r, 0⟩) := by
  unfold rInts encL
  rw [List.append_assoc, rLen_enc _ _ most hl hm]
  simpa using rIntsGo_enc l [] r h
end Go.Proofs.Ytbnodhcgdgcebaa

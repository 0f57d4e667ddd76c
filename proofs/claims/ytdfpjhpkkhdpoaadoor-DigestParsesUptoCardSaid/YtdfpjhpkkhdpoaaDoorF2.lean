/-
  The reference's schedule.
-/
import Derived.Test.YtdfpjhpkkhdpoaaDoorF1
namespace Go.Proofs.YtdfpjhpkkhdpoaaDoor
open Go.RowKit
set_option linter.unusedSimpArgs false
set_option linter.unusedVariables false
/-- the schedule's array after k words -/
def schP (b : List UInt8) (k : Nat) : List (BitVec 32) := if k ≤ 16 then firstW (wordAt b) 64 k else schedPad (wordsOf b) (k - 16)
theorem wordsOf_len (b : List UInt8) : (wordsOf b).length = 16 := by simp [wordsOf]
theorem schP_16 (b : List UInt8) : firstW (wordAt b) 64 16 = schedPad (wordsOf b) 0 := by
  simp [firstW, schedPad, schedTo, wordsOf, List.range_succ]
theorem schP_len (b : List UInt8) (k : Nat) (h : k ≤ 64) : (schP b k).length = 64 := by
  unfold schP
  split
  · exact firstW_len _ _ _
  · exact schedPad_len _ (wordsOf_len b) _ (by omega)
theorem schP_lo (b : List UInt8) (k : Nat) (h : k < 16) : (schP b k).set k (wordAt b k) = schP b (k + 1) := by
  unfold schP
  rw [if_pos (by omega), if_pos (by omega), firstW_set]
theorem schP_hi (b : List UInt8) (k : Nat) (h : 16 ≤ k) (h2 : k < 64) : (schP b k).set k (nextW (schedTo (wordsOf b) (k - 16)) k) = schP b (k + 1) := by
  have e : schP b k = schedPad (wordsOf b) (k - 16) := by
    unfold schP
    by_cases hk : k = 16
    · subst hk; rw [if_pos (by omega), schP_16]
    · rw [if_neg (by omega)]
  rw [e]
  have := schedPad_next (wordsOf b) (wordsOf_len b) (k - 16) (by omega) (nextW (schedTo (wordsOf b) (k - 16)) k) (by rw [show 16 + (k - 16) = k by omega])
  rw [show 16 + (k - 16) = k by omega] at this
  rw [this]
  unfold schP
  rw [if_neg (by omega), show k + 1 - 16 = k - 16 + 1 by omega]
theorem schP_at (b : List UInt8) (k i : Nat) (h : 16 ≤ k) (hi : i < k) : wAt (schP b k) i = wAt (schedTo (wordsOf b) (k - 16)) i := by
  have e : schP b k = schedPad (wordsOf b) (k - 16) := by
    unfold schP
    by_cases hk : k = 16
    · subst hk; rw [if_pos (by omega), schP_16]
    · rw [if_neg (by omega)]
  rw [e, schedPad_at _ (wordsOf_len b) _ _ (by omega)]
theorem schP_zero (b : List UInt8) : schP b 0 = List.replicate 64 0 := by
  unfold schP; rw [if_pos (by omega), firstW_zero]
theorem schP_all (b : List UInt8) : schP b 64 = sched (wordsOf b) := by
  unfold schP; rw [if_neg (by omega)]; exact schedPad_all _
theorem Bs_cell {w : World} {a : Option Addr} {n c : Nat} {l : List UInt8} (h : Bs w a n c l) (hn : 0 < n) : ∃ b off, a = some ⟨b, off, none⟩ ∧ b < w.heap.size ∧ ∀ i, i < n → w.cell? ⟨b, off + i, none⟩ = some (.int .u8 (bi (byteAt l i))) := by
  obtain ⟨b, off, ha, hc⟩ := h.2.2.2.2 hn
  exact ⟨b, off, ha, block_lt_of_cell (hc 0 hn), hc⟩
set_option maxRecDepth 100000 in
set_option maxHeartbeats 2000000 in
theorem rsched_any (a : Option Addr) (c : Nat) (l : List UInt8) (w : World) (hB : Bs w a 64 c l) :
    Calls Tryd.prog 47 #[.slice a 64 c] w fun e w' => e = .returned (.agg (wcells (sched (wordsOf l)))) ∧ Below w.heap.size w w' := by
  obtain ⟨bb, bo, rfl, hbl, hbc⟩ := Bs_cell hB (by omega)
  have HC := Lib.hid hbc
  have hc64 : c ≤ 9223372036854775807 := hB.2.2.1
  clear hB hbc
  go_enter Tryd.func47, Tryd.ntmps47
  go_wp2
  rw [zeros64]
  go_loopw [4, 5, 6] (fun i _ _ wr => ∃ k : Nat, k ≤ 64 ∧ i = .int .i64 (k : Int) ∧
      wr.heap[w.heap.size]? = some (.cells (wcells (List.replicate 64 0)) 74 (0, 0)) ∧ wr.heap[w.heap.size + 1]? = some (.cells (wcells (schP l k)) 74 (0, 0)) ∧ Below w.heap.size w wr)
    (fun i _ _ _ => 64 - (intOf i).toNat)
  case atStart =>
    refine ⟨0, by omega, rfl, heap_old (heap_new rfl), ?_, ((Below.refl _ _).alloc (Nat.le_refl _) _).alloc (by simp) _⟩
    rw [schP_zero]; exact heap_new (by simp only [size_alloc1])
  case round =>
    obtain ⟨k, hk, rfl, hB1, hB2, hbel⟩ := hrel
    have hp := schP_len l k hk
    have Hp := Lib.hid hp
    by_cases hlt : k < 64
    · have HB2 := Lib.hid hB2
      have HB1 := Lib.hid hB1
      have HB := Lib.hid hbel
      clear hB2 hB1 hbel hp
      have dlt : decide ((k : Int) < 64) = true := by simp; omega
      by_cases hlo : k < 16
      · have dlo : decide ((k : Int) < 16) = true := by simp; omega
        go_upto_region 6 with (fail)
        have e0 : IntKind.i64.wrap (4 * (k : Int)) = 4 * (k : Int) := i64_id _ (by omega) (by omega)
        have e1 : IntKind.i64.wrap (4 * (k : Int) + 1) = 4 * (k : Int) + 1 := i64_id _ (by omega) (by omega)
        have e2 : IntKind.i64.wrap (4 * (k : Int) + 2) = 4 * (k : Int) + 2 := i64_id _ (by omega) (by omega)
        have e3 : IntKind.i64.wrap (4 * (k : Int) + 3) = 4 * (k : Int) + 3 := i64_id _ (by omega) (by omega)
        have n0 : (4 * (k : Int)).toNat = 4 * k := by omega
        have n1 : (4 * (k : Int) + 1).toNat = 4 * k + 1 := by omega
        have n2 : (4 * (k : Int) + 2).toNat = 4 * k + 2 := by omega
        have n3 : (4 * (k : Int) + 3).toNat = 4 * k + 3 := by omega
        have p0 : 0 ≤ 4 * (k : Int) := by omega
        have p1 : 0 ≤ 4 * (k : Int) + 1 := by omega
        have p2 : 0 ≤ 4 * (k : Int) + 2 := by omega
        have p3 : 0 ≤ 4 * (k : Int) + 3 := by omega
        have q0 : 4 * (k : Int) < 64 := by omega
        have q1 : 4 * (k : Int) + 1 < 64 := by omega
        have q2 : 4 * (k : Int) + 2 < 64 := by omega
        have q3 : 4 * (k : Int) + 3 < 64 := by omega
        refine Roll.region_l 35 [some 13, some 14, some 15, some 16, some 17, some 18, some 19, some 20, some 21, some 22, some 23, some 24, some 25, some 26, some 27, some 28, some 29, some 30, some 31, some 32, some 33, some 34, some 35, some 36, some 37, some 38, some 39, some 40, some 41, some 42, some 43, some 44, some 45, some 46, some 47, none] [[], [], [], [2], [1, 3], [4], [5], [6], [], [], [9], [10], [8, 11], [12], [13], [14], [7, 15], [], [], [18], [19], [17, 20], [21], [22], [23], [16, 24], [], [], [27], [28], [26, 29], [30], [31], [25, 32], [0], [34, 33]] (fun p => p.heap[w.heap.size]? = some (.cells (wcells (List.replicate 64 0)) 74 (0, 0)) ∧ p.heap[w.heap.size + 1]? = some (.cells (wcells (schP l k)) 74 (0, 0)) ∧ Below w.heap.size w p) (fun _ _ => True) [fun v p => v = .int .i64 (k : Int), fun v p => v = .slice (some ⟨bb, bo, none⟩) 64 c, fun v p => v = .int .i64 (k : Int), fun v p => v = .int .i64 (4 * (k : Int)), fun v p => v = .pointer (some ⟨bb, bo + (4 * k), none⟩), fun v p => v = .int .u8 (bi (byteAt l (4 * k))), fun v p => v = .int .u32 (wi (byteW (byteAt l (4 * k)))), fun v p => v = .int .u32 (wi (byteW (byteAt l (4 * k)) <<< 24)), fun v p => v = .slice (some ⟨bb, bo, none⟩) 64 c, fun v p => v = .int .i64 (k : Int), fun v p => v = .int .i64 (4 * (k : Int)), fun v p => v = .int .i64 (4 * (k : Int) + 1), fun v p => v = .pointer (some ⟨bb, bo + (4 * k + 1), none⟩), fun v p => v = .int .u8 (bi (byteAt l (4 * k + 1))), fun v p => v = .int .u32 (wi (byteW (byteAt l (4 * k + 1)))), fun v p => v = .int .u32 (wi (byteW (byteAt l (4 * k + 1)) <<< 16)), fun v p => v = .int .u32 (wi (byteW (byteAt l (4 * k)) <<< 24 ||| byteW (byteAt l (4 * k + 1)) <<< 16)), fun v p => v = .slice (some ⟨bb, bo, none⟩) 64 c, fun v p => v = .int .i64 (k : Int), fun v p => v = .int .i64 (4 * (k : Int)), fun v p => v = .int .i64 (4 * (k : Int) + 2), fun v p => v = .pointer (some ⟨bb, bo + (4 * k + 2), none⟩), fun v p => v = .int .u8 (bi (byteAt l (4 * k + 2))), fun v p => v = .int .u32 (wi (byteW (byteAt l (4 * k + 2)))), fun v p => v = .int .u32 (wi (byteW (byteAt l (4 * k + 2)) <<< 8)), fun v p => v = .int .u32 (wi (byteW (byteAt l (4 * k)) <<< 24 ||| byteW (byteAt l (4 * k + 1)) <<< 16 ||| byteW (byteAt l (4 * k + 2)) <<< 8)), fun v p => v = .slice (some ⟨bb, bo, none⟩) 64 c, fun v p => v = .int .i64 (k : Int), fun v p => v = .int .i64 (4 * (k : Int)), fun v p => v = .int .i64 (4 * (k : Int) + 3), fun v p => v = .pointer (some ⟨bb, bo + (4 * k + 3), none⟩), fun v p => v = .int .u8 (bi (byteAt l (4 * k + 3))), fun v p => v = .int .u32 (wi (byteW (byteAt l (4 * k + 3)))), fun v p => v = .int .u32 (wi (wordAt l k)), fun v p => v = .pointer (some ⟨w.heap.size + 1, k, none⟩)] (by kernel_rfl) (by kernel_rfl) (⟨HB1.out, HB2.out, HB.out.drew⟩) ?_ ?_ ?_
        · exact ⟨fun _ _ _ _ h => h, fun _ _ _ _ h => h, fun _ _ _ _ h => h, fun _ _ _ _ h => h, fun _ _ _ _ h => h, fun _ _ _ _ h => h, fun _ _ _ _ h => h, fun _ _ _ _ h => h, fun _ _ _ _ h => h, fun _ _ _ _ h => h, fun _ _ _ _ h => h, fun _ _ _ _ h => h, fun _ _ _ _ h => h, fun _ _ _ _ h => h, fun _ _ _ _ h => h, fun _ _ _ _ h => h, fun _ _ _ _ h => h, fun _ _ _ _ h => h, fun _ _ _ _ h => h, fun _ _ _ _ h => h, fun _ _ _ _ h => h, fun _ _ _ _ h => h, fun _ _ _ _ h => h, fun _ _ _ _ h => h, fun _ _ _ _ h => h, fun _ _ _ _ h => h, fun _ _ _ _ h => h, fun _ _ _ _ h => h, fun _ _ _ _ h => h, fun _ _ _ _ h => h, fun _ _ _ _ h => h, fun _ _ _ _ h => h, fun _ _ _ _ h => h, fun _ _ _ _ h => h, fun _ _ _ _ h => h, trivial⟩
        · refine ⟨?_, ?_, ?_, ?_, ?_, ?_, ?_, ?_, ?_, ?_, ?_, ?_, ?_, ?_, ?_, ?_, ?_, ?_, ?_, ?_, ?_, ?_, ?_, ?_, ?_, ?_, ?_, ?_, ?_, ?_, ?_, ?_, ?_, ?_, ?_, trivial⟩
          · intro vals p hI hp
            clear hp
            simp only [Roll.Goes, List.range_succ, List.range_zero, List.nil_append, List.cons_append, Roll.putD, Act.put, List.getD_cons_zero, List.getD_cons_succ, List.setIfInBounds_toArray, List.set_cons_zero, List.set_cons_succ, List.drop_succ_cons, List.drop_zero]
            go_wp2_with fail
            exact ⟨_, rfl, hI, trivial, rfl⟩
          · intro vals p hI hp
            clear hp
            simp only [Roll.Goes, List.range_succ, List.range_zero, List.nil_append, List.cons_append, Roll.putD, Act.put, List.getD_cons_zero, List.getD_cons_succ, List.setIfInBounds_toArray, List.set_cons_zero, List.set_cons_succ, List.drop_succ_cons, List.drop_zero]
            go_wp2_with fail
            exact ⟨_, rfl, hI, trivial, rfl⟩
          · intro vals p hI hp
            clear hp
            simp only [Roll.Goes, List.range_succ, List.range_zero, List.nil_append, List.cons_append, Roll.putD, Act.put, List.getD_cons_zero, List.getD_cons_succ, List.setIfInBounds_toArray, List.set_cons_zero, List.set_cons_succ, List.drop_succ_cons, List.drop_zero]
            go_wp2_with fail
            exact ⟨_, rfl, hI, trivial, rfl⟩
          · intro vals p hI hp
            have h2 : (vals 2) = .int .i64 (k : Int) := hp 2 (by simp)
            clear hp
            simp only [Roll.Goes, List.range_succ, List.range_zero, List.nil_append, List.cons_append, Roll.putD, Act.put, List.getD_cons_zero, List.getD_cons_succ, List.setIfInBounds_toArray, List.set_cons_zero, List.set_cons_succ, List.drop_succ_cons, List.drop_zero, h2]
            go_wp2_with fail
            exact ⟨_, rfl, hI, trivial, rfl⟩
          · intro vals p hI hp
            have h1 : (vals 1) = .slice (some ⟨bb, bo, none⟩) 64 c := hp 1 (by simp)
            have h3 : (vals 3) = .int .i64 (4 * (k : Int)) := hp 3 (by simp)
            clear hp
            simp only [Roll.Goes, List.range_succ, List.range_zero, List.nil_append, List.cons_append, Roll.putD, Act.put, List.getD_cons_zero, List.getD_cons_succ, List.setIfInBounds_toArray, List.set_cons_zero, List.set_cons_succ, List.drop_succ_cons, List.drop_zero, h1, h3]
            go_wp2_with fail
            exact ⟨_, rfl, hI, trivial, rfl⟩
          · intro vals p hI hp
            have h4 : (vals 4) = .pointer (some ⟨bb, bo + (4 * k), none⟩) := hp 4 (by simp)
            clear hp
            have cc := (hI.2.2.cell (p := ⟨bb, bo + (4 * k), none⟩) hbl).trans (HC.out (4 * k) (by omega))
            simp only [Roll.Goes, List.range_succ, List.range_zero, List.nil_append, List.cons_append, Roll.putD, Act.put, List.getD_cons_zero, List.getD_cons_succ, List.setIfInBounds_toArray, List.set_cons_zero, List.set_cons_succ, List.drop_succ_cons, List.drop_zero, h4]
            go_wp2_with fail
            exact ⟨_, rfl, hI, trivial, rfl⟩
          · intro vals p hI hp
            have h5 : (vals 5) = .int .u8 (bi (byteAt l (4 * k))) := hp 5 (by simp)
            clear hp
            simp only [Roll.Goes, List.range_succ, List.range_zero, List.nil_append, List.cons_append, Roll.putD, Act.put, List.getD_cons_zero, List.getD_cons_succ, List.setIfInBounds_toArray, List.set_cons_zero, List.set_cons_succ, List.drop_succ_cons, List.drop_zero, h5]
            go_wp2_with fail
            exact ⟨_, rfl, hI, trivial, rfl⟩
          · intro vals p hI hp
            have h6 : (vals 6) = .int .u32 (wi (byteW (byteAt l (4 * k)))) := hp 6 (by simp)
            clear hp
            simp only [Roll.Goes, List.range_succ, List.range_zero, List.nil_append, List.cons_append, Roll.putD, Act.put, List.getD_cons_zero, List.getD_cons_succ, List.setIfInBounds_toArray, List.set_cons_zero, List.set_cons_succ, List.drop_succ_cons, List.drop_zero, h6]
            go_wp2_with fail
            exact ⟨_, rfl, hI, trivial, rfl⟩
          · intro vals p hI hp
            clear hp
            simp only [Roll.Goes, List.range_succ, List.range_zero, List.nil_append, List.cons_append, Roll.putD, Act.put, List.getD_cons_zero, List.getD_cons_succ, List.setIfInBounds_toArray, List.set_cons_zero, List.set_cons_succ, List.drop_succ_cons, List.drop_zero]
            go_wp2_with fail
            exact ⟨_, rfl, hI, trivial, rfl⟩
          · intro vals p hI hp
            clear hp
            simp only [Roll.Goes, List.range_succ, List.range_zero, List.nil_append, List.cons_append, Roll.putD, Act.put, List.getD_cons_zero, List.getD_cons_succ, List.setIfInBounds_toArray, List.set_cons_zero, List.set_cons_succ, List.drop_succ_cons, List.drop_zero]
            go_wp2_with fail
            exact ⟨_, rfl, hI, trivial, rfl⟩
          · intro vals p hI hp
            have h9 : (vals 9) = .int .i64 (k : Int) := hp 9 (by simp)
            clear hp
            simp only [Roll.Goes, List.range_succ, List.range_zero, List.nil_append, List.cons_append, Roll.putD, Act.put, List.getD_cons_zero, List.getD_cons_succ, List.setIfInBounds_toArray, List.set_cons_zero, List.set_cons_succ, List.drop_succ_cons, List.drop_zero, h9]
            go_wp2_with fail
            exact ⟨_, rfl, hI, trivial, rfl⟩
          · intro vals p hI hp
            have h10 : (vals 10) = .int .i64 (4 * (k : Int)) := hp 10 (by simp)
            clear hp
            simp only [Roll.Goes, List.range_succ, List.range_zero, List.nil_append, List.cons_append, Roll.putD, Act.put, List.getD_cons_zero, List.getD_cons_succ, List.setIfInBounds_toArray, List.set_cons_zero, List.set_cons_succ, List.drop_succ_cons, List.drop_zero, h10]
            go_wp2_with fail
            exact ⟨_, rfl, hI, trivial, rfl⟩
          · intro vals p hI hp
            have h8 : (vals 8) = .slice (some ⟨bb, bo, none⟩) 64 c := hp 8 (by simp)
            have h11 : (vals 11) = .int .i64 (4 * (k : Int) + 1) := hp 11 (by simp)
            clear hp
            simp only [Roll.Goes, List.range_succ, List.range_zero, List.nil_append, List.cons_append, Roll.putD, Act.put, List.getD_cons_zero, List.getD_cons_succ, List.setIfInBounds_toArray, List.set_cons_zero, List.set_cons_succ, List.drop_succ_cons, List.drop_zero, h8, h11]
            go_wp2_with fail
            exact ⟨_, rfl, hI, trivial, rfl⟩
          · intro vals p hI hp
            have h12 : (vals 12) = .pointer (some ⟨bb, bo + (4 * k + 1), none⟩) := hp 12 (by simp)
            clear hp
            have cc := (hI.2.2.cell (p := ⟨bb, bo + (4 * k + 1), none⟩) hbl).trans (HC.out (4 * k + 1) (by omega))
            simp only [Roll.Goes, List.range_succ, List.range_zero, List.nil_append, List.cons_append, Roll.putD, Act.put, List.getD_cons_zero, List.getD_cons_succ, List.setIfInBounds_toArray, List.set_cons_zero, List.set_cons_succ, List.drop_succ_cons, List.drop_zero, h12]
            go_wp2_with fail
            exact ⟨_, rfl, hI, trivial, rfl⟩
          · intro vals p hI hp
            have h13 : (vals 13) = .int .u8 (bi (byteAt l (4 * k + 1))) := hp 13 (by simp)
            clear hp
            simp only [Roll.Goes, List.range_succ, List.range_zero, List.nil_append, List.cons_append, Roll.putD, Act.put, List.getD_cons_zero, List.getD_cons_succ, List.setIfInBounds_toArray, List.set_cons_zero, List.set_cons_succ, List.drop_succ_cons, List.drop_zero, h13]
            go_wp2_with fail
            exact ⟨_, rfl, hI, trivial, rfl⟩
          · intro vals p hI hp
            have h14 : (vals 14) = .int .u32 (wi (byteW (byteAt l (4 * k + 1)))) := hp 14 (by simp)
            clear hp
            simp only [Roll.Goes, List.range_succ, List.range_zero, List.nil_append, List.cons_append, Roll.putD, Act.put, List.getD_cons_zero, List.getD_cons_succ, List.setIfInBounds_toArray, List.set_cons_zero, List.set_cons_succ, List.drop_succ_cons, List.drop_zero, h14]
            go_wp2_with fail
            exact ⟨_, rfl, hI, trivial, rfl⟩
          · intro vals p hI hp
            have h7 : (vals 7) = .int .u32 (wi (byteW (byteAt l (4 * k)) <<< 24)) := hp 7 (by simp)
            have h15 : (vals 15) = .int .u32 (wi (byteW (byteAt l (4 * k + 1)) <<< 16)) := hp 15 (by simp)
            clear hp
            simp only [Roll.Goes, List.range_succ, List.range_zero, List.nil_append, List.cons_append, Roll.putD, Act.put, List.getD_cons_zero, List.getD_cons_succ, List.setIfInBounds_toArray, List.set_cons_zero, List.set_cons_succ, List.drop_succ_cons, List.drop_zero, h7, h15]
            go_wp2_with fail
            exact ⟨_, rfl, hI, trivial, rfl⟩
          · intro vals p hI hp
            clear hp
            simp only [Roll.Goes, List.range_succ, List.range_zero, List.nil_append, List.cons_append, Roll.putD, Act.put, List.getD_cons_zero, List.getD_cons_succ, List.setIfInBounds_toArray, List.set_cons_zero, List.set_cons_succ, List.drop_succ_cons, List.drop_zero]
            go_wp2_with fail
            exact ⟨_, rfl, hI, trivial, rfl⟩
          · intro vals p hI hp
            clear hp
            simp only [Roll.Goes, List.range_succ, List.range_zero, List.nil_append, List.cons_append, Roll.putD, Act.put, List.getD_cons_zero, List.getD_cons_succ, List.setIfInBounds_toArray, List.set_cons_zero, List.set_cons_succ, List.drop_succ_cons, List.drop_zero]
            go_wp2_with fail
            exact ⟨_, rfl, hI, trivial, rfl⟩
          · intro vals p hI hp
            have h18 : (vals 18) = .int .i64 (k : Int) := hp 18 (by simp)
            clear hp
            simp only [Roll.Goes, List.range_succ, List.range_zero, List.nil_append, List.cons_append, Roll.putD, Act.put, List.getD_cons_zero, List.getD_cons_succ, List.setIfInBounds_toArray, List.set_cons_zero, List.set_cons_succ, List.drop_succ_cons, List.drop_zero, h18]
            go_wp2_with fail
            exact ⟨_, rfl, hI, trivial, rfl⟩
          · intro vals p hI hp
            have h19 : (vals 19) = .int .i64 (4 * (k : Int)) := hp 19 (by simp)
            clear hp
            simp only [Roll.Goes, List.range_succ, List.range_zero, List.nil_append, List.cons_append, Roll.putD, Act.put, List.getD_cons_zero, List.getD_cons_succ, List.setIfInBounds_toArray, List.set_cons_zero, List.set_cons_succ, List.drop_succ_cons, List.drop_zero, h19]
            go_wp2_with fail
            exact ⟨_, rfl, hI, trivial, rfl⟩
          · intro vals p hI hp
            have h17 : (vals 17) = .slice (some ⟨bb, bo, none⟩) 64 c := hp 17 (by simp)
            have h20 : (vals 20) = .int .i64 (4 * (k : Int) + 2) := hp 20 (by simp)
            clear hp
            simp only [Roll.Goes, List.range_succ, List.range_zero, List.nil_append, List.cons_append, Roll.putD, Act.put, List.getD_cons_zero, List.getD_cons_succ, List.setIfInBounds_toArray, List.set_cons_zero, List.set_cons_succ, List.drop_succ_cons, List.drop_zero, h17, h20]
            go_wp2_with fail
            exact ⟨_, rfl, hI, trivial, rfl⟩
          · intro vals p hI hp
            have h21 : (vals 21) = .pointer (some ⟨bb, bo + (4 * k + 2), none⟩) := hp 21 (by simp)
            clear hp
            have cc := (hI.2.2.cell (p := ⟨bb, bo + (4 * k + 2), none⟩) hbl).trans (HC.out (4 * k + 2) (by omega))
            simp only [Roll.Goes, List.range_succ, List.range_zero, List.nil_append, List.cons_append, Roll.putD, Act.put, List.getD_cons_zero, List.getD_cons_succ, List.setIfInBounds_toArray, List.set_cons_zero, List.set_cons_succ, List.drop_succ_cons, List.drop_zero, h21]
            go_wp2_with fail
            exact ⟨_, rfl, hI, trivial, rfl⟩
          · intro vals p hI hp
            have h22 : (vals 22) = .int .u8 (bi (byteAt l (4 * k + 2))) := hp 22 (by simp)
            clear hp
            simp only [Roll.Goes, List.range_succ, List.range_zero, List.nil_append, List.cons_append, Roll.putD, Act.put, List.getD_cons_zero, List.getD_cons_succ, List.setIfInBounds_toArray, List.set_cons_zero, List.set_cons_succ, List.drop_succ_cons, List.drop_zero, h22]
            go_wp2_with fail
            exact ⟨_, rfl, hI, trivial, rfl⟩
          · intro vals p hI hp
            have h23 : (vals 23) = .int .u32 (wi (byteW (byteAt l (4 * k + 2)))) := hp 23 (by simp)
            clear hp
            simp only [Roll.Goes, List.range_succ, List.range_zero, List.nil_append, List.cons_append, Roll.putD, Act.put, List.getD_cons_zero, List.getD_cons_succ, List.setIfInBounds_toArray, List.set_cons_zero, List.set_cons_succ, List.drop_succ_cons, List.drop_zero, h23]
            go_wp2_with fail
            exact ⟨_, rfl, hI, trivial, rfl⟩
          · intro vals p hI hp
            have h16 : (vals 16) = .int .u32 (wi (byteW (byteAt l (4 * k)) <<< 24 ||| byteW (byteAt l (4 * k + 1)) <<< 16)) := hp 16 (by simp)
            have h24 : (vals 24) = .int .u32 (wi (byteW (byteAt l (4 * k + 2)) <<< 8)) := hp 24 (by simp)
            clear hp
            simp only [Roll.Goes, List.range_succ, List.range_zero, List.nil_append, List.cons_append, Roll.putD, Act.put, List.getD_cons_zero, List.getD_cons_succ, List.setIfInBounds_toArray, List.set_cons_zero, List.set_cons_succ, List.drop_succ_cons, List.drop_zero, h16, h24]
            go_wp2_with fail
            exact ⟨_, rfl, hI, trivial, rfl⟩
          · intro vals p hI hp
            clear hp
            simp only [Roll.Goes, List.range_succ, List.range_zero, List.nil_append, List.cons_append, Roll.putD, Act.put, List.getD_cons_zero, List.getD_cons_succ, List.setIfInBounds_toArray, List.set_cons_zero, List.set_cons_succ, List.drop_succ_cons, List.drop_zero]
            go_wp2_with fail
            exact ⟨_, rfl, hI, trivial, rfl⟩
          · intro vals p hI hp
            clear hp
            simp only [Roll.Goes, List.range_succ, List.range_zero, List.nil_append, List.cons_append, Roll.putD, Act.put, List.getD_cons_zero, List.getD_cons_succ, List.setIfInBounds_toArray, List.set_cons_zero, List.set_cons_succ, List.drop_succ_cons, List.drop_zero]
            go_wp2_with fail
            exact ⟨_, rfl, hI, trivial, rfl⟩
          · intro vals p hI hp
            have h27 : (vals 27) = .int .i64 (k : Int) := hp 27 (by simp)
            clear hp
            simp only [Roll.Goes, List.range_succ, List.range_zero, List.nil_append, List.cons_append, Roll.putD, Act.put, List.getD_cons_zero, List.getD_cons_succ, List.setIfInBounds_toArray, List.set_cons_zero, List.set_cons_succ, List.drop_succ_cons, List.drop_zero, h27]
            go_wp2_with fail
            exact ⟨_, rfl, hI, trivial, rfl⟩
          · intro vals p hI hp
            have h28 : (vals 28) = .int .i64 (4 * (k : Int)) := hp 28 (by simp)
            clear hp
            simp only [Roll.Goes, List.range_succ, List.range_zero, List.nil_append, List.cons_append, Roll.putD, Act.put, List.getD_cons_zero, List.getD_cons_succ, List.setIfInBounds_toArray, List.set_cons_zero, List.set_cons_succ, List.drop_succ_cons, List.drop_zero, h28]
            go_wp2_with fail
            exact ⟨_, rfl, hI, trivial, rfl⟩
          · intro vals p hI hp
            have h26 : (vals 26) = .slice (some ⟨bb, bo, none⟩) 64 c := hp 26 (by simp)
            have h29 : (vals 29) = .int .i64 (4 * (k : Int) + 3) := hp 29 (by simp)
            clear hp
            simp only [Roll.Goes, List.range_succ, List.range_zero, List.nil_append, List.cons_append, Roll.putD, Act.put, List.getD_cons_zero, List.getD_cons_succ, List.setIfInBounds_toArray, List.set_cons_zero, List.set_cons_succ, List.drop_succ_cons, List.drop_zero, h26, h29]
            go_wp2_with fail
            exact ⟨_, rfl, hI, trivial, rfl⟩
          · intro vals p hI hp
            have h30 : (vals 30) = .pointer (some ⟨bb, bo + (4 * k + 3), none⟩) := hp 30 (by simp)
            clear hp
            have cc := (hI.2.2.cell (p := ⟨bb, bo + (4 * k + 3), none⟩) hbl).trans (HC.out (4 * k + 3) (by omega))
            simp only [Roll.Goes, List.range_succ, List.range_zero, List.nil_append, List.cons_append, Roll.putD, Act.put, List.getD_cons_zero, List.getD_cons_succ, List.setIfInBounds_toArray, List.set_cons_zero, List.set_cons_succ, List.drop_succ_cons, List.drop_zero, h30]
            go_wp2_with fail
            exact ⟨_, rfl, hI, trivial, rfl⟩
          · intro vals p hI hp
            have h31 : (vals 31) = .int .u8 (bi (byteAt l (4 * k + 3))) := hp 31 (by simp)
            clear hp
            simp only [Roll.Goes, List.range_succ, List.range_zero, List.nil_append, List.cons_append, Roll.putD, Act.put, List.getD_cons_zero, List.getD_cons_succ, List.setIfInBounds_toArray, List.set_cons_zero, List.set_cons_succ, List.drop_succ_cons, List.drop_zero, h31]
            go_wp2_with fail
            exact ⟨_, rfl, hI, trivial, rfl⟩
          · intro vals p hI hp
            have h25 : (vals 25) = .int .u32 (wi (byteW (byteAt l (4 * k)) <<< 24 ||| byteW (byteAt l (4 * k + 1)) <<< 16 ||| byteW (byteAt l (4 * k + 2)) <<< 8)) := hp 25 (by simp)
            have h32 : (vals 32) = .int .u32 (wi (byteW (byteAt l (4 * k + 3)))) := hp 32 (by simp)
            clear hp
            simp only [Roll.Goes, List.range_succ, List.range_zero, List.nil_append, List.cons_append, Roll.putD, Act.put, List.getD_cons_zero, List.getD_cons_succ, List.setIfInBounds_toArray, List.set_cons_zero, List.set_cons_succ, List.drop_succ_cons, List.drop_zero, h25, h32]
            go_wp2_with fail
            exact ⟨_, rfl, hI, trivial, rfl⟩
          · intro vals p hI hp
            have h0 : (vals 0) = .int .i64 (k : Int) := hp 0 (by simp)
            clear hp
            simp only [Roll.Goes, List.range_succ, List.range_zero, List.nil_append, List.cons_append, Roll.putD, Act.put, List.getD_cons_zero, List.getD_cons_succ, List.setIfInBounds_toArray, List.set_cons_zero, List.set_cons_succ, List.drop_succ_cons, List.drop_zero, h0]
            go_wp2_with fail
            exact ⟨_, rfl, hI, trivial, rfl⟩
        · intro vals p hI hR
          have h0 : (vals 0) = .int .i64 (k : Int) := hR 0 (by omega)
          have h1 : (vals 1) = .slice (some ⟨bb, bo, none⟩) 64 c := hR 1 (by omega)
          have h2 : (vals 2) = .int .i64 (k : Int) := hR 2 (by omega)
          have h3 : (vals 3) = .int .i64 (4 * (k : Int)) := hR 3 (by omega)
          have h4 : (vals 4) = .pointer (some ⟨bb, bo + (4 * k), none⟩) := hR 4 (by omega)
          have h5 : (vals 5) = .int .u8 (bi (byteAt l (4 * k))) := hR 5 (by omega)
          have h6 : (vals 6) = .int .u32 (wi (byteW (byteAt l (4 * k)))) := hR 6 (by omega)
          have h7 : (vals 7) = .int .u32 (wi (byteW (byteAt l (4 * k)) <<< 24)) := hR 7 (by omega)
          have h8 : (vals 8) = .slice (some ⟨bb, bo, none⟩) 64 c := hR 8 (by omega)
          have h9 : (vals 9) = .int .i64 (k : Int) := hR 9 (by omega)
          have h10 : (vals 10) = .int .i64 (4 * (k : Int)) := hR 10 (by omega)
          have h11 : (vals 11) = .int .i64 (4 * (k : Int) + 1) := hR 11 (by omega)
          have h12 : (vals 12) = .pointer (some ⟨bb, bo + (4 * k + 1), none⟩) := hR 12 (by omega)
          have h13 : (vals 13) = .int .u8 (bi (byteAt l (4 * k + 1))) := hR 13 (by omega)
          have h14 : (vals 14) = .int .u32 (wi (byteW (byteAt l (4 * k + 1)))) := hR 14 (by omega)
          have h15 : (vals 15) = .int .u32 (wi (byteW (byteAt l (4 * k + 1)) <<< 16)) := hR 15 (by omega)
          have h16 : (vals 16) = .int .u32 (wi (byteW (byteAt l (4 * k)) <<< 24 ||| byteW (byteAt l (4 * k + 1)) <<< 16)) := hR 16 (by omega)
          have h17 : (vals 17) = .slice (some ⟨bb, bo, none⟩) 64 c := hR 17 (by omega)
          have h18 : (vals 18) = .int .i64 (k : Int) := hR 18 (by omega)
          have h19 : (vals 19) = .int .i64 (4 * (k : Int)) := hR 19 (by omega)
          have h20 : (vals 20) = .int .i64 (4 * (k : Int) + 2) := hR 20 (by omega)
          have h21 : (vals 21) = .pointer (some ⟨bb, bo + (4 * k + 2), none⟩) := hR 21 (by omega)
          have h22 : (vals 22) = .int .u8 (bi (byteAt l (4 * k + 2))) := hR 22 (by omega)
          have h23 : (vals 23) = .int .u32 (wi (byteW (byteAt l (4 * k + 2)))) := hR 23 (by omega)
          have h24 : (vals 24) = .int .u32 (wi (byteW (byteAt l (4 * k + 2)) <<< 8)) := hR 24 (by omega)
          have h25 : (vals 25) = .int .u32 (wi (byteW (byteAt l (4 * k)) <<< 24 ||| byteW (byteAt l (4 * k + 1)) <<< 16 ||| byteW (byteAt l (4 * k + 2)) <<< 8)) := hR 25 (by omega)
          have h26 : (vals 26) = .slice (some ⟨bb, bo, none⟩) 64 c := hR 26 (by omega)
          have h27 : (vals 27) = .int .i64 (k : Int) := hR 27 (by omega)
          have h28 : (vals 28) = .int .i64 (4 * (k : Int)) := hR 28 (by omega)
          have h29 : (vals 29) = .int .i64 (4 * (k : Int) + 3) := hR 29 (by omega)
          have h30 : (vals 30) = .pointer (some ⟨bb, bo + (4 * k + 3), none⟩) := hR 30 (by omega)
          have h31 : (vals 31) = .int .u8 (bi (byteAt l (4 * k + 3))) := hR 31 (by omega)
          have h32 : (vals 32) = .int .u32 (wi (byteW (byteAt l (4 * k + 3)))) := hR 32 (by omega)
          have h33 : (vals 33) = .int .u32 (wi (wordAt l k)) := hR 33 (by omega)
          have h34 : (vals 34) = .pointer (some ⟨w.heap.size + 1, k, none⟩) := hR 34 (by omega)
          simp only [List.range_succ, List.range_zero, List.nil_append, List.cons_append, Roll.putD, Act.put, List.getD_cons_zero, List.getD_cons_succ, List.setIfInBounds_toArray, List.set_cons_zero, List.set_cons_succ, List.drop_succ_cons, List.drop_zero]
          clear hR
          simp only [h0, h1, h2, h3, h4, h5, h6, h7, h8, h9, h10, h11, h12, h13, h14, h15, h16, h17, h18, h19, h20, h21, h22, h23, h24, h25, h26, h27, h28, h29, h30, h31, h32, h33, h34]
          clear h0 h1 h2 h3 h4 h5 h6 h7 h8 h9 h10 h11 h12 h13 h14 h15 h16 h17 h18 h19 h20 h21 h22 h23 h24 h25 h26 h27 h28 h29 h30 h31 h32 h33 h34
          have cc := cell_words hI.2.1 k (by rw [Hp.out]; omega)
          have ff := frozen_of_row p (w.heap.size + 1) k _ _ hI.2.1
          go_wp2
          go_roundw
          case rel =>
            refine ⟨k + 1, by omega, by go_num, (heap_setCell_other _ _ _ _ (by simp only; omega)).trans hI.1, ?_, (hI.2.2).setCell (by simp only; omega) _⟩
            refine (heap_setCell_same _ _ _ _ _ _ hI.2.1).trans ?_
            rw [wcells_set]
            exact congrArg (fun l => some (Obj.cells (wcells l) 74 (0, 0))) (schP_lo l k hlo)
          case measure => simp [intOf]; omega
      · have hk16 : 16 ≤ k := by omega
        have dlo : decide ((k : Int) < 16) = false := by simp; omega
        have c15 := cell_words HB2.out (k - 15) (by rw [Hp.out]; omega)
        have c2 := cell_words HB2.out (k - 2) (by rw [Hp.out]; omega)
        rw [schP_at l k _ hk16 (by omega)] at c15 c2
        have e15 : IntKind.i64.wrap ((k : Int) - 15) = (k : Int) - 15 := i64_id _ (by omega) (by omega)
        have e2 : IntKind.i64.wrap ((k : Int) - 2) = (k : Int) - 2 := i64_id _ (by omega) (by omega)
        have e16 : IntKind.i64.wrap ((k : Int) - 16) = (k : Int) - 16 := i64_id _ (by omega) (by omega)
        have e7 : IntKind.i64.wrap ((k : Int) - 7) = (k : Int) - 7 := i64_id _ (by omega) (by omega)
        have n15 : ((k : Int) - 15).toNat = k - 15 := by omega
        have n2 : ((k : Int) - 2).toNat = k - 2 := by omega
        have n16 : ((k : Int) - 16).toNat = k - 16 := by omega
        have n7 : ((k : Int) - 7).toNat = k - 7 := by omega
        have p15 : 15 ≤ (k : Int) := by omega
        have p2 : 2 ≤ (k : Int) := by omega
        have p16 : 16 ≤ (k : Int) := by omega
        have p7 : 7 ≤ (k : Int) := by omega
        have q15 : (k : Int) - 15 < 64 := by omega
        have q2 : (k : Int) - 2 < 64 := by omega
        have q16 : (k : Int) - 16 < 64 := by omega
        have q7 : (k : Int) - 7 < 64 := by omega
        go_upto_region 9 with (fail)
        clear c15 c2
        refine Roll.region_l 29 [some 56, some 57, some 58, some 59, some 60, some 61, some 62, some 63, some 64, some 65, some 66, some 67, some 68, some 69, some 70, some 71, some 72, some 73, some 74, some 75, some 76, some 77, some 78, some 79, some 80, some 81, some 82, some 83, some 84, none] [[], [], [1], [2], [3], [], [5], [], [7], [6, 8], [], [10], [9, 11], [4, 12], [], [14], [15], [16], [13, 17], [], [19], [], [21], [20, 22], [], [24], [23, 25], [18, 26], [0], [28, 27]] (fun p => p.heap[w.heap.size]? = some (.cells (wcells (List.replicate 64 0)) 74 (0, 0)) ∧ p.heap[w.heap.size + 1]? = some (.cells (wcells (schP l k)) 74 (0, 0)) ∧ Below w.heap.size w p) (fun _ _ => True) [fun v p => v = .int .i64 (k : Int), fun v p => v = .int .i64 (k : Int), fun v p => v = .int .i64 ((k : Int) - 16), fun v p => v = .pointer (some ⟨w.heap.size + 1, k - 16, none⟩), fun v p => v = .int .u32 (wi (wAt (schedTo (wordsOf l) (k - 16)) (k - 16))), fun v p => v = .int .u32 (wi (wAt (schedTo (wordsOf l) (k - 16)) (k - 15))), fun v p => v = .int .u32 (wi (rotr (wAt (schedTo (wordsOf l) (k - 16)) (k - 15)) 7)), fun v p => v = .int .u32 (wi (wAt (schedTo (wordsOf l) (k - 16)) (k - 15))), fun v p => v = .int .u32 (wi (rotr (wAt (schedTo (wordsOf l) (k - 16)) (k - 15)) 18)), fun v p => v = .int .u32 (wi (rotr (wAt (schedTo (wordsOf l) (k - 16)) (k - 15)) 7 ^^^ rotr (wAt (schedTo (wordsOf l) (k - 16)) (k - 15)) 18)), fun v p => v = .int .u32 (wi (wAt (schedTo (wordsOf l) (k - 16)) (k - 15))), fun v p => v = .int .u32 (wi ((wAt (schedTo (wordsOf l) (k - 16)) (k - 15)) >>> 3)), fun v p => v = .int .u32 (wi (rotr (wAt (schedTo (wordsOf l) (k - 16)) (k - 15)) 7 ^^^ rotr (wAt (schedTo (wordsOf l) (k - 16)) (k - 15)) 18 ^^^ (wAt (schedTo (wordsOf l) (k - 16)) (k - 15)) >>> 3)), fun v p => v = .int .u32 (wi ((wAt (schedTo (wordsOf l) (k - 16)) (k - 16)) + (rotr (wAt (schedTo (wordsOf l) (k - 16)) (k - 15)) 7 ^^^ rotr (wAt (schedTo (wordsOf l) (k - 16)) (k - 15)) 18 ^^^ (wAt (schedTo (wordsOf l) (k - 16)) (k - 15)) >>> 3))), fun v p => v = .int .i64 (k : Int), fun v p => v = .int .i64 ((k : Int) - 7), fun v p => v = .pointer (some ⟨w.heap.size + 1, k - 7, none⟩), fun v p => v = .int .u32 (wi (wAt (schedTo (wordsOf l) (k - 16)) (k - 7))), fun v p => v = .int .u32 (wi ((wAt (schedTo (wordsOf l) (k - 16)) (k - 16)) + (rotr (wAt (schedTo (wordsOf l) (k - 16)) (k - 15)) 7 ^^^ rotr (wAt (schedTo (wordsOf l) (k - 16)) (k - 15)) 18 ^^^ (wAt (schedTo (wordsOf l) (k - 16)) (k - 15)) >>> 3) + (wAt (schedTo (wordsOf l) (k - 16)) (k - 7)))), fun v p => v = .int .u32 (wi (wAt (schedTo (wordsOf l) (k - 16)) (k - 2))), fun v p => v = .int .u32 (wi (rotr (wAt (schedTo (wordsOf l) (k - 16)) (k - 2)) 17)), fun v p => v = .int .u32 (wi (wAt (schedTo (wordsOf l) (k - 16)) (k - 2))), fun v p => v = .int .u32 (wi (rotr (wAt (schedTo (wordsOf l) (k - 16)) (k - 2)) 19)), fun v p => v = .int .u32 (wi (rotr (wAt (schedTo (wordsOf l) (k - 16)) (k - 2)) 17 ^^^ rotr (wAt (schedTo (wordsOf l) (k - 16)) (k - 2)) 19)), fun v p => v = .int .u32 (wi (wAt (schedTo (wordsOf l) (k - 16)) (k - 2))), fun v p => v = .int .u32 (wi ((wAt (schedTo (wordsOf l) (k - 16)) (k - 2)) >>> 10)), fun v p => v = .int .u32 (wi (rotr (wAt (schedTo (wordsOf l) (k - 16)) (k - 2)) 17 ^^^ rotr (wAt (schedTo (wordsOf l) (k - 16)) (k - 2)) 19 ^^^ (wAt (schedTo (wordsOf l) (k - 16)) (k - 2)) >>> 10)), fun v p => v = .int .u32 (wi (nextW (schedTo (wordsOf l) (k - 16)) k)), fun v p => v = .pointer (some ⟨w.heap.size + 1, k, none⟩)] (by kernel_rfl) (by kernel_rfl) (⟨HB1.out, HB2.out, HB.out.drew⟩) ?_ ?_ ?_
        · exact ⟨fun _ _ _ _ h => h, fun _ _ _ _ h => h, fun _ _ _ _ h => h, fun _ _ _ _ h => h, fun _ _ _ _ h => h, fun _ _ _ _ h => h, fun _ _ _ _ h => h, fun _ _ _ _ h => h, fun _ _ _ _ h => h, fun _ _ _ _ h => h, fun _ _ _ _ h => h, fun _ _ _ _ h => h, fun _ _ _ _ h => h, fun _ _ _ _ h => h, fun _ _ _ _ h => h, fun _ _ _ _ h => h, fun _ _ _ _ h => h, fun _ _ _ _ h => h, fun _ _ _ _ h => h, fun _ _ _ _ h => h, fun _ _ _ _ h => h, fun _ _ _ _ h => h, fun _ _ _ _ h => h, fun _ _ _ _ h => h, fun _ _ _ _ h => h, fun _ _ _ _ h => h, fun _ _ _ _ h => h, fun _ _ _ _ h => h, fun _ _ _ _ h => h, trivial⟩
        · refine ⟨?_, ?_, ?_, ?_, ?_, ?_, ?_, ?_, ?_, ?_, ?_, ?_, ?_, ?_, ?_, ?_, ?_, ?_, ?_, ?_, ?_, ?_, ?_, ?_, ?_, ?_, ?_, ?_, ?_, trivial⟩
          · intro vals p hI hp
            clear hp
            simp only [Roll.Goes, List.range_succ, List.range_zero, List.nil_append, List.cons_append, Roll.putD, Act.put, List.getD_cons_zero, List.getD_cons_succ, List.setIfInBounds_toArray, List.set_cons_zero, List.set_cons_succ, List.drop_succ_cons, List.drop_zero]
            go_wp2_with fail
            exact ⟨_, rfl, hI, trivial, rfl⟩
          · intro vals p hI hp
            clear hp
            simp only [Roll.Goes, List.range_succ, List.range_zero, List.nil_append, List.cons_append, Roll.putD, Act.put, List.getD_cons_zero, List.getD_cons_succ, List.setIfInBounds_toArray, List.set_cons_zero, List.set_cons_succ, List.drop_succ_cons, List.drop_zero]
            go_wp2_with fail
            exact ⟨_, rfl, hI, trivial, rfl⟩
          · intro vals p hI hp
            have h1 : (vals 1) = .int .i64 (k : Int) := hp 1 (by simp)
            clear hp
            simp only [Roll.Goes, List.range_succ, List.range_zero, List.nil_append, List.cons_append, Roll.putD, Act.put, List.getD_cons_zero, List.getD_cons_succ, List.setIfInBounds_toArray, List.set_cons_zero, List.set_cons_succ, List.drop_succ_cons, List.drop_zero, h1]
            go_wp2_with fail
            exact ⟨_, rfl, hI, trivial, rfl⟩
          · intro vals p hI hp
            have h2 : (vals 2) = .int .i64 ((k : Int) - 16) := hp 2 (by simp)
            clear hp
            simp only [Roll.Goes, List.range_succ, List.range_zero, List.nil_append, List.cons_append, Roll.putD, Act.put, List.getD_cons_zero, List.getD_cons_succ, List.setIfInBounds_toArray, List.set_cons_zero, List.set_cons_succ, List.drop_succ_cons, List.drop_zero, h2]
            go_wp2_with fail
            exact ⟨_, rfl, hI, trivial, rfl⟩
          · intro vals p hI hp
            have h3 : (vals 3) = .pointer (some ⟨w.heap.size + 1, k - 16, none⟩) := hp 3 (by simp)
            clear hp
            have cc := cell_words hI.2.1 (k - 16) (by rw [Hp.out]; omega)
            rw [schP_at l k _ hk16 (by omega)] at cc
            simp only [Roll.Goes, List.range_succ, List.range_zero, List.nil_append, List.cons_append, Roll.putD, Act.put, List.getD_cons_zero, List.getD_cons_succ, List.setIfInBounds_toArray, List.set_cons_zero, List.set_cons_succ, List.drop_succ_cons, List.drop_zero, h3]
            go_wp2_with fail
            exact ⟨_, rfl, hI, trivial, rfl⟩
          · intro vals p hI hp
            clear hp
            simp only [Roll.Goes, List.range_succ, List.range_zero, List.nil_append, List.cons_append, Roll.putD, Act.put, List.getD_cons_zero, List.getD_cons_succ, List.setIfInBounds_toArray, List.set_cons_zero, List.set_cons_succ, List.drop_succ_cons, List.drop_zero]
            go_wp2_with fail
            exact ⟨_, rfl, hI, trivial, rfl⟩
          · intro vals p hI hp
            have h5 : (vals 5) = .int .u32 (wi (wAt (schedTo (wordsOf l) (k - 16)) (k - 15))) := hp 5 (by simp)
            clear hp
            simp only [Roll.Goes, List.range_succ, List.range_zero, List.nil_append, List.cons_append, Roll.putD, Act.put, List.getD_cons_zero, List.getD_cons_succ, List.setIfInBounds_toArray, List.set_cons_zero, List.set_cons_succ, List.drop_succ_cons, List.drop_zero, h5]
            go_wp2_with (go_at_call 49; refine (refrot_any _ 7 _ (by decide) (by decide)).mono ?_; rintro e p2 ⟨rfl, nn, rfl⟩)
            exact ⟨_, rfl, ⟨hI.1, hI.2.1, below_drewN hI.2.2 _⟩, trivial, rfl⟩
          · intro vals p hI hp
            clear hp
            simp only [Roll.Goes, List.range_succ, List.range_zero, List.nil_append, List.cons_append, Roll.putD, Act.put, List.getD_cons_zero, List.getD_cons_succ, List.setIfInBounds_toArray, List.set_cons_zero, List.set_cons_succ, List.drop_succ_cons, List.drop_zero]
            go_wp2_with fail
            exact ⟨_, rfl, hI, trivial, rfl⟩
          · intro vals p hI hp
            have h7 : (vals 7) = .int .u32 (wi (wAt (schedTo (wordsOf l) (k - 16)) (k - 15))) := hp 7 (by simp)
            clear hp
            simp only [Roll.Goes, List.range_succ, List.range_zero, List.nil_append, List.cons_append, Roll.putD, Act.put, List.getD_cons_zero, List.getD_cons_succ, List.setIfInBounds_toArray, List.set_cons_zero, List.set_cons_succ, List.drop_succ_cons, List.drop_zero, h7]
            go_wp2_with (go_at_call 49; refine (refrot_any _ 18 _ (by decide) (by decide)).mono ?_; rintro e p2 ⟨rfl, nn, rfl⟩)
            exact ⟨_, rfl, ⟨hI.1, hI.2.1, below_drewN hI.2.2 _⟩, trivial, rfl⟩
          · intro vals p hI hp
            have h6 : (vals 6) = .int .u32 (wi (rotr (wAt (schedTo (wordsOf l) (k - 16)) (k - 15)) 7)) := hp 6 (by simp)
            have h8 : (vals 8) = .int .u32 (wi (rotr (wAt (schedTo (wordsOf l) (k - 16)) (k - 15)) 18)) := hp 8 (by simp)
            clear hp
            simp only [Roll.Goes, List.range_succ, List.range_zero, List.nil_append, List.cons_append, Roll.putD, Act.put, List.getD_cons_zero, List.getD_cons_succ, List.setIfInBounds_toArray, List.set_cons_zero, List.set_cons_succ, List.drop_succ_cons, List.drop_zero, h6, h8]
            go_wp2_with fail
            exact ⟨_, rfl, hI, trivial, rfl⟩
          · intro vals p hI hp
            clear hp
            simp only [Roll.Goes, List.range_succ, List.range_zero, List.nil_append, List.cons_append, Roll.putD, Act.put, List.getD_cons_zero, List.getD_cons_succ, List.setIfInBounds_toArray, List.set_cons_zero, List.set_cons_succ, List.drop_succ_cons, List.drop_zero]
            go_wp2_with fail
            exact ⟨_, rfl, hI, trivial, rfl⟩
          · intro vals p hI hp
            have h10 : (vals 10) = .int .u32 (wi (wAt (schedTo (wordsOf l) (k - 16)) (k - 15))) := hp 10 (by simp)
            clear hp
            simp only [Roll.Goes, List.range_succ, List.range_zero, List.nil_append, List.cons_append, Roll.putD, Act.put, List.getD_cons_zero, List.getD_cons_succ, List.setIfInBounds_toArray, List.set_cons_zero, List.set_cons_succ, List.drop_succ_cons, List.drop_zero, h10]
            go_wp2_with fail
            exact ⟨_, rfl, hI, trivial, rfl⟩
          · intro vals p hI hp
            have h9 : (vals 9) = .int .u32 (wi (rotr (wAt (schedTo (wordsOf l) (k - 16)) (k - 15)) 7 ^^^ rotr (wAt (schedTo (wordsOf l) (k - 16)) (k - 15)) 18)) := hp 9 (by simp)
            have h11 : (vals 11) = .int .u32 (wi ((wAt (schedTo (wordsOf l) (k - 16)) (k - 15)) >>> 3)) := hp 11 (by simp)
            clear hp
            simp only [Roll.Goes, List.range_succ, List.range_zero, List.nil_append, List.cons_append, Roll.putD, Act.put, List.getD_cons_zero, List.getD_cons_succ, List.setIfInBounds_toArray, List.set_cons_zero, List.set_cons_succ, List.drop_succ_cons, List.drop_zero, h9, h11]
            go_wp2_with fail
            exact ⟨_, rfl, hI, trivial, rfl⟩
          · intro vals p hI hp
            have h4 : (vals 4) = .int .u32 (wi (wAt (schedTo (wordsOf l) (k - 16)) (k - 16))) := hp 4 (by simp)
            have h12 : (vals 12) = .int .u32 (wi (rotr (wAt (schedTo (wordsOf l) (k - 16)) (k - 15)) 7 ^^^ rotr (wAt (schedTo (wordsOf l) (k - 16)) (k - 15)) 18 ^^^ (wAt (schedTo (wordsOf l) (k - 16)) (k - 15)) >>> 3)) := hp 12 (by simp)
            clear hp
            simp only [Roll.Goes, List.range_succ, List.range_zero, List.nil_append, List.cons_append, Roll.putD, Act.put, List.getD_cons_zero, List.getD_cons_succ, List.setIfInBounds_toArray, List.set_cons_zero, List.set_cons_succ, List.drop_succ_cons, List.drop_zero, h4, h12]
            go_wp2_with fail
            exact ⟨_, rfl, hI, trivial, rfl⟩
          · intro vals p hI hp
            clear hp
            simp only [Roll.Goes, List.range_succ, List.range_zero, List.nil_append, List.cons_append, Roll.putD, Act.put, List.getD_cons_zero, List.getD_cons_succ, List.setIfInBounds_toArray, List.set_cons_zero, List.set_cons_succ, List.drop_succ_cons, List.drop_zero]
            go_wp2_with fail
            exact ⟨_, rfl, hI, trivial, rfl⟩
          · intro vals p hI hp
            have h14 : (vals 14) = .int .i64 (k : Int) := hp 14 (by simp)
            clear hp
            simp only [Roll.Goes, List.range_succ, List.range_zero, List.nil_append, List.cons_append, Roll.putD, Act.put, List.getD_cons_zero, List.getD_cons_succ, List.setIfInBounds_toArray, List.set_cons_zero, List.set_cons_succ, List.drop_succ_cons, List.drop_zero, h14]
            go_wp2_with fail
            exact ⟨_, rfl, hI, trivial, rfl⟩
          · intro vals p hI hp
            have h15 : (vals 15) = .int .i64 ((k : Int) - 7) := hp 15 (by simp)
            clear hp
            simp only [Roll.Goes, List.range_succ, List.range_zero, List.nil_append, List.cons_append, Roll.putD, Act.put, List.getD_cons_zero, List.getD_cons_succ, List.setIfInBounds_toArray, List.set_cons_zero, List.set_cons_succ, List.drop_succ_cons, List.drop_zero, h15]
            go_wp2_with fail
            exact ⟨_, rfl, hI, trivial, rfl⟩
          · intro vals p hI hp
            have h16 : (vals 16) = .pointer (some ⟨w.heap.size + 1, k - 7, none⟩) := hp 16 (by simp)
            clear hp
            have cc := cell_words hI.2.1 (k - 7) (by rw [Hp.out]; omega)
            rw [schP_at l k _ hk16 (by omega)] at cc
            simp only [Roll.Goes, List.range_succ, List.range_zero, List.nil_append, List.cons_append, Roll.putD, Act.put, List.getD_cons_zero, List.getD_cons_succ, List.setIfInBounds_toArray, List.set_cons_zero, List.set_cons_succ, List.drop_succ_cons, List.drop_zero, h16]
            go_wp2_with fail
            exact ⟨_, rfl, hI, trivial, rfl⟩
          · intro vals p hI hp
            have h13 : (vals 13) = .int .u32 (wi ((wAt (schedTo (wordsOf l) (k - 16)) (k - 16)) + (rotr (wAt (schedTo (wordsOf l) (k - 16)) (k - 15)) 7 ^^^ rotr (wAt (schedTo (wordsOf l) (k - 16)) (k - 15)) 18 ^^^ (wAt (schedTo (wordsOf l) (k - 16)) (k - 15)) >>> 3))) := hp 13 (by simp)
            have h17 : (vals 17) = .int .u32 (wi (wAt (schedTo (wordsOf l) (k - 16)) (k - 7))) := hp 17 (by simp)
            clear hp
            simp only [Roll.Goes, List.range_succ, List.range_zero, List.nil_append, List.cons_append, Roll.putD, Act.put, List.getD_cons_zero, List.getD_cons_succ, List.setIfInBounds_toArray, List.set_cons_zero, List.set_cons_succ, List.drop_succ_cons, List.drop_zero, h13, h17]
            go_wp2_with fail
            exact ⟨_, rfl, hI, trivial, rfl⟩
          · intro vals p hI hp
            clear hp
            simp only [Roll.Goes, List.range_succ, List.range_zero, List.nil_append, List.cons_append, Roll.putD, Act.put, List.getD_cons_zero, List.getD_cons_succ, List.setIfInBounds_toArray, List.set_cons_zero, List.set_cons_succ, List.drop_succ_cons, List.drop_zero]
            go_wp2_with fail
            exact ⟨_, rfl, hI, trivial, rfl⟩
          · intro vals p hI hp
            have h19 : (vals 19) = .int .u32 (wi (wAt (schedTo (wordsOf l) (k - 16)) (k - 2))) := hp 19 (by simp)
            clear hp
            simp only [Roll.Goes, List.range_succ, List.range_zero, List.nil_append, List.cons_append, Roll.putD, Act.put, List.getD_cons_zero, List.getD_cons_succ, List.setIfInBounds_toArray, List.set_cons_zero, List.set_cons_succ, List.drop_succ_cons, List.drop_zero, h19]
            go_wp2_with (go_at_call 49; refine (refrot_any _ 17 _ (by decide) (by decide)).mono ?_; rintro e p2 ⟨rfl, nn, rfl⟩)
            exact ⟨_, rfl, ⟨hI.1, hI.2.1, below_drewN hI.2.2 _⟩, trivial, rfl⟩
          · intro vals p hI hp
            clear hp
            simp only [Roll.Goes, List.range_succ, List.range_zero, List.nil_append, List.cons_append, Roll.putD, Act.put, List.getD_cons_zero, List.getD_cons_succ, List.setIfInBounds_toArray, List.set_cons_zero, List.set_cons_succ, List.drop_succ_cons, List.drop_zero]
            go_wp2_with fail
            exact ⟨_, rfl, hI, trivial, rfl⟩
          · intro vals p hI hp
            have h21 : (vals 21) = .int .u32 (wi (wAt (schedTo (wordsOf l) (k - 16)) (k - 2))) := hp 21 (by simp)
            clear hp
            simp only [Roll.Goes, List.range_succ, List.range_zero, List.nil_append, List.cons_append, Roll.putD, Act.put, List.getD_cons_zero, List.getD_cons_succ, List.setIfInBounds_toArray, List.set_cons_zero, List.set_cons_succ, List.drop_succ_cons, List.drop_zero, h21]
            go_wp2_with (go_at_call 49; refine (refrot_any _ 19 _ (by decide) (by decide)).mono ?_; rintro e p2 ⟨rfl, nn, rfl⟩)
            exact ⟨_, rfl, ⟨hI.1, hI.2.1, below_drewN hI.2.2 _⟩, trivial, rfl⟩
          · intro vals p hI hp
            have h20 : (vals 20) = .int .u32 (wi (rotr (wAt (schedTo (wordsOf l) (k - 16)) (k - 2)) 17)) := hp 20 (by simp)
            have h22 : (vals 22) = .int .u32 (wi (rotr (wAt (schedTo (wordsOf l) (k - 16)) (k - 2)) 19)) := hp 22 (by simp)
            clear hp
            simp only [Roll.Goes, List.range_succ, List.range_zero, List.nil_append, List.cons_append, Roll.putD, Act.put, List.getD_cons_zero, List.getD_cons_succ, List.setIfInBounds_toArray, List.set_cons_zero, List.set_cons_succ, List.drop_succ_cons, List.drop_zero, h20, h22]
            go_wp2_with fail
            exact ⟨_, rfl, hI, trivial, rfl⟩
          · intro vals p hI hp
            clear hp
            simp only [Roll.Goes, List.range_succ, List.range_zero, List.nil_append, List.cons_append, Roll.putD, Act.put, List.getD_cons_zero, List.getD_cons_succ, List.setIfInBounds_toArray, List.set_cons_zero, List.set_cons_succ, List.drop_succ_cons, List.drop_zero]
            go_wp2_with fail
            exact ⟨_, rfl, hI, trivial, rfl⟩
          · intro vals p hI hp
            have h24 : (vals 24) = .int .u32 (wi (wAt (schedTo (wordsOf l) (k - 16)) (k - 2))) := hp 24 (by simp)
            clear hp
            simp only [Roll.Goes, List.range_succ, List.range_zero, List.nil_append, List.cons_append, Roll.putD, Act.put, List.getD_cons_zero, List.getD_cons_succ, List.setIfInBounds_toArray, List.set_cons_zero, List.set_cons_succ, List.drop_succ_cons, List.drop_zero, h24]
            go_wp2_with fail
            exact ⟨_, rfl, hI, trivial, rfl⟩
          · intro vals p hI hp
            have h23 : (vals 23) = .int .u32 (wi (rotr (wAt (schedTo (wordsOf l) (k - 16)) (k - 2)) 17 ^^^ rotr (wAt (schedTo (wordsOf l) (k - 16)) (k - 2)) 19)) := hp 23 (by simp)
            have h25 : (vals 25) = .int .u32 (wi ((wAt (schedTo (wordsOf l) (k - 16)) (k - 2)) >>> 10)) := hp 25 (by simp)
            clear hp
            simp only [Roll.Goes, List.range_succ, List.range_zero, List.nil_append, List.cons_append, Roll.putD, Act.put, List.getD_cons_zero, List.getD_cons_succ, List.setIfInBounds_toArray, List.set_cons_zero, List.set_cons_succ, List.drop_succ_cons, List.drop_zero, h23, h25]
            go_wp2_with fail
            exact ⟨_, rfl, hI, trivial, rfl⟩
          · intro vals p hI hp
            have h18 : (vals 18) = .int .u32 (wi ((wAt (schedTo (wordsOf l) (k - 16)) (k - 16)) + (rotr (wAt (schedTo (wordsOf l) (k - 16)) (k - 15)) 7 ^^^ rotr (wAt (schedTo (wordsOf l) (k - 16)) (k - 15)) 18 ^^^ (wAt (schedTo (wordsOf l) (k - 16)) (k - 15)) >>> 3) + (wAt (schedTo (wordsOf l) (k - 16)) (k - 7)))) := hp 18 (by simp)
            have h26 : (vals 26) = .int .u32 (wi (rotr (wAt (schedTo (wordsOf l) (k - 16)) (k - 2)) 17 ^^^ rotr (wAt (schedTo (wordsOf l) (k - 16)) (k - 2)) 19 ^^^ (wAt (schedTo (wordsOf l) (k - 16)) (k - 2)) >>> 10)) := hp 26 (by simp)
            clear hp
            simp only [Roll.Goes, List.range_succ, List.range_zero, List.nil_append, List.cons_append, Roll.putD, Act.put, List.getD_cons_zero, List.getD_cons_succ, List.setIfInBounds_toArray, List.set_cons_zero, List.set_cons_succ, List.drop_succ_cons, List.drop_zero, h18, h26]
            go_wp2_with fail
            exact ⟨_, rfl, hI, trivial, rfl⟩
          · intro vals p hI hp
            have h0 : (vals 0) = .int .i64 (k : Int) := hp 0 (by simp)
            clear hp
            simp only [Roll.Goes, List.range_succ, List.range_zero, List.nil_append, List.cons_append, Roll.putD, Act.put, List.getD_cons_zero, List.getD_cons_succ, List.setIfInBounds_toArray, List.set_cons_zero, List.set_cons_succ, List.drop_succ_cons, List.drop_zero, h0]
            go_wp2_with fail
            exact ⟨_, rfl, hI, trivial, rfl⟩
        · intro vals p hI hR
          have h0 : (vals 0) = .int .i64 (k : Int) := hR 0 (by omega)
          have h1 : (vals 1) = .int .i64 (k : Int) := hR 1 (by omega)
          have h2 : (vals 2) = .int .i64 ((k : Int) - 16) := hR 2 (by omega)
          have h3 : (vals 3) = .pointer (some ⟨w.heap.size + 1, k - 16, none⟩) := hR 3 (by omega)
          have h4 : (vals 4) = .int .u32 (wi (wAt (schedTo (wordsOf l) (k - 16)) (k - 16))) := hR 4 (by omega)
          have h5 : (vals 5) = .int .u32 (wi (wAt (schedTo (wordsOf l) (k - 16)) (k - 15))) := hR 5 (by omega)
          have h6 : (vals 6) = .int .u32 (wi (rotr (wAt (schedTo (wordsOf l) (k - 16)) (k - 15)) 7)) := hR 6 (by omega)
          have h7 : (vals 7) = .int .u32 (wi (wAt (schedTo (wordsOf l) (k - 16)) (k - 15))) := hR 7 (by omega)
          have h8 : (vals 8) = .int .u32 (wi (rotr (wAt (schedTo (wordsOf l) (k - 16)) (k - 15)) 18)) := hR 8 (by omega)
          have h9 : (vals 9) = .int .u32 (wi (rotr (wAt (schedTo (wordsOf l) (k - 16)) (k - 15)) 7 ^^^ rotr (wAt (schedTo (wordsOf l) (k - 16)) (k - 15)) 18)) := hR 9 (by omega)
          have h10 : (vals 10) = .int .u32 (wi (wAt (schedTo (wordsOf l) (k - 16)) (k - 15))) := hR 10 (by omega)
          have h11 : (vals 11) = .int .u32 (wi ((wAt (schedTo (wordsOf l) (k - 16)) (k - 15)) >>> 3)) := hR 11 (by omega)
          have h12 : (vals 12) = .int .u32 (wi (rotr (wAt (schedTo (wordsOf l) (k - 16)) (k - 15)) 7 ^^^ rotr (wAt (schedTo (wordsOf l) (k - 16)) (k - 15)) 18 ^^^ (wAt (schedTo (wordsOf l) (k - 16)) (k - 15)) >>> 3)) := hR 12 (by omega)
          have h13 : (vals 13) = .int .u32 (wi ((wAt (schedTo (wordsOf l) (k - 16)) (k - 16)) + (rotr (wAt (schedTo (wordsOf l) (k - 16)) (k - 15)) 7 ^^^ rotr (wAt (schedTo (wordsOf l) (k - 16)) (k - 15)) 18 ^^^ (wAt (schedTo (wordsOf l) (k - 16)) (k - 15)) >>> 3))) := hR 13 (by omega)
          have h14 : (vals 14) = .int .i64 (k : Int) := hR 14 (by omega)
          have h15 : (vals 15) = .int .i64 ((k : Int) - 7) := hR 15 (by omega)
          have h16 : (vals 16) = .pointer (some ⟨w.heap.size + 1, k - 7, none⟩) := hR 16 (by omega)
          have h17 : (vals 17) = .int .u32 (wi (wAt (schedTo (wordsOf l) (k - 16)) (k - 7))) := hR 17 (by omega)
          have h18 : (vals 18) = .int .u32 (wi ((wAt (schedTo (wordsOf l) (k - 16)) (k - 16)) + (rotr (wAt (schedTo (wordsOf l) (k - 16)) (k - 15)) 7 ^^^ rotr (wAt (schedTo (wordsOf l) (k - 16)) (k - 15)) 18 ^^^ (wAt (schedTo (wordsOf l) (k - 16)) (k - 15)) >>> 3) + (wAt (schedTo (wordsOf l) (k - 16)) (k - 7)))) := hR 18 (by omega)
          have h19 : (vals 19) = .int .u32 (wi (wAt (schedTo (wordsOf l) (k - 16)) (k - 2))) := hR 19 (by omega)
          have h20 : (vals 20) = .int .u32 (wi (rotr (wAt (schedTo (wordsOf l) (k - 16)) (k - 2)) 17)) := hR 20 (by omega)
          have h21 : (vals 21) = .int .u32 (wi (wAt (schedTo (wordsOf l) (k - 16)) (k - 2))) := hR 21 (by omega)
          have h22 : (vals 22) = .int .u32 (wi (rotr (wAt (schedTo (wordsOf l) (k - 16)) (k - 2)) 19)) := hR 22 (by omega)
          have h23 : (vals 23) = .int .u32 (wi (rotr (wAt (schedTo (wordsOf l) (k - 16)) (k - 2)) 17 ^^^ rotr (wAt (schedTo (wordsOf l) (k - 16)) (k - 2)) 19)) := hR 23 (by omega)
          have h24 : (vals 24) = .int .u32 (wi (wAt (schedTo (wordsOf l) (k - 16)) (k - 2))) := hR 24 (by omega)
          have h25 : (vals 25) = .int .u32 (wi ((wAt (schedTo (wordsOf l) (k - 16)) (k - 2)) >>> 10)) := hR 25 (by omega)
          have h26 : (vals 26) = .int .u32 (wi (rotr (wAt (schedTo (wordsOf l) (k - 16)) (k - 2)) 17 ^^^ rotr (wAt (schedTo (wordsOf l) (k - 16)) (k - 2)) 19 ^^^ (wAt (schedTo (wordsOf l) (k - 16)) (k - 2)) >>> 10)) := hR 26 (by omega)
          have h27 : (vals 27) = .int .u32 (wi (nextW (schedTo (wordsOf l) (k - 16)) k)) := hR 27 (by omega)
          have h28 : (vals 28) = .pointer (some ⟨w.heap.size + 1, k, none⟩) := hR 28 (by omega)
          simp only [List.range_succ, List.range_zero, List.nil_append, List.cons_append, Roll.putD, Act.put, List.getD_cons_zero, List.getD_cons_succ, List.setIfInBounds_toArray, List.set_cons_zero, List.set_cons_succ, List.drop_succ_cons, List.drop_zero]
          clear hR
          simp only [h0, h1, h2, h3, h4, h5, h6, h7, h8, h9, h10, h11, h12, h13, h14, h15, h16, h17, h18, h19, h20, h21, h22, h23, h24, h25, h26, h27, h28]
          clear h0 h1 h2 h3 h4 h5 h6 h7 h8 h9 h10 h11 h12 h13 h14 h15 h16 h17 h18 h19 h20 h21 h22 h23 h24 h25 h26 h27 h28
          have cc := cell_words hI.2.1 k (by rw [Hp.out]; omega)
          have ff := frozen_of_row p (w.heap.size + 1) k _ _ hI.2.1
          go_wp2
          go_roundw
          case rel =>
            refine ⟨k + 1, by omega, by go_num, (heap_setCell_other _ _ _ _ (by simp only; omega)).trans hI.1, ?_, (hI.2.2).setCell (by simp only; omega) _⟩
            refine (heap_setCell_same _ _ _ _ _ _ hI.2.1).trans ?_
            rw [wcells_set]
            exact congrArg (fun l => some (Obj.cells (wcells l) 74 (0, 0))) (schP_hi l k hk16 hlt)
          case measure => simp [intOf]; omega
    · obtain rfl : k = 64 := by omega
      have HB := Lib.hid hbel
      clear hbel
      go_wp2_with (first | (refine wpList_load_row rfl 74 _ rfl (w.heap.size + 1) rfl 74 _ (0, 0) _ hB2 Tryd.underlying74 rfl (by rw [wcells_size, hp]; exact size64w) ?_) | (refine wpList_store_row rfl 74 _ _ rfl w.heap.size _ rfl rfl 74 _ hB1 (by rw [wcells_size, hp]; exact size64w) (by simp only [wcells_size, hp, List.length_replicate]) (wcells_one _) ?_))
      refine bodyPost_ret (v := .agg (wcells (schP l 64))) ?_ rfl ⟨by rw [schP_all], Below_setRow HB.out (by omega) _⟩
      exact results_cell_row rfl _ _ w.heap.size 74 _ (0, 0) _ rfl (setRow_heap _ _ _ _ _ _ hB1) Tryd.underlying74 rfl (by rw [wcells_size, hp]; exact size64w)
end Go.Proofs.YtdfpjhpkkhdpoaaDoor

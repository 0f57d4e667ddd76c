/-
  Walks over the digest seat: the bytes of the chaining values; the padding.
-/
import Derived.Test.YtdfpjhpkkhdpoaaDoorA4
namespace Go.Proofs.YtdfpjhpkkhdpoaaDoor
open Go.RowKit
theorem join_at (hs : List (BitVec 32)) (k : Nat) : joinAt hs (4 * k) = low8 (wAt hs k >>> 24) ∧ joinAt hs (4 * k + 1) = low8 (wAt hs k >>> 16) ∧
    joinAt hs (4 * k + 2) = low8 (wAt hs k >>> 8) ∧ joinAt hs (4 * k + 3) = low8 (wAt hs k) := by
  unfold joinAt
  refine ⟨?_, ?_, ?_, ?_⟩
  · rw [show 4 * k / 4 = k by omega, show 4 * k % 4 = 0 by omega]
  · rw [show (4 * k + 1) / 4 = k by omega, show (4 * k + 1) % 4 = 1 by omega]
  · rw [show (4 * k + 2) / 4 = k by omega, show (4 * k + 2) % 4 = 2 by omega]
  · rw [show (4 * k + 3) / 4 = k by omega, show (4 * k + 3) % 4 = 3 by omega]; simp
theorem join_set (hs : List (BitVec 32)) (k : Nat) :
    (((((bcells (firstB (joinAt hs) 32 (4 * k))).setIfInBounds (4 * k) (.int .u8 (bi (low8 (wAt hs k >>> 24))))).setIfInBounds (4 * k + 1) (.int .u8 (bi (low8 (wAt hs k >>> 16))))).setIfInBounds (4 * k + 2) (.int .u8 (bi (low8 (wAt hs k >>> 8))))).setIfInBounds (4 * k + 3) (.int .u8 (bi (low8 (wAt hs k))))) =
      bcells (firstB (joinAt hs) 32 (4 * (k + 1))) := by
  obtain ⟨e0, e1, e2, e3⟩ := join_at hs k
  rw [← e0, ← e1, ← e2, ← e3, bcells_set, firstB_set, bcells_set, firstB_set, bcells_set, firstB_set, bcells_set, firstB_set]
  rfl
set_option maxHeartbeats 400000 in
theorem join_any (hs : List (BitVec 32)) (w : World) (hh : hs.length = 8) :
    Calls Tryd.prog 37 #[.agg (wcells hs)] w fun e w' => e = .returned (.agg (bcells (joinB hs))) ∧ Below w.heap.size w w' := by
  have Hh := Lib.hid hh
  clear hh
  go_enter Tryd.func37, Tryd.ntmps37
  go_upto_region 2 with (fail)
  rw [zeros32]
  have h0 : (((w.alloc (.cells (wcells hs) 31)).alloc (.cells (bcells (List.replicate 32 0)) 24)).alloc (.cells (bcells (List.replicate 32 0)) 24)).heap[w.heap.size]? = some (.cells (wcells hs) 31 (0, 0)) := heap_old (heap_old (heap_new rfl))
  have h1 : (((w.alloc (.cells (wcells hs) 31)).alloc (.cells (bcells (List.replicate 32 0)) 24)).alloc (.cells (bcells (List.replicate 32 0)) 24)).heap[w.heap.size + 1]? = some (.cells (bcells (List.replicate 32 0)) 24 (0, 0)) := heap_old (heap_new (by simp only [size_alloc1]))
  have h2 : (((w.alloc (.cells (wcells hs) 31)).alloc (.cells (bcells (List.replicate 32 0)) 24)).alloc (.cells (bcells (List.replicate 32 0)) 24)).heap[w.heap.size + 2]? = some (.cells (bcells (List.replicate 32 0)) 24 (0, 0)) := heap_new (by simp only [size_alloc1])
  have hbel : Below w.heap.size w (((w.alloc (.cells (wcells hs) 31)).alloc (.cells (bcells (List.replicate 32 0)) 24)).alloc (.cells (bcells (List.replicate 32 0)) 24)) := (((Below.refl _ _).alloc (Nat.le_refl _) _).alloc (by simp) _).alloc (by simp; omega) _
  generalize (((w.alloc (.cells (wcells hs) 31)).alloc (.cells (bcells (List.replicate 32 0)) 24)).alloc (.cells (bcells (List.replicate 32 0)) 24)) = w3 at *
  have H0 := Lib.hid h0
  have H1 := Lib.hid h1
  have H2 := Lib.hid h2
  have HB := Lib.hid hbel
  clear h0 h1 h2 hbel
  go_wp2_with (refine wpList_load_row rfl 31 (.tmp 1) rfl w.heap.size rfl 31 _ (0, 0) _ H0.out Tryd.underlying31 rfl (by rw [wcells_size, Hh.out]; exact size8w) ?_)
  go_loopw [4, 5, 7] (fun _ _ i wr => ∃ k : Nat, k ≤ 8 ∧ i = .int .i64 k ∧ 
      wr.heap[w.heap.size + 1]? = some (.cells (bcells (List.replicate 32 0)) 24 (0, 0)) ∧ wr.heap[w.heap.size + 2]? = some (.cells (bcells (firstB (joinAt hs) 32 (4 * k))) 24 (0, 0)) ∧ Below w.heap.size w wr)
    (fun _ _ i _ => 8 - (intOf i).toNat)
  case atStart => exact ⟨0, by omega, rfl, H1.out, by rw [firstB_zero]; exact H2.out, HB.out⟩
  case round =>
    clear H0 H1 H2 HB
    obtain ⟨k, hk, rfl, h1, h2, hb⟩ := hrel
    by_cases hlt : k < 8
    · have hix := idx_words 31 8 Tryd.underlying31 hs k hlt Hh.out
      have c0 := cell_bytes h2 (4 * k) (by rw [firstB_len]; omega)
      have c1 := cell_bytes h2 (4 * k + 1) (by rw [firstB_len]; omega)
      have c2 := cell_bytes h2 (4 * k + 2) (by rw [firstB_len]; omega)
      have c3 := cell_bytes h2 (4 * k + 3) (by rw [firstB_len]; omega)
      have f0 := frozen_of_row wr (w.heap.size + 2) (4 * k) _ _ h2
      have f1 := frozen_of_row wr (w.heap.size + 2) (4 * k + 1) _ _ h2
      have f2 := frozen_of_row wr (w.heap.size + 2) (4 * k + 2) _ _ h2
      have f3 := frozen_of_row wr (w.heap.size + 2) (4 * k + 3) _ _ h2
      have H1 := Lib.hid h1
      have H2 := Lib.hid h2
      have HB := Lib.hid hb
      clear h1 h2 hb
      have n0 : (4 * (k : Int)).toNat = 4 * k := by omega
      have n1 : (4 * (k : Int) + 1).toNat = 4 * k + 1 := by omega
      have n2 : (4 * (k : Int) + 2).toNat = 4 * k + 2 := by omega
      have n3 : (4 * (k : Int) + 3).toNat = 4 * k + 3 := by omega
      go_wp2
      go_roundw
      case rel =>
        refine ⟨k + 1, by omega, by go_num, ?_, ?_, ?_⟩
        · exact (heap_setCell_other _ _ _ _ (by simp only; omega)).trans ((heap_setCell_other _ _ _ _ (by simp only; omega)).trans ((heap_setCell_other _ _ _ _ (by simp only; omega)).trans ((heap_setCell_other _ _ _ _ (by simp only; omega)).trans H1.out)))
        · rw [← join_set]
          exact heap_setCell_same _ _ _ _ _ _ (heap_setCell_same _ _ _ _ _ _ (heap_setCell_same _ _ _ _ _ _ (heap_setCell_same _ _ _ _ _ _ H2.out)))
        · exact ((((HB.out).setCell (by simp only; omega) _).setCell (by simp only; omega) _).setCell (by simp only; omega) _).setCell (by simp only; omega) _
      case measure => simp [intOf]; omega
    · obtain rfl : k = 8 := by omega
      have HB := Lib.hid hb
      clear hb
      go_wp2_with (first | (refine wpList_load_row rfl 24 (.tmp 3) rfl (w.heap.size + 2) rfl 24 _ (0, 0) _ h2 Tryd.underlying24 rfl (by rw [bcells_size, firstB_len]; exact size32b) ?_) | (refine wpList_store_row rfl 24 (.tmp 2) (.tmp 38) rfl (w.heap.size + 1) _ rfl rfl 24 _ h1 (by rw [bcells_size, firstB_len]; exact size32b) (by simp only [bcells_size, firstB_len, List.length_replicate]) (bcells_one _) ?_))
      refine bodyPost_ret (v := .agg (bcells (firstB (joinAt hs) 32 (4 * 8)))) ?_ rfl ⟨by rw [firstB_all]; rfl, Below_setRow HB.out (by omega) _⟩
      exact results_cell_row rfl _ _ (w.heap.size + 1) 24 _ (0, 0) _ rfl (setRow_heap _ _ _ _ _ _ h1) Tryd.underlying24 rfl (by rw [bcells_size, firstB_len]; exact size32b)
def padI (n r : Int) : Int := (64 + r - n % 64) % 64
theorem padI_bd (n r : Int) : 0 ≤ padI n r ∧ padI n r < 64 := by unfold padI; omega
set_option maxHeartbeats 400000 in
/-- how many bytes must follow -/
theorem padTo_any (n r : Int) (w : World) (h0 : 0 ≤ n) (h1 : n < 4611686018427387904) (h2 : 0 ≤ r) (h3 : r < 64) :
    Calls Tryd.prog 34 #[.int .i64 n, .int .i64 r] w fun e w' => e = .returned (.int .i64 (padI n r)) ∧ w = w' := by
  go_enter Tryd.func34, Tryd.ntmps34
  go_wp2
  go_ret
  exact ⟨rfl, rfl⟩
/-- bytes as values -/
def vals (l : List UInt8) : List Value := l.map fun x => Value.int .u8 (bi x)
theorem vals_len (l : List UInt8) : (vals l).length = l.length := by simp [vals]
theorem vals_app (l m : List UInt8) : vals (l ++ m) = vals l ++ vals m := by simp [vals]
theorem vals_one (l : List UInt8) : ∀ u ∈ vals l, u.oneCell' = true := by simp [vals, Value.oneCell']
theorem vals_arr (l : List UInt8) : (vals l).toArray = bcells l := rfl
theorem vals_get (l : List UInt8) (j : Nat) (u : Value) (h : (vals l)[j]? = some u) : j < l.length ∧ u = .int .u8 (bi (byteAt l j)) := by
  have hl : j < l.length := by have := (List.getElem?_eq_some_iff.1 h).1; simpa [vals] using this
  refine ⟨hl, ?_⟩
  simp [vals, hl] at h
  simp [byteAt, hl, ← h]
theorem info5 : (Tryd.prog.info? 5).map (fun i => (i.zero, i.size, i.bytes)) = some (some (.int .u8 0), 1, 1) := by kernel_rfl
/-- the eight bytes of a number, the most significant one first -/
def be8 (x : Nat) : List UInt8 := (List.range 8).map fun j => UInt8.ofNat (x / 2 ^ (56 - 8 * j))
def padB (n : Nat) : List UInt8 := 128 :: List.replicate (padI (n + 1) 56).toNat 0 ++ be8 (8 * n)
theorem be8_take (x j : Nat) (h : j < 8) : (be8 x).take (j + 1) = (be8 x).take j ++ [UInt8.ofNat (x / 2 ^ (56 - 8 * j))] := by
  rw [List.take_succ_eq_append_getElem (by simp [be8]; omega)]
  simp [be8]
theorem low_nat (X t : Nat) : vals [UInt8.ofNat (X / 2 ^ t)] = [.int .u8 ((X : Int) / 2 ^ t % 256)] := by
  simp [vals, bi]
def Z72 : Array Value := bcells (List.replicate 72 0)
theorem Z72_0 : Z72[0]? = some (.int .u8 0) := by kernel_rfl
theorem Z72_made : madeCells (Value.int .u8 0).cells 72 = Z72 := by kernel_rfl
theorem Z72_size : (Z72.setIfInBounds 0 (.int .u8 128)).size = 72 := by kernel_rfl
theorem Z72_take (q : Nat) (h : q < 64) : (Z72.setIfInBounds 0 (.int .u8 128)).toList.take (q + 1) = vals (128 :: List.replicate q 0) := by
  have e : Z72.setIfInBounds 0 (.int .u8 128) = bcells (128 :: List.replicate 71 0) := by
    show (bcells (List.replicate 72 0)).setIfInBounds 0 (.int .u8 (bi 128)) = _
    rw [bcells_set]; rfl
  rw [e]
  show ((128 :: List.replicate 71 0).map fun x => Value.int .u8 (bi x)).take (q + 1) = _
  rw [List.map_cons, List.take_succ_cons, List.map_replicate, List.take_replicate, show min q 71 = q by omega]
  unfold vals
  rw [List.map_cons, List.map_replicate]
set_option maxRecDepth 100000 in
set_option maxHeartbeats 400000 in
/-- what follows n bytes -/
theorem padding_any (n : Int) (w : World) (h0 : 0 ≤ n) (h1 : n < 1152921504606846976) :
    Calls Tryd.prog 38 #[.int .i64 n] w fun e w' => ∃ v, e = .returned v ∧ w'.ownsRow w.heap.size 5 1 v (padB n.toNat).length (vals (padB n.toNat)) ∧ Below w.heap.size w w' := by
  obtain ⟨i0, hi, hz0, hz1, hz2⟩ := info_parts info5
  obtain ⟨p0, p1⟩ := padI_bd (n + 1) 56
  obtain ⟨m, rfl⟩ := Int.eq_ofNat_of_zero_le h0
  rw [Int.toNat_natCast]
  obtain ⟨q, hq⟩ := Int.eq_ofNat_of_zero_le p0
  rw [hq] at p0 p1
  have Hq := Lib.hid hq
  clear hq
  have q1 : q < 64 := by omega
  have hmk : ∀ w' : World, (Instr.makeSlice 22 (.int .i64 (1 + (q : Int))) (.int .i64 72)).run Tryd.prog w' = .ok (.slice (some ⟨w'.heap.size, 0, none⟩) (q + 1) 72) (w'.alloc (.cells Z72 5)) := fun w' => by
    rw [run_make w' 22 5 i0 _ Tryd.underlying22 hi hz0 .i64 .i64 (1 + (q : Int)) 72 (by omega) (by omega) (by omega) (by omega), hz1, ← Z72_made, show (1 + (q : Int)).toNat = q + 1 by omega]
    rfl
  have hz := Z72_0
  go_enter Tryd.func38, Tryd.ntmps38
  go_wp2_with (go_at_call 34; refine (padTo_any _ _ _ (by omega) (by omega) (by omega) (by omega)).mono ?_; rw [Hq.out]; rintro e w' ⟨rfl, rfl⟩)
  clear hmk hz
  have own : (w.alloc (.cells (Z72.setIfInBounds 0 (.int .u8 128)) 5)).ownsRow w.heap.size 5 1 (.slice (some ⟨w.heap.size, 0, none⟩) (q + 1) 72) (q + 1) (vals (128 :: List.replicate q 0)) :=
    ⟨by simp [vals], .inr ⟨w.heap.size, 72, _, rfl, Nat.le_refl _, heap_new rfl, by omega, by decide, by rw [Z72_size], by rw [Nat.mul_one, Z72_take q q1]⟩⟩
  have bel : Below w.heap.size w (w.alloc (.cells (Z72.setIfInBounds 0 (.int .u8 128)) 5)) := (Below.refl _ _).alloc (Nat.le_refl _) _
  generalize w.alloc (.cells (Z72.setIfInBounds 0 (.int .u8 128)) 5) = w4 at *
  obtain ⟨X, hX⟩ : ∃ X : Nat, X = 8 * m := ⟨_, rfl⟩
  have hX2 : 8 * (m : Int) = (X : Int) := by omega
  rw [hX2]
  have HX := Lib.hid hX
  have hX3 : X < 9223372036854775808 := by omega
  clear hX hX2
  go_loopw [3, 5] (fun v s wr => ∃ (j : Nat) (sh : Int), j ≤ 8 ∧ 8 * (j : Int) + sh = 56 ∧ v = .slice (some ⟨w.heap.size, 0, none⟩) (q + 1 + j) 72 ∧ s = .int .i64 sh ∧
      wr.ownsRow w.heap.size 5 1 (.slice (some ⟨w.heap.size, 0, none⟩) (q + 1 + j) 72) (q + 1 + j) (vals (128 :: List.replicate q 0) ++ vals ((be8 X).take j)) ∧ Below w.heap.size w wr)
    (fun _ s _ => (intOf s + 8).toNat)
  case atStart => exact ⟨0, 56, by omega, by omega, rfl, rfl, by simpa [vals] using own, bel⟩
  case round =>
    clear own bel
    obtain ⟨j, sh, hj, hsh, rfl, rfl, hown, hb⟩ := hrel
    have Hown := Lib.hid hown
    have HB := Lib.hid hb
    clear hown hb
    have Hi := Lib.hid (And.intro hi (And.intro hz0 (And.intro hz1 hz2)))
    clear hi hz0 hz1 hz2 h0
    have s2 : sh ≤ 56 := by omega
    by_cases hlt : j < 8
    · have s1 : 0 ≤ sh := by omega
      have Hsh := Lib.hid hsh
      clear hsh
      obtain ⟨t, rfl⟩ := Int.eq_ofNat_of_zero_le s1
      have e1 : min t 64 = t := by omega
      clear h1 p0 hX3
      have hs0 := Hi.out.2.2.1
      have HS := Lib.hid hs0
      clear hs0
      go_wp2_with (at_builtin; refine wpList_append_fits _ rfl (.tmp 20) (.tmp 25) 22 rfl w.heap.size 5 i0 1 Tryd.underlying22 Hi.out.1 HS.out w.heap.size (q + 1 + j) 72 _ rfl (Hown.out.alloc _) ⟨wr.heap.size, 0, none⟩ 1 1 [.int .u8 ((X : Int) / 2 ^ t % 256)] rfl rfl (cell_one_new _ _ _) (by simp [Value.oneCell']) (by omega) ?_)
      intro w5 hown5 hgrow
      have R : w5.ownsRow w.heap.size 5 1 (.slice (some ⟨w.heap.size, 0, none⟩) (q + 1 + (j + 1)) 72) (q + 1 + (j + 1)) (vals (128 :: List.replicate q 0) ++ vals ((be8 X).take (j + 1))) := by
        rw [be8_take X j hlt, vals_app, low_nat X (56 - 8 * j), show 56 - 8 * j = t by have := Hsh.out; omega]
        exact hown5
      have B5 : Below w.heap.size w w5 := (HB.out.alloc HB.out.size _).grown hgrow (by simp; have := HB.out.size; omega) (fun r hr => by cases hr; exact Nat.le_refl _)
      clear hgrow hown5
      have HR := Lib.hid R
      have HB5 := Lib.hid B5
      clear R B5
      go_wp2
      go_roundw
      case rel => exact ⟨j + 1, (t : Int) - 8, by omega, by have := Hsh.out; omega, rfl, rfl, HR.out, HB5.out⟩
      case measure => have := Hsh.out; simp [intOf]; omega
    · obtain rfl : j = 8 := by omega
      obtain rfl : sh = -8 := by omega
      go_wp2
      go_ret
      refine ⟨_, rfl, ?_, HB.out⟩
      have := Hown.out
      rw [← vals_app, show (be8 X).take 8 = be8 X from List.take_of_length_le (by simp [be8])] at this
      unfold padB
      rw [Hq.out, Int.toNat_natCast, ← HX.out]
      simpa [be8] using this
end Go.Proofs.YtdfpjhpkkhdpoaaDoor

/-
  A Value without its place; the laws' same and read.
-/
import Derived.Test.YtdnbkiaolimfjaaB1
import Derived.Laws.Tables
namespace Go.Proofs.Ytdnbkiaolimfjaa
open Go.RowKit
set_option linter.unusedSimpArgs false
set_option linter.unusedVariables false
/-- the fields of a Value behind its kind -/
structure PV where
  u : Nat
  n : Int
  b : Bool
  s : List UInt8
  l : List Int
def VM.pv (m : VM) : PV := ⟨m.u, m.n, m.b, m.s.data.toList, m.l⟩
def encP (k : Nat) (p : PV) : List UInt8 := if k % 5 = 0 then encU p.u else if k % 5 = 1 then encI p.n else if k % 5 = 2 then encB p.b else if k % 5 = 3 then encT p.s else encL p.l
theorem encV_eq (m : VM) : encV m = encP m.k m.pv := rfl
def psame (k : Nat) (p q : PV) : Bool := if k % 5 = 0 then p.u == q.u else if k % 5 = 1 then p.n == q.n else if k % 5 = 2 then p.b == q.b else if k % 5 = 3 then p.s == q.s else p.l == q.l
/-- reading a Value of a kind -/
def rVal (k : Nat) (s : RS) (most : Int) : PV × RS :=
  if k % 5 = 0 then (⟨(rUint s).1, 0, false, [], []⟩, (rUint s).2) else if k % 5 = 1 then (⟨0, (rInt s).1, false, [], []⟩, (rInt s).2)
  else if k % 5 = 2 then (⟨0, 0, (rBool s).1, [], []⟩, (rBool s).2) else if k % 5 = 3 then (⟨0, 0, false, (rText s most).1, []⟩, (rText s most).2)
  else (⟨0, 0, false, [], (rInts s most).1⟩, (rInts s most).2)
set_option maxRecDepth 100000 in
set_option maxHeartbeats 800000 in
theorem same_any (D1 D2 : Nat → Prop) (m1 m2 : VM) (w : World) (h1 : VOk D1 w m1) (h2 : VOk D2 w m2) :
    Calls Try.prog 23 #[m1.val, m2.val] w fun e w' => e = .returned (.bool (psame m1.k m1.pv m2.pv)) ∧ Below w.heap.size w w' := by
  obtain ⟨mk, mu, mn, mb, ms, ma, ml, mc, mz⟩ := m1
  obtain ⟨nk, nu, nn, nb, ns, na, nl, nc, nz⟩ := m2
  simp only [VM.val]
  have H1 := Lib.hid h1
  have H2 := Lib.hid h2
  have k1 : mk < 256 := h1.k
  clear h1 h2
  have hb2 : ∀ o o' : Obj, Below w.heap.size w ((w.alloc o).alloc o') := fun o o' => ((Below.refl _ _).alloc (Nat.le_refl _) _).alloc (by simp) _
  have HB2 := Lib.hid hb2
  clear hb2
  have h5 : mk % 5 = 0 ∨ mk % 5 = 1 ∨ mk % 5 = 2 ∨ mk % 5 = 3 ∨ mk % 5 = 4 := by omega
  rcases h5 with h0 | h0 | h0 | h0 | h0
  · have HE : Hid (psame mk (VM.pv ⟨mk, mu, mn, mb, ms, ma, ml, mc, mz⟩) (VM.pv ⟨nk, nu, nn, nb, ns, na, nl, nc, nz⟩) = ((mu : Int) == (nu : Int))) := Lib.hid (by simp only [psame, VM.pv, h0]; rw [Bool.eq_iff_iff]; simp; omega)
    go_enter Try.func23, Try.ntmps23
    go_wp2
    go_ret
    exact ⟨by rw [HE.out]; rfl, HB2.out _ _⟩
  · have HE : Hid (psame mk (VM.pv ⟨mk, mu, mn, mb, ms, ma, ml, mc, mz⟩) (VM.pv ⟨nk, nu, nn, nb, ns, na, nl, nc, nz⟩) = (mn == nn)) := Lib.hid (by simp [psame, VM.pv, h0])
    go_enter Try.func23, Try.ntmps23
    go_wp2
    go_ret
    exact ⟨by rw [HE.out]; rfl, HB2.out _ _⟩
  · have HE : Hid (psame mk (VM.pv ⟨mk, mu, mn, mb, ms, ma, ml, mc, mz⟩) (VM.pv ⟨nk, nu, nn, nb, ns, na, nl, nc, nz⟩) = (mb == nb)) := Lib.hid (by simp [psame, VM.pv, h0])
    go_enter Try.func23, Try.ntmps23
    go_wp2
    go_ret
    exact ⟨by rw [HE.out]; rfl, HB2.out _ _⟩
  · have HE : Hid (psame mk (VM.pv ⟨mk, mu, mn, mb, ms, ma, ml, mc, mz⟩) (VM.pv ⟨nk, nu, nn, nb, ns, na, nl, nc, nz⟩) = (ms.toList == ns.toList)) := Lib.hid (by rw [ByteArray.toList_eq, ByteArray.toList_eq]; simp [psame, VM.pv, h0])
    go_enter Try.func23, Try.ntmps23
    go_wp2
    go_ret
    exact ⟨by rw [HE.out]; rfl, HB2.out _ _⟩
  · have HE : Hid (psame mk (VM.pv ⟨mk, mu, mn, mb, ms, ma, ml, mc, mz⟩) (VM.pv ⟨nk, nu, nn, nb, ns, na, nl, nc, nz⟩) = (mz == nz)) := Lib.hid (by simp [psame, VM.pv, h0])
    go_enter Try.func23, Try.ntmps23
    go_wp2_with (go_at_call 52; refine (sameInts_any D1 D2 ma ml mc mz na nl nc nz _ (H1.out.l.kept (((Kept.refl (fun _ => False) w).alloc _).alloc _) (fun _ _ _ h => h)) (H2.out.l.kept (((Kept.refl (fun _ => False) w).alloc _).alloc _) (fun _ _ _ h => h))).mono ?_; rintro e w2 ⟨rfl, hb⟩; have HB3 := Lib.hid hb; clear hb)
    go_ret
    exact ⟨by rw [HE.out]; rfl, (HB2.out _ _).trans (HB3.out.mono (HB2.out _ _).size)⟩
def rcell (mk : Nat) : Array Value := #[.int .u8 (mk : Int), .int .u64 0, .int .i64 0, .bool false, .string ⟨#[]⟩, .slice none 0 0]
theorem size34 (x : List Value) (h : x.length = 6) : (Try.prog.info? 34).map (·.size) = some x.toArray.size := by
  rw [List.size_toArray, h]; kernel_rfl
theorem VM.cells_arr (m : VM) : m.cells.toArray = #[.int .u8 (m.k : Int), .int .u64 (m.u : Int), .int .i64 m.n, .bool m.b, .string m.s, .slice m.a m.ln m.c] := rfl
def rzero : Array Value := #[.int .u8 0, .int .u64 0, .int .i64 0, .bool false, .string ⟨#[]⟩, .slice none 0 0]
/-- where read stands when a method has returned -/
structure RdMid (w : World) (mk : Nat) (g : Nat) (k : Option Nat) (l : List UInt8) (e : Nat) (w3 w4 : World) : Prop where
  g1 : w4.heap[w.heap.size + 1]? = some (.cells rzero 34 (0, 0))
  g2 : w4.heap[w.heap.size + 1 + 1]? = some (.cells (rcell mk) 34 (0, 0))
  k3 : Kept (fun _ => False) w w3
  z3 : w3.heap.size = w.heap.size + 3
  r4 : Reads g k w3 l e w4
theorem RdMid.mk' {w : World} {mk : Nat} {o : Obj} {g : Nat} {k : Option Nat} (hg : g < w.heap.size) {w3 : World} (h3 : w3 = ((w.alloc o).alloc (.cells rzero 34)).alloc (.cells (rcell mk) 34)) :
    Kept (fun _ => False) w w3 ∧ ∀ l e w4, Reads g k w3 l e w4 → RdMid w mk g k l e w3 w4 := by
  have k3 : Kept (fun _ => False) w w3 := by rw [h3]; exact (((Kept.refl _ w).alloc _).alloc _).alloc _
  have z3 : w3.heap.size = w.heap.size + 3 := by rw [h3, size_alloc1, size_alloc1, size_alloc1]
  have a1 : w3.heap[w.heap.size + 1]? = some (.cells rzero 34 (0, 0)) := by rw [h3]; exact heap_old (heap_new (by rw [size_alloc1]))
  have a2 : w3.heap[w.heap.size + 1 + 1]? = some (.cells (rcell mk) 34 (0, 0)) := by rw [h3]; exact heap_new (by rw [size_alloc1, size_alloc1])
  refine ⟨k3, fun l e w4 h4 => ⟨h4.2.heap a1 (by omega), h4.2.heap a2 (by omega), k3, z3, h4⟩⟩
/-- the end of read: field j has been stored, the whole has been copied -/
theorem RdMid.fin {w : World} {mk : Nat} {g : Nat} {k : Option Nat} {l : List UInt8} {e : Nat} {w3 w4 : World} (h : RdMid w mk g k l e w3 w4) (hg : g < w.heap.size) (hk : ∀ j, k = some j → j < w.heap.size) (j : Nat) (V : Value) :
    (w4.setCell ⟨w.heap.size + 1 + 1, j, none⟩ V).heap[w.heap.size + 1]? = some (.cells rzero 34 (0, 0)) ∧
    (w4.setCell ⟨w.heap.size + 1 + 1, j, none⟩ V).heap[w.heap.size + 1 + 1]? = some (.cells ((rcell mk).setIfInBounds j V) 34 (0, 0)) ∧
    Reads g k w l e ((w4.setCell ⟨w.heap.size + 1 + 1, j, none⟩ V).setRow (w.heap.size + 1) ((rcell mk).setIfInBounds j V)) ∧
    Kept (fun b => b = w.heap.size + 1 ∨ b = w.heap.size + 1 + 1) w4 ((w4.setCell ⟨w.heap.size + 1 + 1, j, none⟩ V).setRow (w.heap.size + 1) ((rcell mk).setIfInBounds j V)) := by
  have K : Kept (fun b => b = w.heap.size + 1 ∨ b = w.heap.size + 1 + 1) w4 ((w4.setCell ⟨w.heap.size + 1 + 1, j, none⟩ V).setRow (w.heap.size + 1) ((rcell mk).setIfInBounds j V)) :=
    ((Kept.refl (fun b => b = w.heap.size + 1 ∨ b = w.heap.size + 1 + 1) w4).setCell (fun _ => .inr rfl) V).setRow (fun _ => .inl rfl) _
  refine ⟨?_, heap_setCell_same w4 _ j _ _ _ h.g2, ⟨h.r4.1.kept K (by omega) (fun i hi => by have := hk i hi; omega), ?_⟩, K⟩
  · rw [heap_setCell_other w4 _ _ _ (by simp)]; exact h.g1
  · exact ((h.k3.mono (T := fun b => b = g) (fun _ _ h => h.elim)).trans h.r4.2 (fun _ _ h => h)).trans K (fun i hi hh => by omega)
theorem rcell_facts {w4 : World} {z mk : Nat} (h : w4.heap[z]? = some (.cells (rcell mk) 34 (0, 0))) : w4.cell? ⟨z, 1, none⟩ = some (.int .u64 0) ∧ w4.cell? ⟨z, 2, none⟩ = some (.int .i64 0) ∧ w4.cell? ⟨z, 3, none⟩ = some (.bool false) ∧ w4.cell? ⟨z, 4, none⟩ = some (.string ⟨#[]⟩) ∧ w4.cell? ⟨z, 5, none⟩ = some (.slice none 0 0) ∧ ∀ j, w4.frozen? ⟨z, j, none⟩ = false :=
  ⟨by rw [cell_of_row w4 z 1 _ _ _ h]; rfl, by rw [cell_of_row w4 z 2 _ _ _ h]; rfl, by rw [cell_of_row w4 z 3 _ _ _ h]; rfl, by rw [cell_of_row w4 z 4 _ _ _ h]; rfl, by rw [cell_of_row w4 z 5 _ _ _ h]; rfl, fun j => frozen_of_row w4 z j _ _ h⟩
theorem rOk_nil (D : Nat → Prop) (w : World) (mk : Nat) (hm : mk < 256) (u : Nat) (hu : u < 18446744073709551616) (n : Int) (h1 : -9223372036854775808 ≤ n) (h2 : n ≤ 9223372036854775807) (b : Bool) (s : ByteArray) (hs : s.size ≤ 9223372036854775807) : VOk D w ⟨mk, u, n, b, s, none, 0, 0, []⟩ :=
  ⟨hm, hu, h1, h2, hs, ⟨rfl, Sl.empty D w none 0 1 (Nat.zero_le _) (fun _ => rfl)⟩, fun x hx => by cases hx⟩
theorem rset_size (mk j : Nat) (V : Value) : (Try.prog.info? 34).map (·.size) = some ((rcell mk).setIfInBounds j V).size := by
  rw [Array.size_setIfInBounds]; kernel_rfl
theorem rset_one (mk j : Nat) (V : Value) (hV : V.oneCell' = true) : ((rcell mk).setIfInBounds j V).all (·.oneCell') = true := by
  rw [Array.all_eq_true']
  intro x hx
  rcases Array.mem_or_eq_of_mem_setIfInBounds hx with h | h
  · simp [rcell] at h
    rcases h with rfl | rfl | rfl | rfl | rfl | rfl <;> rfl
  · rw [h]; exact hV
set_option maxRecDepth 100000 in
set_option maxHeartbeats 800000 in
theorem read_any (g : Nat) (k : Option Nat) (l : List UInt8) (e : Nat) (m : VM) (most : Int) (w : World) (hR : Rd w g k l e) (hk : ∀ j, k = some j → j < w.heap.size) (hm : m.k < 256) (hl : l.length ≤ 100000000000) (h1 : -9223372036854775808 ≤ most) (h2 : most ≤ 9223372036854775807) :
    Calls Try.prog 21 #[.pointer (some ⟨g, 0, none⟩), m.val, .int .i64 most] w fun x w' => ∃ m' : VM, x = .returned m'.val ∧ m'.k = m.k ∧ m'.pv = (rVal m.k ⟨l, e⟩ most).1 ∧ VOk (fun b => w.heap.size ≤ b) w' m' ∧ Reads g k w (rVal m.k ⟨l, e⟩ most).2.l (rVal m.k ⟨l, e⟩ most).2.e w' := by
  obtain ⟨mk, mu, mn, mb, ms, ma, ml, mc, mz⟩ := m
  simp only [VM.val]
  simp only at hm
  have HR := Lib.hid hR
  have HK := Lib.hid hk
  clear hR hk
  have h5 : mk % 5 = 0 ∨ mk % 5 = 1 ∨ mk % 5 = 2 ∨ mk % 5 = 3 ∨ mk % 5 = 4 := by omega
  rcases h5 with h0 | h0 | h0 | h0 | h0
  · go_enter Try.func21, Try.ntmps21
    go_wp2_with fail
    obtain ⟨w3, h3⟩ : ∃ w3, w3 = ((w.alloc (.cells #[.int .u8 (mk : Int), .int .u64 (mu : Int), .int .i64 mn, .bool mb, .string ms, .slice ma ml mc] 34)).alloc (.cells rzero 34)).alloc (.cells (rcell mk) 34) := ⟨_, rfl⟩
    have hmid := RdMid.mk' (k := k) HR.out.lt h3
    have hz3 : w.heap.size + 3 ≤ w3.heap.size := by rw [h3, size_alloc1, size_alloc1, size_alloc1]; exact Nat.le_refl _
    simp only [rzero, rcell] at h3
    rw [← h3]
    have hm0 := Lib.hid hmid
    clear h3 hmid
    refine (ruint_any g k l e w3 (HR.out.kept hm0.out.1 (fun h => h) (fun _ _ h => h)) (by omega)).mono ?_
    rintro x w4 ⟨rfl, h4⟩
    have M4 := hm0.out.2 _ _ _ h4
    obtain ⟨c1, c2, c3, c4, c5, cf⟩ := rcell_facts M4.g2
    have f1 := cf 1
    have hfin := M4.fin HR.out.lt HK.out 1 (.int .u64 ((rUint ⟨l, e⟩).1 : Int))
    have Hfin := Lib.hid hfin
    have hval := rUint_val ⟨l, e⟩
    have Hv : Hid (rVal mk ⟨l, e⟩ most = (⟨(rUint ⟨l, e⟩).1, 0, false, [], []⟩, (rUint ⟨l, e⟩).2)) := Lib.hid (by unfold rVal; rw [if_pos h0])
    generalize rUint ⟨l, e⟩ = R at *
    have HM := Lib.hid M4
    clear hfin M4 cf h4 hm0 hz3
    go_wp2_with (first
      | (refine wpList_load_row rfl 34 (.tmp 7) rfl (w.heap.size + 1 + 1) rfl 34 _ (0, 0) _ Hfin.out.2.1 Try.underlying34 rfl (rset_size _ _ _) ?_)
      | (refine wpList_store_row rfl 34 (.tmp 6) (.tmp 39) rfl (w.heap.size + 1) _ rfl rfl 34 _ Hfin.out.1 (rset_size _ _ _) (by rw [Array.size_setIfInBounds]; rfl) (rset_one _ _ _ rfl) ?_))
    refine bodyPost_ret (v := .agg ((rcell mk).setIfInBounds 1 _)) (results_cell_row rfl _ _ (w.heap.size + 1) 34 _ (0, 0) _ rfl (setRow_heap _ _ _ _ _ _ Hfin.out.1) Try.underlying34 rfl (rset_size _ _ _)) rfl ⟨⟨mk, R.1, 0, false, ⟨#[]⟩, none, 0, 0, []⟩, rfl, rfl, by rw [Hv.out]; rfl, rOk_nil _ _ mk hm R.1 hval 0 (by omega) (by omega) false ⟨#[]⟩ (Nat.zero_le _), by rw [Hv.out]; exact Hfin.out.2.2.1⟩
  · go_enter Try.func21, Try.ntmps21
    go_wp2_with fail
    obtain ⟨w3, h3⟩ : ∃ w3, w3 = ((w.alloc (.cells #[.int .u8 (mk : Int), .int .u64 (mu : Int), .int .i64 mn, .bool mb, .string ms, .slice ma ml mc] 34)).alloc (.cells rzero 34)).alloc (.cells (rcell mk) 34) := ⟨_, rfl⟩
    have hmid := RdMid.mk' (k := k) HR.out.lt h3
    have hz3 : w.heap.size + 3 ≤ w3.heap.size := by rw [h3, size_alloc1, size_alloc1, size_alloc1]; exact Nat.le_refl _
    simp only [rzero, rcell] at h3
    rw [← h3]
    have hm0 := Lib.hid hmid
    clear h3 hmid
    refine (rint_any g k l e w3 (HR.out.kept hm0.out.1 (fun h => h) (fun _ _ h => h)) (by omega)).mono ?_
    rintro x w4 ⟨rfl, h4⟩
    have M4 := hm0.out.2 _ _ _ h4
    obtain ⟨c1, c2, c3, c4, c5, cf⟩ := rcell_facts M4.g2
    have f1 := cf 2
    have hfin := M4.fin HR.out.lt HK.out 2 (.int .i64 (rInt ⟨l, e⟩).1)
    have Hfin := Lib.hid hfin
    have hval := rInt_bd ⟨l, e⟩
    have Hv : Hid (rVal mk ⟨l, e⟩ most = (⟨0, (rInt ⟨l, e⟩).1, false, [], []⟩, (rInt ⟨l, e⟩).2)) := Lib.hid (by unfold rVal; rw [if_neg (by omega), if_pos h0])
    generalize rInt ⟨l, e⟩ = R at *
    have HM := Lib.hid M4
    clear hfin M4 cf h4 hm0 hz3
    go_wp2_with (first
      | (refine wpList_load_row rfl 34 (.tmp 7) rfl (w.heap.size + 1 + 1) rfl 34 _ (0, 0) _ Hfin.out.2.1 Try.underlying34 rfl (rset_size _ _ _) ?_)
      | (refine wpList_store_row rfl 34 (.tmp 6) (.tmp 39) rfl (w.heap.size + 1) _ rfl rfl 34 _ Hfin.out.1 (rset_size _ _ _) (by rw [Array.size_setIfInBounds]; rfl) (rset_one _ _ _ rfl) ?_))
    refine bodyPost_ret (v := .agg ((rcell mk).setIfInBounds 2 _)) (results_cell_row rfl _ _ (w.heap.size + 1) 34 _ (0, 0) _ rfl (setRow_heap _ _ _ _ _ _ Hfin.out.1) Try.underlying34 rfl (rset_size _ _ _)) rfl ⟨⟨mk, 0, R.1, false, ⟨#[]⟩, none, 0, 0, []⟩, rfl, rfl, by rw [Hv.out]; rfl, rOk_nil _ _ mk hm 0 (by omega) R.1 hval.1 hval.2 false ⟨#[]⟩ (Nat.zero_le _), by rw [Hv.out]; exact Hfin.out.2.2.1⟩
  · go_enter Try.func21, Try.ntmps21
    go_wp2_with fail
    obtain ⟨w3, h3⟩ : ∃ w3, w3 = ((w.alloc (.cells #[.int .u8 (mk : Int), .int .u64 (mu : Int), .int .i64 mn, .bool mb, .string ms, .slice ma ml mc] 34)).alloc (.cells rzero 34)).alloc (.cells (rcell mk) 34) := ⟨_, rfl⟩
    have hmid := RdMid.mk' (k := k) HR.out.lt h3
    have hz3 : w.heap.size + 3 ≤ w3.heap.size := by rw [h3, size_alloc1, size_alloc1, size_alloc1]; exact Nat.le_refl _
    simp only [rzero, rcell] at h3
    rw [← h3]
    have hm0 := Lib.hid hmid
    clear h3 hmid
    refine (rbool_any g k l e w3 (HR.out.kept hm0.out.1 (fun h => h) (fun _ _ h => h)) (by omega)).mono ?_
    rintro x w4 ⟨rfl, h4⟩
    have M4 := hm0.out.2 _ _ _ h4
    obtain ⟨c1, c2, c3, c4, c5, cf⟩ := rcell_facts M4.g2
    have f1 := cf 3
    have hfin := M4.fin HR.out.lt HK.out 3 (.bool (rBool ⟨l, e⟩).1)
    have Hfin := Lib.hid hfin
    skip
    have Hv : Hid (rVal mk ⟨l, e⟩ most = (⟨0, 0, (rBool ⟨l, e⟩).1, [], []⟩, (rBool ⟨l, e⟩).2)) := Lib.hid (by unfold rVal; rw [if_neg (by omega), if_neg (by omega), if_pos h0])
    generalize rBool ⟨l, e⟩ = R at *
    have HM := Lib.hid M4
    clear hfin M4 cf h4 hm0 hz3
    go_wp2_with (first
      | (refine wpList_load_row rfl 34 (.tmp 7) rfl (w.heap.size + 1 + 1) rfl 34 _ (0, 0) _ Hfin.out.2.1 Try.underlying34 rfl (rset_size _ _ _) ?_)
      | (refine wpList_store_row rfl 34 (.tmp 6) (.tmp 39) rfl (w.heap.size + 1) _ rfl rfl 34 _ Hfin.out.1 (rset_size _ _ _) (by rw [Array.size_setIfInBounds]; rfl) (rset_one _ _ _ rfl) ?_))
    refine bodyPost_ret (v := .agg ((rcell mk).setIfInBounds 3 _)) (results_cell_row rfl _ _ (w.heap.size + 1) 34 _ (0, 0) _ rfl (setRow_heap _ _ _ _ _ _ Hfin.out.1) Try.underlying34 rfl (rset_size _ _ _)) rfl ⟨⟨mk, 0, 0, R.1, ⟨#[]⟩, none, 0, 0, []⟩, rfl, rfl, by rw [Hv.out]; rfl, rOk_nil _ _ mk hm 0 (by omega) 0 (by omega) (by omega) R.1 ⟨#[]⟩ (Nat.zero_le _), by rw [Hv.out]; exact Hfin.out.2.2.1⟩
  · go_enter Try.func21, Try.ntmps21
    go_wp2_with fail
    obtain ⟨w3, h3⟩ : ∃ w3, w3 = ((w.alloc (.cells #[.int .u8 (mk : Int), .int .u64 (mu : Int), .int .i64 mn, .bool mb, .string ms, .slice ma ml mc] 34)).alloc (.cells rzero 34)).alloc (.cells (rcell mk) 34) := ⟨_, rfl⟩
    have hmid := RdMid.mk' (k := k) HR.out.lt h3
    have hz3 : w.heap.size + 3 ≤ w3.heap.size := by rw [h3, size_alloc1, size_alloc1, size_alloc1]; exact Nat.le_refl _
    simp only [rzero, rcell] at h3
    rw [← h3]
    have hm0 := Lib.hid hmid
    clear h3 hmid
    refine (rtext_any g k l e most w3 (HR.out.kept hm0.out.1 (fun h => h) (fun _ _ h => h)) (by omega) h1 h2).mono ?_
    rintro x w4 ⟨rfl, h4⟩
    have M4 := hm0.out.2 _ _ _ h4
    obtain ⟨c1, c2, c3, c4, c5, cf⟩ := rcell_facts M4.g2
    have f1 := cf 4
    have hfin := M4.fin HR.out.lt HK.out 4 (.string ⟨(rText ⟨l, e⟩ most).1.toArray⟩)
    have Hfin := Lib.hid hfin
    have hval := rText_len ⟨l, e⟩ most
    have Hv : Hid (rVal mk ⟨l, e⟩ most = (⟨0, 0, false, (rText ⟨l, e⟩ most).1, []⟩, (rText ⟨l, e⟩ most).2)) := Lib.hid (by unfold rVal; rw [if_neg (by omega), if_neg (by omega), if_neg (by omega), if_pos h0])
    generalize rText ⟨l, e⟩ most = R at *
    have HM := Lib.hid M4
    clear hfin M4 cf h4 hm0 hz3
    go_wp2_with (first
      | (refine wpList_load_row rfl 34 (.tmp 7) rfl (w.heap.size + 1 + 1) rfl 34 _ (0, 0) _ Hfin.out.2.1 Try.underlying34 rfl (rset_size _ _ _) ?_)
      | (refine wpList_store_row rfl 34 (.tmp 6) (.tmp 39) rfl (w.heap.size + 1) _ rfl rfl 34 _ Hfin.out.1 (rset_size _ _ _) (by rw [Array.size_setIfInBounds]; rfl) (rset_one _ _ _ rfl) ?_))
    refine bodyPost_ret (v := .agg ((rcell mk).setIfInBounds 4 _)) (results_cell_row rfl _ _ (w.heap.size + 1) 34 _ (0, 0) _ rfl (setRow_heap _ _ _ _ _ _ Hfin.out.1) Try.underlying34 rfl (rset_size _ _ _)) rfl ⟨⟨mk, 0, 0, false, ⟨R.1.toArray⟩, none, 0, 0, []⟩, rfl, rfl, by rw [Hv.out]; rfl, rOk_nil _ _ mk hm 0 (by omega) 0 (by omega) (by omega) false _ (by simp only [ByteArray.size, List.size_toArray]; omega), by rw [Hv.out]; exact Hfin.out.2.2.1⟩
  · go_enter Try.func21, Try.ntmps21
    go_wp2_with fail
    obtain ⟨w3, h3⟩ : ∃ w3, w3 = ((w.alloc (.cells #[.int .u8 (mk : Int), .int .u64 (mu : Int), .int .i64 mn, .bool mb, .string ms, .slice ma ml mc] 34)).alloc (.cells rzero 34)).alloc (.cells (rcell mk) 34) := ⟨_, rfl⟩
    have hmid := RdMid.mk' (k := k) HR.out.lt h3
    have hz3 : w.heap.size + 3 ≤ w3.heap.size := by rw [h3, size_alloc1, size_alloc1, size_alloc1]; exact Nat.le_refl _
    simp only [rzero, rcell] at h3
    rw [← h3]
    have hm0 := Lib.hid hmid
    clear h3 hmid
    refine (rints_any g k l e most w3 (HR.out.kept hm0.out.1 (fun h => h) (fun _ _ h => h)) (fun j hj => by have := HK.out j hj; omega) (by omega) h1 h2).mono ?_
    rintro x w4 ⟨v, rfl, ⟨kk, ho, hff⟩, h4⟩
    obtain ⟨va, vc, rfl, hsl⟩ := ho.sl
    have M4 := hm0.out.2 _ _ _ h4
    obtain ⟨c1, c2, c3, c4, c5, cf⟩ := rcell_facts M4.g2
    have f1 := cf 5
    have hfin := M4.fin HR.out.lt HK.out 5 (.slice va (rInts ⟨l, e⟩ most).1.length vc)
    have Hfin := Lib.hid hfin
    have hval : Ok64 (rInts ⟨l, e⟩ most).1 := rIntsGo_ok _ _ _ (fun _ h => by cases h)
    have HS := Lib.hid hsl
    have HF := Lib.hid (fun j hj => Nat.le_trans (by omega) (hff j hj) : ∀ j, kk = some j → w.heap.size + 3 ≤ j)
    clear hsl hff ho
    have Hv : Hid (rVal mk ⟨l, e⟩ most = (⟨0, 0, false, [], (rInts ⟨l, e⟩ most).1⟩, (rInts ⟨l, e⟩ most).2)) := Lib.hid (by unfold rVal; rw [if_neg (by omega), if_neg (by omega), if_neg (by omega), if_neg (by omega)])
    generalize rInts ⟨l, e⟩ most = R at *
    have HM := Lib.hid M4
    clear hfin M4 cf h4 hm0 hz3
    go_wp2_with (first
      | (refine wpList_load_row rfl 34 (.tmp 7) rfl (w.heap.size + 1 + 1) rfl 34 _ (0, 0) _ Hfin.out.2.1 Try.underlying34 rfl (rset_size _ _ _) ?_)
      | (refine wpList_store_row rfl 34 (.tmp 6) (.tmp 39) rfl (w.heap.size + 1) _ rfl rfl 34 _ Hfin.out.1 (rset_size _ _ _) (by rw [Array.size_setIfInBounds]; rfl) (rset_one _ _ _ rfl) ?_))
    refine bodyPost_ret (v := .agg ((rcell mk).setIfInBounds 5 _)) (results_cell_row rfl _ _ (w.heap.size + 1) 34 _ (0, 0) _ rfl (setRow_heap _ _ _ _ _ _ Hfin.out.1) Try.underlying34 rfl (rset_size _ _ _)) rfl ⟨⟨mk, 0, 0, false, ⟨#[]⟩, va, R.1.length, vc, R.1⟩, rfl, rfl, by rw [Hv.out]; rfl, ⟨hm, (show (0 : Nat) < 18446744073709551616 by omega), (show (-9223372036854775808 : Int) ≤ 0 by omega), (show (0 : Int) ≤ 9223372036854775807 by omega), Nat.zero_le _, ⟨rfl, (HS.out.kept (by decide) Hfin.out.2.2.2 (fun b _ hb hc => by have := HF.out b hb; omega)).dom (fun b hb => by have := HF.out b hb; omega)⟩, hval⟩, by rw [Hv.out]; exact Hfin.out.2.2.1⟩
end Go.Proofs.Ytdnbkiaolimfjaa

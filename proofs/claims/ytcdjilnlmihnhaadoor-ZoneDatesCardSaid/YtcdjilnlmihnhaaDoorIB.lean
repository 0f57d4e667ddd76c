/-
  Parse, the program's (written by gen_IB.py).
-/
import Derived.Test.YtcdjilnlmihnhaaDoorIA
namespace Go.Proofs.YtcdjilnlmihnhaaDoor
open Go.RowKit
set_option linter.unusedSimpArgs false
set_option linter.unusedVariables false
attribute [local go_sem ↓] exec_storeDate
attribute [local go_sem] run_storeDate
def prsE (l : List UInt8) : Int := if wellF l = true then chk (numL (l.take 4)) (numL ((l.drop 5).take 2)) (numL (l.drop 8)) else 7
def prsN (l : List UInt8) : Int := if wellF l = true then dayR (numL (l.take 4)) (numL ((l.drop 5).take 2)) (numL (l.drop 8)) else 0
theorem idx_split (c : UInt8) : ∀ l : List UInt8, 0 ≤ Go.Lib.indexByte l c → l = l.take (Go.Lib.indexByte l c).toNat ++ c :: l.drop ((Go.Lib.indexByte l c).toNat + 1)
  | [], h => by simp [Go.Lib.indexByte] at h
  | b :: l, h => by
    unfold Go.Lib.indexByte at h ⊢
    by_cases hb : (b == c) = true
    · rw [if_pos hb]
      have : b = c := by simpa using hb
      simp [this]
    · rw [if_neg hb] at h ⊢
      by_cases h1 : (Go.Lib.indexByte l c == -1) = true
      · rw [if_pos h1] at h; omega
      · rw [if_neg h1] at h ⊢
        have hg := Go.Lib.indexByte_ge l c
        have h2 : Go.Lib.indexByte l c ≠ -1 := by simpa using h1
        have ih := idx_split c l (by omega)
        rw [show (Go.Lib.indexByte l c + 1).toNat = (Go.Lib.indexByte l c).toNat + 1 by omega, List.take_succ_cons, List.drop_succ_cons, List.cons_append, ← ih]
theorem idx_app (c : UInt8) : ∀ (a r : List UInt8), (∀ x ∈ a, x ≠ c) → Go.Lib.indexByte (a ++ c :: r) c = (a.length : Int)
  | [], r, _ => by simp [Go.Lib.indexByte]
  | b :: a, r, h => by
    have ih := idx_app c a r (fun x hx => h x (List.mem_cons_of_mem _ hx))
    have hb : (b == c) = false := by simpa using h b (List.mem_cons_self ..)
    rw [List.cons_append]
    unfold Go.Lib.indexByte
    rw [hb, ih]
    have : ((a.length : Int) == -1) = false := by rw [beq_eq_false_iff_ne]; omega
    rw [this]
    simp
theorem ext_take (s : ByteArray) (i : Nat) : (s.extract 0 i).data.toList = s.data.toList.take i := by rw [Go.Lib.extract_eq]; simp
theorem ext_drop (s : ByteArray) (i : Nat) : (s.extract i s.size).data.toList = s.data.toList.drop i := by
  have h : s.size = s.data.toList.length := by rw [Array.length_toList]; rfl
  rw [Go.Lib.extract_eq, h]
  show ((s.data.toList.drop i).take (s.data.toList.length - i)) = _
  rw [List.take_of_length_le (by rw [List.length_drop]; exact Nat.le_refl _)]
theorem cut_list (s : ByteArray) : (dashI s = -1 ∧ (cutA s).data.toList = s.data.toList ∧ (cutB s).data.toList = []) ∨ s.data.toList = (cutA s).data.toList ++ 45 :: (cutB s).data.toList := by
  rcases dashI_cases s with h | ⟨i, h, hi⟩
  · left; unfold cutA cutB; rw [h]; exact ⟨rfl, rfl, rfl⟩
  · right
    have hs := idx_split 45 s.data.toList (by have : dashI s = Go.Lib.indexByte s.data.toList 45 := rfl; omega)
    have e : Go.Lib.indexByte s.data.toList 45 = (i : Int) := h
    rw [e, Int.toNat_natCast] at hs
    unfold cutA cutB
    rw [if_pos (by omega), if_pos (by omega), h, Int.toNat_natCast, ext_take, ext_drop]
    exact hs
theorem cut_of (s : ByteArray) (a r : List UInt8) (hs : s.data.toList = a ++ 45 :: r) (ha : a.all isD = true) : (cutA s).data.toList = a ∧ (cutB s).data.toList = r := by
  have hi : dashI s = (a.length : Int) := by
    unfold dashI
    rw [hs]
    refine idx_app 45 a r (fun x hx e => ?_)
    have := List.all_eq_true.1 ha x hx
    rw [e] at this
    exact absurd this (by decide)
  unfold cutA cutB
  rw [if_pos (by omega), if_pos (by omega), hi, Int.toNat_natCast, ext_take, ext_drop, hs]
  simp
theorem wellF_of (a b c : List UInt8) (ha : a.length = 4) (hb : b.length = 2) (hc : c.length = 2) (da : a.all isD = true) (db : b.all isD = true) (dc : c.all isD = true) :
    wellF (a ++ 45 :: (b ++ 45 :: c)) = true ∧ (a ++ 45 :: (b ++ 45 :: c)).take 4 = a ∧ ((a ++ 45 :: (b ++ 45 :: c)).drop 5).take 2 = b ∧ (a ++ 45 :: (b ++ 45 :: c)).drop 8 = c := by
  match a, b, c, ha, hb, hc with
  | [a0, a1, a2, a3], [b0, b1], [c0, c1], _, _, _ =>
    refine ⟨?_, rfl, rfl, rfl⟩
    show ((true && true && true && [a0, a1, a2, a3].all isD && [b0, b1].all isD && [c0, c1].all isD) = true)
    rw [da, db, dc]
    rfl
theorem of_wellF (l : List UInt8) (h : wellF l = true) : ∃ a b c : List UInt8, l = a ++ 45 :: (b ++ 45 :: c) ∧ a.length = 4 ∧ b.length = 2 ∧ c.length = 2 ∧ a.all isD = true ∧ b.all isD = true ∧ c.all isD = true := by
  unfold wellF at h
  simp only [Bool.and_eq_true, beq_iff_eq] at h
  obtain ⟨⟨⟨⟨⟨h1, h2⟩, h3⟩, h4⟩, h5⟩, h6⟩ := h
  match l, h1 with
  | [x0, x1, x2, x3, x4, x5, x6, x7, x8, x9], _ =>
    have e4 : x4 = 45 := h2
    have e7 : x7 = 45 := h3
    subst e4 e7
    exact ⟨[x0, x1, x2, x3], [x5, x6], [x8, x9], rfl, rfl, rfl, rfl, h4, h5, h6⟩
theorem errV_zero {v : Int} {l : List UInt8} {k : Nat} : errV v l k = 0 ↔ v = 0 ∧ l.length = k ∧ l.all isD = true := by
  unfold errV
  by_cases h : l.length = k ∧ l.all isD = true
  · rw [if_pos h]; exact ⟨fun e => ⟨e, h⟩, fun e => e.1⟩
  · rw [if_neg h]; exact ⟨fun e => by omega, fun e => absurd e.2 h⟩
theorem errV_7 {v : Int} {l : List UInt8} {k : Nat} (h : v = 0 ∨ v = 7) : errV v l k = 0 ∨ errV v l k = 7 := by
  unfold errV
  split
  · exact h
  · exact .inr rfl
def errP (s : ByteArray) : Int := errV (errV (errV 0 (cutA s).data.toList 4) (cutA (cutB s)).data.toList 2) (cutB (cutB s)).data.toList 2
theorem errP_cases (s : ByteArray) : errP s = 0 ∨ errP s = 7 := errV_7 (errV_7 (errV_7 (.inl rfl)))
/-- what the parts are, of a text of the right form -/
theorem errP_zero (s : ByteArray) : errP s = 0 ↔ wellF s.data.toList = true := by
  unfold errP
  rw [errV_zero, errV_zero, errV_zero]
  constructor
  · rintro ⟨⟨⟨-, a1, a2⟩, b1, b2⟩, c1, c2⟩
    rcases cut_list s with ⟨-, -, h⟩ | h
    · exfalso
      rcases cut_list (cutB s) with ⟨-, h2, -⟩ | h2
      · rw [h2, h] at b1; simp at b1
      · rw [h] at h2
        have := congrArg List.length h2
        simp at this
    · rcases cut_list (cutB s) with ⟨-, -, h2⟩ | h2
      · exfalso; rw [h2] at c1; simp at c1
      · rw [h, h2]
        exact (wellF_of _ _ _ a1 b1 c1 a2 b2 c2).1
  · intro h
    obtain ⟨a, b, c, e, la, lb, lc, da, db, dc⟩ := of_wellF _ h
    obtain ⟨h1, h2⟩ := cut_of s a _ e da
    obtain ⟨h3, h4⟩ := cut_of (cutB s) b c h2 db
    rw [h1, h3, h4]
    exact ⟨⟨⟨rfl, la, da⟩, lb, db⟩, lc, dc⟩
theorem parts_ok (s : ByteArray) (h : wellF s.data.toList = true) : (cutA s).data.toList = s.data.toList.take 4 ∧ (cutA (cutB s)).data.toList = (s.data.toList.drop 5).take 2 ∧ (cutB (cutB s)).data.toList = s.data.toList.drop 8 ∧ (cutA s).size = 4 ∧ (cutA (cutB s)).size = 2 ∧ (cutB (cutB s)).size = 2 := by
  obtain ⟨a, b, c, e, la, lb, lc, da, db, dc⟩ := of_wellF _ h
  obtain ⟨h1, h2⟩ := cut_of s a _ e da
  obtain ⟨h3, h4⟩ := cut_of (cutB s) b c h2 db
  have hw := wellF_of a b c la lb lc da db dc
  rw [e, hw.2.1, hw.2.2.1, hw.2.2.2]
  have z : ∀ t : ByteArray, t.size = t.data.toList.length := fun t => by rw [Array.length_toList]; rfl
  rw [z, z, z, h1, h3, h4]
  exact ⟨rfl, rfl, rfl, la, lb, lc⟩
theorem cutB_size (s : ByteArray) : (cutB s).size ≤ s.size := by
  unfold cutB
  split
  · rw [ByteArray.size_extract]; omega
  · exact Nat.zero_le _
set_option maxRecDepth 100000 in
set_option maxHeartbeats 2000000 in
theorem parse_any (s : ByteArray) (w : World) (hs : s.size ≤ 9223372036854775807) (hT : Tabs w) : Calls Tryd.prog 8 #[.string s] w fun e w' => e = .returned (.tuple #[.int .i64 (prsN s.data.toList), .int .i64 (prsE s.data.toList)]) ∧ Below w.heap.size w w' := by
  have HS := Lib.hid hs
  have HS2 : Hid ((cutB s).size ≤ 9223372036854775807) := Lib.hid (Nat.le_trans (cutB_size s) hs)
  have HN4 : Hid (∀ (t : ByteArray) (g : Nat) (v : Int) (u : World), u.heap[g]? = some (.cells #[.int .i64 v] 31 (0, 0)) → Calls Tryd.prog 14 #[.string t, .int .i64 4, .pointer (some ⟨g, 0, none⟩)] u fun e w' => e = .returned (.int .i64 (if t.size = 4 then numL t.data.toList else 0)) ∧ w'.heap[g]? = some (.cells #[.int .i64 (errV v t.data.toList 4)] 31 (0, 0)) ∧ Kept (fun b => b = g) u w') := Lib.hid (fun t g v u h => number_clo t 4 (by omega) g v u h)
  have HN2 : Hid (∀ (t : ByteArray) (g : Nat) (v : Int) (u : World), u.heap[g]? = some (.cells #[.int .i64 v] 31 (0, 0)) → Calls Tryd.prog 14 #[.string t, .int .i64 2, .pointer (some ⟨g, 0, none⟩)] u fun e w' => e = .returned (.int .i64 (if t.size = 2 then numL t.data.toList else 0)) ∧ w'.heap[g]? = some (.cells #[.int .i64 (errV v t.data.toList 2)] 31 (0, 0)) ∧ Kept (fun b => b = g) u w') := Lib.hid (fun t g v u h => number_clo t 2 (by omega) g v u h)
  have HT := Lib.hid hT
  clear hs hT
  go_enter Tryd.func8, Tryd.ntmps8
  go_upto_region 3 with fail
  obtain ⟨w1, hw⟩ : ∃ w1, w1 = w.alloc (.cells #[.int .i64 0] 31) := ⟨_, rfl⟩
  obtain ⟨g4, hg⟩ : ∃ g4, g4 = w.heap.size := ⟨_, rfl⟩
  have HROW1 : Hid (w1.heap[g4]? = some (.cells #[.int .i64 0] 31 (0, 0))) := Lib.hid (by rw [hw, hg]; exact heap_new0)
  have HB1 : Hid (Below w.heap.size w w1) := Lib.hid (by rw [hw]; exact (Below.refl _ w).alloc (Nat.le_refl _) _)
  have HG : Hid (w.heap.size ≤ g4) := Lib.hid (by omega)
  rw [← hw]
  rw [← hg]
  clear hw hg
  go_upto_region 4 with (go_at_call 15; refine (cut_any _ _ HS.out).mono ?_; rintro e w2 ⟨rfl, hb⟩; have HB2 := Lib.hid hb; clear hb HS)
  go_upto_region 5 with (go_at_call 15; refine (cut_any _ _ HS2.out).mono ?_; rintro e w3 ⟨rfl, hb⟩; have HB3 := Lib.hid hb; clear hb HS2)
  have HROW3 : Hid (w3.heap[g4]? = some (.cells #[.int .i64 0] 31 (0, 0))) := Lib.hid (by
    have h1 := heap_lt HROW1.out
    have h2 := (HB2.out.block g4 h1).trans HROW1.out
    exact (HB3.out.block g4 (heap_lt h2)).trans h2)
  have HW3 : Hid (Below w.heap.size w w3) := Lib.hid ((HB1.out.trans (HB2.out.mono HB1.out.size)).trans (HB3.out.mono (Nat.le_trans HB1.out.size HB2.out.size)))
  clear HROW1 HB1 HB2 HB3
  go_upto_region 6 with (first
    | (go_at_call 14; refine (HN4.out _ _ _ _ HROW3.out).mono ?_; rintro e u ⟨rfl, hr, hk⟩; have HRa := Lib.hid hr; have HKa := Lib.hid hk; clear hr hk HROW3; have pd : DB (u.alloc (.cells #[.int .i64 0, .int .i64 0, .int .i64 0] 41)) u.heap.size := ⟨0, 0, 0, heap_new0⟩)
    | (go_at_call 14; refine (HN2.out _ _ _ _ HRa.out).mono ?_; rintro e u ⟨rfl, hr, hk⟩; have HRb := Lib.hid hr; have HKb := Lib.hid (HKa.out.trans hk (fun _ _ h => h)); clear hr hk HRa HKa pd; have pd : DB (u.alloc (.cells #[.int .i64 0, .int .i64 0, .int .i64 0] 41)) u.heap.size := ⟨0, 0, 0, heap_new0⟩)
    | (go_at_call 14; refine (HN2.out _ _ _ _ HRb.out).mono ?_; rintro e u ⟨rfl, hr, hk⟩; have HRc := Lib.hid hr; have HKc := Lib.hid (HKb.out.trans hk (fun _ _ h => h)); clear hr hk HRb HKb pd; have pd : DB (u.alloc (.cells #[.int .i64 0, .int .i64 0, .int .i64 0] 41)) u.heap.size := ⟨0, 0, 0, heap_new0⟩))
  obtain ⟨A, hA⟩ : ∃ A : Int, A = if (cutA s).size = 4 then numL (cutA s).data.toList else 0 := ⟨_, rfl⟩
  obtain ⟨B, hB⟩ : ∃ B : Int, B = if (cutA (cutB s)).size = 2 then numL (cutA (cutB s)).data.toList else 0 := ⟨_, rfl⟩
  obtain ⟨C, hC⟩ : ∃ C : Int, C = if (cutB (cutB s)).size = 2 then numL (cutB (cutB s)).data.toList else 0 := ⟨_, rfl⟩
  rw [← hA, ← hB, ← hC]
  obtain ⟨w6, hw6⟩ : ∃ w6, w6 = (u.alloc (.cells #[.int .i64 0, .int .i64 0, .int .i64 0] 41)).setRow u.heap.size #[.int .i64 A, .int .i64 B, .int .i64 C] := ⟨_, rfl⟩
  obtain ⟨g12, hg12⟩ : ∃ g12, g12 = u.heap.size := ⟨_, rfl⟩
  have hE : u.heap[g4]? = some (.cells #[.int .i64 (errP s)] 31 (0, 0)) := HRc.out
  have hlt := heap_lt hE
  have hrow : w6.heap[g12]? = some (.cells #[.int .i64 A, .int .i64 B, .int .i64 C] 41 (0, 0)) := by rw [hw6, hg12]; exact setRow_heap _ _ _ _ _ _ heap_new0
  have hrow4 : w6.heap[g4]? = some (.cells #[.int .i64 (errP s)] 31 (0, 0)) := by rw [hw6]; exact ((setRow_other _ _ _ _ (by omega)).trans (heap_alloc_old _ _ hlt)).trans hE
  have hbu : Below w.heap.size w u := HW3.out.trans (HKc.out.below HW3.out.size (fun j hj e => by have := HG.out; omega))
  have hb6 : Below w.heap.size w w6 := by rw [hw6]; exact ((((Kept.of_below (fun _ => False) hbu).alloc _).setRow (fun h => by have := hbu.size; omega) _).below (Nat.le_refl _) (fun _ _ h => h))
  have c4 : w6.cell? ⟨g4, 0, none⟩ = some (.int .i64 (errP s)) := cell_of_row w6 g4 0 _ _ _ hrow4
  have d0 : w6.cell? ⟨g12, 0, none⟩ = some (.int .i64 A) := cell_of_row w6 g12 0 _ _ _ hrow
  have d1 : w6.cell? ⟨g12, 1, none⟩ = some (.int .i64 B) := cell_of_row w6 g12 1 _ _ _ hrow
  have d2 : w6.cell? ⟨g12, 2, none⟩ = some (.int .i64 C) := cell_of_row w6 g12 2 _ _ _ hrow
  rw [← hw6]
  rw [← hg12]
  have HD := Lib.hid (day_any A B C w6 (HT.out.below hb6))
  have HB6 := Lib.hid hb6
  clear hw6 hg12 hE hlt hrow hrow4 hbu hb6 HRc HKc pd
  have HZ := Lib.hid (errP_zero s)
  rcases errP_cases s with he | he
  · have hwf := HZ.out.1 he
    obtain ⟨e1, e2, e3, z1, z2, z3⟩ := parts_ok s hwf
    rw [if_pos z1, e1] at hA
    rw [if_pos z2, e2] at hB
    rw [if_pos z3, e3] at hC
    have HR : Hid (prsN s.data.toList = dayR A B C ∧ prsE s.data.toList = chk A B C) := Lib.hid (by
      unfold prsN prsE
      rw [if_pos hwf, if_pos hwf, ← hA, ← hB, ← hC]
      exact ⟨rfl, rfl⟩)
    rw [he] at c4
    clear he hA hB hC e1 e2 e3 z1 z2 z3 hwf HZ
    go_wp2_with (go_at_call 16; refine HD.out.mono ?_; rintro e w7 ⟨rfl, hb⟩; have HB7 := Lib.hid hb; clear hb)
    go_ret2
    rw [HR.out.1, HR.out.2]
    exact ⟨rfl, HB6.out.trans (HB7.out.mono HB6.out.size)⟩
  · have HR : Hid (prsN s.data.toList = 0 ∧ prsE s.data.toList = 7) := Lib.hid (by
      have hn : ¬ wellF s.data.toList = true := fun h => by have := HZ.out.2 h; omega
      unfold prsN prsE
      rw [if_neg hn, if_neg hn]
      exact ⟨rfl, rfl⟩)
    rw [he] at c4
    clear he hA hB hC HZ HD
    go_wp2_with fail
    go_quiet (fail)
    go_wp2
    go_ret2
    rw [HR.out.1, HR.out.2]
    exact ⟨rfl, below_drewN HB6.out _⟩
end Go.Proofs.YtcdjilnlmihnhaaDoor

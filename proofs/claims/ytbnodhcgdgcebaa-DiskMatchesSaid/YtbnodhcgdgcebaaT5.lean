/-
  The laws' full, Fill, Bound, made.
-/
import Derived.Test.YtbnodhcgdgcebaaT4
namespace Go.Proofs.Ytbnodhcgdgcebaa
open Go.RowKit
set_option linter.unusedSimpArgs false
set_option linter.unusedVariables false
theorem Lv.made {w0 w w' : World} {L : List Obj} (h : Lv w0 w L) {v : Value} {l : List UInt8} (hm : Made w v l w') : Lv w0 w' (bytesO v l :: L) := by
  obtain ⟨k, ho, hf, hb⟩ := hm
  obtain ⟨a, c, hv, hs⟩ := ho.bs
  exact h.cons hb (B := fun b => k = some b) ⟨a, c, hv, hs⟩ (fun j hj => ⟨hf j hj, ho.lt j hj⟩)
set_option maxRecDepth 100000 in
set_option maxHeartbeats 400000 in
theorem full_any (c : UInt8) (C : Int) (hC : C = (c.toNat : Int)) (w : World) :
    Calls Try.prog 23 #[.int .u8 C] w fun e w' => ∃ v, e = .returned v ∧ Made w v (List.replicate 64 c) w' := by
  obtain ⟨i0, hi, hz0, hz1, hz2⟩ := info_parts info5
  have HC := Lib.hid hC
  clear hC
  go_enter Try.func23, Try.ntmps23
  go_wp2_with fail
  go_loopw [3, 4] (fun u t wr => ∃ (i : Nat) (k : Option Nat), i ≤ 64 ∧ t = .int .i64 (i : Int) ∧ Own wr 5 1 k u i (vals (List.replicate i c)) ∧ (∀ j, k = some j → w.heap.size ≤ j) ∧ Below w.heap.size w wr) (fun _ t _ => 64 - (intOf t).toNat)
  case atStart => exact ⟨0, none, by omega, rfl, Own.nil _ _ _, (fun _ h => by cases h), Below.refl _ _⟩
  case round =>
    obtain ⟨i, k, hi64, rfl, ho, hf, hb⟩ := hrel
    have HO := Lib.hid ho
    have HF := Lib.hid hf
    have HB := Lib.hid hb
    clear ho hf hb
    by_cases hlt : i < 64
    · have hlt2 : (i : Int) < 64 := by omega
      have hw : IntKind.i64.wrap ((i : Int) + 1) = (i : Int) + 1 := i64_id _ (by omega) (by omega)
      go_wp2_with (at_builtin; refine wpList_append_any _ rfl (.tmp 9) (.tmp 11) 32 32 rfl 5 i0 (.int .u8 0) 1 1 Try.underlying32 hi hz0 hz1 hz2 rfl k _ i (vals (List.replicate i c)) rfl (HO.out.kept ((Kept.refl (fun _ => False) wr).alloc _) (fun _ _ h => h)) 1 [.int .u8 C] (Src.ofSlice _ Try.underlying32 ⟨wr.heap.size, 0, none⟩ 1 1 _ rfl ?c1 ?c2) (by unfold maxLen; omega) (by omega) ?_)
      case c1 => intro j u hj; match j, hj with | 0, hj => simp at hj; subst hj; simp [Addr.add]
      case c2 => intro u hu; simp at hu; subst hu; rfl
      intro k' v' w' ho hf hK hn
      have ho2 : Own w' 5 1 k' v' (i + 1) (vals (List.replicate (i + 1) c)) := by
        rw [List.replicate_succ', vals_app]
        rw [HC.out] at ho
        exact ho
      have HO2 := Lib.hid ho2
      have HF2 : Hid (∀ j, k' = some j → w.heap.size ≤ j) := Lib.hid (fun j hj => by
        rcases hf j hj with e | e
        · exact HF.out j e
        · have := HB.out.size; (try simp only [size_alloc1] at e); omega)
      have HB2 : Hid (Below w.heap.size w w') := Lib.hid (HB.out.trans ((((Kept.refl (fun j => k = some j) wr).alloc _).trans hK (fun _ _ h => h)).below HB.out.size (fun j hj e => by have := HF.out j e; omega)))
      clear ho ho2 hf hK hn
      go_wp2_with fail
      go_roundw
      case rel => exact ⟨i + 1, k', by omega, by go_num, HO2.out, HF2.out, HB2.out⟩
      case measure => simp [intOf]; omega
    · obtain rfl : i = 64 := by omega
      go_wp2_with fail
      go_ret
      exact ⟨_, rfl, k, by rw [List.length_replicate]; exact HO.out, HF.out, HB.out⟩
theorem u8_of (z : Int) (h0 : 0 ≤ z) (h1 : z < 256) : ∃ x : UInt8, z = (x.toNat : Int) := ⟨UInt8.ofNat z.toNat, by rw [UInt8.toNat_ofNat']; omega⟩
theorem u8_wrap (z : Int) : ∃ x : UInt8, IntKind.u8.wrap z = (x.toNat : Int) := by
  refine u8_of _ ?_ ?_
  · rw [IntKind.wrap_u8]; omega
  · rw [IntKind.wrap_u8]; omega
set_option maxRecDepth 100000 in
set_option maxHeartbeats 1000000 in
theorem fill_any {Z : Nat → Prop} {a : Option Addr} {n c : Nat} {l : List UInt8} (m : Int) (hm1 : -9223372036854775808 ≤ m) (hm2 : m ≤ 9223372036854775807) (w : World) (hB : Bs Z w a n c l) :
    Calls Try.prog 32 #[.slice a n c, .int .i64 m] w fun e w' => ∃ v l', e = .returned v ∧ l'.length = 64 ∧ Made w v l' w' := by
  obtain ⟨i0, hi, hz0, hz1, hz2⟩ := info_parts info5
  have hl := hB.1
  have hnm : n ≤ 9223372036854775807 := by have := hB.2.2.1; have := hB.2.2.2.1; unfold maxLen at this; omega
  have hnc : n ≤ c := hB.2.2.1
  have HS := Lib.hid hB
  have HL := Lib.hid hl

  clear hl hB
  have har := around_bd m 251 (by omega)
  obtain ⟨A, hA⟩ : ∃ A, A = around m 251 := ⟨_, rfl⟩
  rw [← hA] at har
  have HA := Lib.hid hA
  clear hA
  go_enter Try.func32, Try.ntmps32
  go_wp2_with fail
  go_loopw [5, 6] (fun u t wr => ∃ (i : Nat) (k : Option Nat) (r : List UInt8), i ≤ 64 ∧ r.length = i ∧ t = .int .i64 (i : Int) ∧ Own wr 5 1 k u i (vals r) ∧ (∀ j, k = some j → w.heap.size ≤ j) ∧ Below w.heap.size w wr) (fun _ t _ => 64 - (intOf t).toNat)
  case atStart => exact ⟨0, none, [], by omega, rfl, rfl, Own.nil _ _ _, (fun _ h => by cases h), Below.refl _ _⟩
  case round =>
    obtain ⟨i, k, r, hi64, hr, rfl, ho, hf, hb⟩ := hrel
    have HO := Lib.hid ho
    have HF := Lib.hid hf
    have HB := Lib.hid hb
    have HR := Lib.hid hr
    clear ho hf hb hr
    by_cases hlt : i < 64
    · have hlt2 : (i : Int) < 64 := by omega
      have hw : IntKind.i64.wrap ((i : Int) + 1) = (i : Int) + 1 := i64_id _ (by omega) (by omega)
      by_cases hn0 : n = 0
      · have hn1 : (n : Int) ≤ 0 := by omega
        clear hn0
        obtain ⟨x, hx⟩ := u8_of ((A + (i : Int) / 8) % 256) (by omega) (by omega)
        have Hx := Lib.hid hx
        clear hx
        go_wp2_with (first
          | (go_at_call 14; refine (around_any m 251 _ hm1 hm2 (by omega) (by omega)).mono ?_; rintro e w3 ⟨rfl, rfl⟩; rw [← HA.out])
          | (at_builtin; refine wpList_append_any _ rfl (.tmp 30) (.tmp 34) 32 32 rfl 5 i0 (.int .u8 0) 1 1 Try.underlying32 hi hz0 hz1 hz2 rfl k _ i (vals r) rfl (HO.out.kept ((Kept.refl (fun _ => False) wr).alloc _) (fun _ _ h => h)) 1 [.int .u8 ((A + (i : Int) / 8) % 256)] (Src.ofSlice _ Try.underlying32 ⟨wr.heap.size, 0, none⟩ 1 1 _ rfl ?c1 ?c2) (by unfold maxLen; omega) (by omega) ?_))
        case c1 => intro j u hj; match j, hj with | 0, hj => simp at hj; subst hj; simp [Addr.add]
        case c2 => intro u hu; simp at hu; subst hu; rfl
        intro k' v' w' ho hf hK hn
        have ho2 : Own w' 5 1 k' v' (i + 1) (vals (r ++ [x])) := by
          rw [vals_app]
          rw [Hx.out] at ho
          exact ho
        have HO2 := Lib.hid ho2
        have HF2 : Hid (∀ j, k' = some j → w.heap.size ≤ j) := Lib.hid (fun j hj => by
          rcases hf j hj with e | e
          · exact HF.out j e
          · have := HB.out.size; (try simp only [size_alloc1] at e); omega)
        have HB2 : Hid (Below w.heap.size w w') := Lib.hid (HB.out.trans ((((Kept.refl (fun j => k = some j) wr).alloc _).trans hK (fun _ _ h => h)).below HB.out.size (fun j hj e => by have := HF.out j e; omega)))
        clear ho ho2 hf hK hn
        go_wp2_with fail
        go_roundw
        case rel => exact ⟨i + 1, k', r ++ [x], by omega, by rw [List.length_append, HR.out]; rfl, by go_num, HO2.out, HF2.out, HB2.out⟩
        case measure => simp [intOf]; omega
      · have hn1 : (0 : Int) < (n : Int) := by omega
        obtain ⟨b, off, hZb, hbw, rfl, hcl⟩ := HS.out.cells (by omega)
        obtain ⟨j, hj⟩ : ∃ j, j = i % n := ⟨_, rfl⟩
        have hjn : j < n := by rw [hj]; exact Nat.mod_lt _ (by omega)
        have hj2 : i % n = j := hj.symm
        have hj3 : (i : Int) % (n : Int) = (j : Int) := by rw [hj]; rfl
        have hj4 : (j : Int) < (n : Int) := by omega
        have hjl : j < l.length := by rw [HL.out]; exact hjn
        have c1 : wr.cell? ⟨b, off + j, none⟩ = some (.int .u8 (l[j].toNat : Int)) := (HB.out.cell (p := ⟨b, off + j, none⟩) hbw).trans (hcl j hjl)
        obtain ⟨bx, hbx⟩ : ∃ bx, bx = l[j] := ⟨_, rfl⟩
        rw [← hbx] at c1
        have hb1 : bx.toNat < 256 := bx.toNat_lt
        clear hn0 hZb hcl hj hjn hbx hjl hj2
        obtain ⟨x, hx⟩ := u8_of ((A + (i : Int) / 8 + (bx.toNat : Int)) % 256) (by omega) (by omega)
        have Hx := Lib.hid hx
        clear hx
        go_wp2_with (first
          | (go_at_call 14; refine (around_any m 251 _ hm1 hm2 (by omega) (by omega)).mono ?_; rintro e w3 ⟨rfl, rfl⟩; rw [← HA.out])
          | (at_builtin; refine wpList_append_any _ rfl (.tmp 30) (.tmp 34) 32 32 rfl 5 i0 (.int .u8 0) 1 1 Try.underlying32 hi hz0 hz1 hz2 rfl k _ i (vals r) rfl (HO.out.kept ((Kept.refl (fun _ => False) wr).alloc _) (fun _ _ h => h)) 1 [.int .u8 ((A + (i : Int) / 8 + (bx.toNat : Int)) % 256)] (Src.ofSlice _ Try.underlying32 ⟨wr.heap.size, 0, none⟩ 1 1 _ rfl ?c1 ?c2) (by unfold maxLen; omega) (by omega) ?_))
        case c1 => intro j u hj; match j, hj with | 0, hj => simp at hj; subst hj; simp [Addr.add]
        case c2 => intro u hu; simp at hu; subst hu; rfl
        intro k' v' w' ho hf hK hn
        have ho2 : Own w' 5 1 k' v' (i + 1) (vals (r ++ [x])) := by
          rw [vals_app]
          rw [Hx.out] at ho
          exact ho
        have HO2 := Lib.hid ho2
        have HF2 : Hid (∀ j, k' = some j → w.heap.size ≤ j) := Lib.hid (fun j hj => by
          rcases hf j hj with e | e
          · exact HF.out j e
          · have := HB.out.size; (try simp only [size_alloc1] at e); omega)
        have HB2 : Hid (Below w.heap.size w w') := Lib.hid (HB.out.trans ((((Kept.refl (fun j => k = some j) wr).alloc _).trans hK (fun _ _ h => h)).below HB.out.size (fun j hj e => by have := HF.out j e; omega)))
        clear ho ho2 hf hK hn
        go_wp2_with fail
        go_roundw
        case rel => exact ⟨i + 1, k', r ++ [x], by omega, by rw [List.length_append, HR.out]; rfl, by go_num, HO2.out, HF2.out, HB2.out⟩
        case measure => simp [intOf]; omega
    · obtain rfl : i = 64 := by omega
      go_wp2_with fail
      go_ret
      exact ⟨_, r, rfl, HR.out, k, by rw [HR.out]; exact HO.out, HF.out, HB.out⟩
end Go.Proofs.Ytbnodhcgdgcebaa

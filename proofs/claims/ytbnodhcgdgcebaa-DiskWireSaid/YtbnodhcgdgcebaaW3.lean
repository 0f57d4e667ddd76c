/-
  The other methods of a Writer that append.
-/
import Derived.Test.YtbnodhcgdgcebaaW2
namespace Go.Proofs.Ytbnodhcgdgcebaa
open Go.RowKit
theorem zig_pos (n : Int) (h : 0 ≤ n) : 2 * n = ((zig n : Nat) : Int) := by unfold zig; rw [if_neg (by omega)]; omega
theorem zig_neg (n : Int) (h : n < 0) : 2 * (-(n + 1)) + 1 = ((zig n : Nat) : Int) := by unfold zig; rw [if_pos h]; omega
set_option maxRecDepth 100000 in
set_option maxHeartbeats 400000 in
theorem wint_any (g : Nat) (k : Option Nat) (l : List UInt8) (n : Int) (w : World) (hW : Wr w g k l) (hl : l.length ≤ 500000000000) (h1 : -9223372036854775808 ≤ n) (h2 : n ≤ 9223372036854775807) :
    Calls Try.prog 57 #[.pointer (some ⟨g, 0, none⟩), .int .i64 n] w fun e w' => e = .returned (.tuple #[]) ∧ Wrote g k w (l ++ encI n) w' := by
  have HW := Lib.hid hW
  have HZ := Lib.hid (zig_lt n h1 h2)
  clear hW
  by_cases hn : 0 ≤ n
  · have HE := Lib.hid (zig_pos n hn)
    go_enter Try.func57, Try.ntmps57
    go_wp2_with (go_at_call 56; refine (wuint_any g k l (zig n) _ _ HW.out hl HZ.out HE.out).mono ?_; rintro e w2 ⟨rfl, hw2⟩; have H2 := Lib.hid hw2; clear hw2)
    exact bodyPost_ret (results_none rfl _ _ _) rfl ⟨rfl, H2.out⟩
  · have HE := Lib.hid (zig_neg n (by omega))
    have hw1 : IntKind.i64.wrap (n + 1) = n + 1 := i64_id _ (by omega) (by omega)
    have hw2 : IntKind.i64.wrap (-(n + 1)) = -(n + 1) := i64_id _ (by omega) (by omega)
    go_enter Try.func57, Try.ntmps57
    go_wp2_with (go_at_call 56; refine (wuint_any g k l (zig n) _ _ HW.out hl HZ.out HE.out).mono ?_; rintro e w2 ⟨rfl, hw2⟩; have H2 := Lib.hid hw2; clear hw2)
    go_end0
    exact ⟨rfl, H2.out⟩
theorem encI_len (n : Int) (h1 : -9223372036854775808 ≤ n) (h2 : n ≤ 9223372036854775807) : (encI n).length ≤ 10 := encU_len10 _ (zig_lt n h1 h2)
theorem encIs_len (l : List Int) (h : Ok64 l) : (l.flatMap encI).length ≤ 10 * l.length := by
  induction l with
  | nil => simp
  | cons x r ih =>
    have h1 := encI_len x (h x (by simp)).1 (h x (by simp)).2
    have h2 := ih (fun y hy => h y (by simp [hy]))
    simp only [List.flatMap_cons, List.length_append, List.length_cons]
    omega
theorem Ok64.take {l : List Int} (h : Ok64 l) (i : Nat) : Ok64 (l.take i) := fun x hx => h x (List.mem_of_mem_take hx)
theorem take_enc (l : List Int) (i : Nat) (h : i < l.length) : (l.take (i + 1)).flatMap encI = (l.take i).flatMap encI ++ encI l[i] := by
  rw [List.take_succ_eq_append_getElem h, List.flatMap_append]; simp
set_option maxRecDepth 100000 in
set_option maxHeartbeats 800000 in
theorem wints_any (g : Nat) (k : Option Nat) (l : List UInt8) (D : Nat → Prop) (a : Option Addr) (n c : Nat) (z : List Int) (w : World) (hW : Wr w g k l) (hl : l.length ≤ 300000000000) (hI : Is D w a n c z) (hD : ∀ b, D b → b ≠ g ∧ k ≠ some b) (h64 : Ok64 z) (hn : n ≤ 1000000000) :
    Calls Try.prog 39 #[.pointer (some ⟨g, 0, none⟩), .slice a n c] w fun e w' => e = .returned (.tuple #[]) ∧ Wrote g k w (l ++ encL z) w' := by
  have HW := Lib.hid hW
  have HI := Lib.hid hI
  have HD := Lib.hid hD
  have H64 := Lib.hid h64
  have HL := Lib.hid (encU_len10 n (by omega))
  have HZ := Lib.hid hI.1
  clear hW hI hD h64
  go_enter Try.func39, Try.ntmps39
  go_wp2_with (go_at_call 56; refine (wuint_any g k l n _ _ HW.out (by omega) (by omega) (by first | rfl | omega | (simp only [IntKind.wrap_u64]; omega))).mono ?_; rintro e w1 ⟨rfl, hw1⟩; have W1 := Lib.hid hw1; clear hw1)
  go_loopw [13] (fun t wr => ∃ i : Nat, i ≤ n ∧ t = .int .i64 (i : Int) ∧ Wrote g k w ((l ++ encU n) ++ (z.take i).flatMap encI) wr) (fun t _ => n - (intOf t).toNat)
  case atStart => exact ⟨0, Nat.zero_le _, rfl, by simpa using W1.out⟩
  case round =>
    obtain ⟨i, hi, rfl, hA⟩ := hrel
    have HA := Lib.hid hA
    clear hA W1
    by_cases hlt : i < n
    · have hiz : i < z.length := by have := HZ.out; omega
      obtain ⟨b, off, hDb, hbw, rfl, hc⟩ := HI.out.cells (by omega)
      obtain ⟨k1, hw1, hl1⟩ := HA.out
      have hcell : wr.cell? ⟨b, off + i, none⟩ = some (.int .i64 z[i]) := (hl1.kept.cell (p := ⟨b, off + i, none⟩) hbw (fun h => h.elim (HD.out b hDb).1 (HD.out b hDb).2)).trans (hc i hiz)
      have hz := H64.out z[i] (List.getElem_mem hiz)
      have ht := take_enc z i hiz
      have hlen := encIs_len (z.take i) (H64.out.take i)
      have hlen2 : (z.take i).length ≤ i := List.length_take_le _ _
      have HW1 := Lib.hid hw1
      have HL1 := Lib.hid hl1
      have HT := Lib.hid ht
      have HLen : Hid ((l ++ encU n ++ (z.take i).flatMap encI).length ≤ 500000000000) := Lib.hid (by have := HL.out; simp only [List.length_append]; omega)
      clear hw1 hl1 ht hlen hlen2 hc HA
      generalize z[i] = x at *
      have hz1 := hz.1
      have hz2 := hz.2
      clear hz
      go_wp2_with (go_at_call 57; refine (wint_any g k1 _ x _ HW1.out HLen.out hz1 hz2).mono ?_; rintro e w2 ⟨rfl, hw2⟩; have H2 := Lib.hid hw2; clear hw2)
      go_roundw
      case rel => exact ⟨i + 1, by omega, by go_num, by rw [HT.out, ← List.append_assoc]; exact H2.out.after HL1.out⟩
      case measure => simp [intOf]; omega
    · obtain rfl : i = n := by omega
      go_wp2
      go_end0
      have h := HA.out
      rw [List.take_of_length_le (by have := HZ.out; omega), List.append_assoc, ← HZ.out] at h
      exact ⟨rfl, h⟩
end Go.Proofs.Ytbnodhcgdgcebaa

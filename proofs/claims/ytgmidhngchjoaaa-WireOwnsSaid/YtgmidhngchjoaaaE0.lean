/-
  The reference's encoders.
-/
import Derived.Test.YtgmidhngchjoaaaC1
import Derived.Deep.Cut
namespace Go.Proofs.Ytgmidhngchjoaaa
open Go.RowKit
set_option linter.unusedSimpArgs false
set_option linter.unusedVariables false
/-- a row of bytes of one's own -/
def OwnB (w : World) (k : Option Nat) (v : Value) (l : List UInt8) : Prop := Own w 5 1 k v l.length (vals l)
/-- append of one byte, in a block of its own -/
theorem append_byte {q : World} {ops : Array Oper} {rest : List Oper} {o : Oper} {act : Act} {Q : Exit → Act → World → Prop} (x0 : UInt8) (X : Int) (hX : X = (x0.toNat : Int)) (hgd : o.guard = none) (s x : Operand)
    (ho : o.op = .call { callee := .builtin .append, args := #[s, x], argTypes := #[23, 23] })
    (k : Option Nat) (v : Value) (l : List UInt8) (hv : act.eval s = v) (Z : Nat) (hx : act.eval x = .slice (some ⟨Z, 0, none⟩) 1 1) (hZ : Z = q.heap.size) (hown : Own q 5 1 k v l.length (vals l)) (hn : l.length ≤ 1000000000000)
    (h : ∀ k' v' w', OwnB w' k' v' (l ++ [x0]) → (∀ j, k' = some j → k = some j ∨ q.heap.size ≤ j) → Kept (fun j => k = some j) q w' → wpList Try.prog ops Q rest (act.put o.dst v') w') :
    wpList Try.prog ops Q (o :: rest) act (q.alloc (.cells #[.int .u8 X] 5)) := by
  subst hZ
  subst hX
  obtain ⟨i0, hi, hz0, hz1, hz2⟩ := info_parts info5
  have hb := Bs.lit q [x0] 1 #[.int .u8 (x0.toNat : Int)] rfl rfl (by decide)
  refine wpList_append_any _ hgd s x 23 23 ho 5 i0 (.int .u8 0) 1 1 Try.underlying23 hi hz0 hz1 hz2 rfl k v l.length (vals l) hv (hown.kept ((Kept.refl (fun _ => False) q).alloc _) (fun _ _ h => h)) 1 _ (by rw [hx]; exact hb.src Try.underlying23) (by unfold maxLen; omega) (by omega) (fun k' v' w' h1 h2 h3 _ => h k' v' w' (by rw [OwnB, vals_app, List.length_append]; exact h1) (fun j hj => (h2 j hj).imp id (fun hh => by rw [size_alloc1] at hh; omega)) (((Kept.refl (fun j => k = some j) q).alloc _).trans h3 (fun _ _ h => h)))
/-- append of bytes -/
theorem append_bs {w : World} {ops : Array Oper} {rest : List Oper} {o : Oper} {act : Act} {Q : Exit → Act → World → Prop} (hgd : o.guard = none) (s x : Operand)
    (ho : o.op = .call { callee := .builtin .append, args := #[s, x], argTypes := #[23, 23] })
    (k : Option Nat) (v : Value) (l : List UInt8) (hv : act.eval s = v) (hown : Own w 5 1 k v l.length (vals l)) (D : Nat → Prop) (a : Option Addr) (m c : Nat) (l2 : List UInt8) (hx : act.eval x = .slice a m c) (hB : Bs D w a m c l2) (hn : l.length + m ≤ 1000000000000)
    (h : ∀ k' v' w', OwnB w' k' v' (l ++ l2) → (∀ j, k' = some j → k = some j ∨ w.heap.size ≤ j) → Kept (fun j => k = some j) w w' → wpList Try.prog ops Q rest (act.put o.dst v') w') :
    wpList Try.prog ops Q (o :: rest) act w := by
  obtain ⟨i0, hi, hz0, hz1, hz2⟩ := info_parts info5
  refine wpList_append_any _ hgd s x 23 23 ho 5 i0 (.int .u8 0) 1 1 Try.underlying23 hi hz0 hz1 hz2 rfl k v l.length (vals l) hv hown m _ (by rw [hx]; exact hB.src Try.underlying23) (by unfold maxLen; omega) (by omega) (fun k' v' w' h1 h2 h3 _ => h k' v' w' (by rw [OwnB, vals_app, List.length_append, hB.1]; exact h1) h2 h3)
theorem append_text {w : World} {ops : Array Oper} {rest : List Oper} {o : Oper} {act : Act} {Q : Exit → Act → World → Prop} (hgd : o.guard = none) (s x : Operand)
    (ho : o.op = .call { callee := .builtin .append, args := #[s, x], argTypes := #[23, 9] })
    (k : Option Nat) (v : Value) (l : List UInt8) (hv : act.eval s = v) (hown : Own w 5 1 k v l.length (vals l)) (t : ByteArray) (hx : act.eval x = .string t) (hn : l.length + t.size ≤ 1000000000000)
    (h : ∀ k' v' w', OwnB w' k' v' (l ++ t.data.toList) → (∀ j, k' = some j → k = some j ∨ w.heap.size ≤ j) → Kept (fun j => k = some j) w w' → wpList Try.prog ops Q rest (act.put o.dst v') w') :
    wpList Try.prog ops Q (o :: rest) act w := by
  obtain ⟨i0, hi, hz0, hz1, hz2⟩ := info_parts info5
  have e : t.data.toList.length = t.size := by rw [Array.length_toList]; rfl
  refine wpList_append_any _ hgd s x 23 9 ho 5 i0 (.int .u8 0) 1 1 Try.underlying23 hi hz0 hz1 hz2 rfl k v l.length (vals l) hv hown t.size (byteCells t) (by rw [hx]; exact Src.ofString w Try.underlying9 t) (by unfold maxLen; omega) (by omega) (fun k' v' w' h1 h2 h3 _ => h k' v' w' (by rw [OwnB, vals_app, List.length_append, e]; exact h1) h2 h3)
/-- a row of the call's own, in the making -/
structure Mk (w : World) (k : Option Nat) (v : Value) (l : List UInt8) (wr : World) : Prop where
  own : Own wr 5 1 k v l.length (vals l)
  fresh : ∀ j, k = some j → w.heap.size ≤ j
  bel : Below w.heap.size w wr
theorem Mk.made {w wr : World} {k : Option Nat} {v : Value} {l : List UInt8} (h : Mk w k v l wr) : Made w v l wr := ⟨k, h.own, h.fresh, h.bel⟩
theorem Made.mk' {w wr : World} {v : Value} {l : List UInt8} (h : Made w v l wr) : ∃ k, Mk w k v l wr := by
  obtain ⟨k, h1, h2, h3⟩ := h
  exact ⟨k, h1, h2, h3⟩
theorem Mk.step {w wr w2 : World} {k k2 : Option Nat} {v v2 : Value} {l l2 : List UInt8} (h : Mk w k v l wr) (ho : OwnB w2 k2 v2 l2) (hf : ∀ j, k2 = some j → k = some j ∨ wr.heap.size ≤ j) (hk : Kept (fun j => k = some j) wr w2) : Mk w k2 v2 l2 w2 :=
  ⟨ho, fun j hj => (hf j hj).elim (h.fresh j) (Nat.le_trans h.bel.size), h.bel.trans (hk.below h.bel.size (fun j hj e => by have := h.fresh j e; omega))⟩
theorem Mk.later {w wr w2 : World} {k : Option Nat} {v : Value} {l : List UInt8} (h : Mk w k v l wr) (hb : Below wr.heap.size wr w2) : Mk w k v l w2 :=
  ⟨h.own.kept (Kept.of_below (fun _ => False) hb) (fun _ _ h => h), h.fresh, h.bel.trans (hb.mono h.bel.size)⟩
theorem Mk.start (w : World) : Mk w none (.slice none 0 0) [] w := ⟨Own.nil _ _ _, (fun _ h => by cases h), Below.refl _ _⟩
set_option maxRecDepth 100000 in
set_option maxHeartbeats 600000 in
theorem refUint_any (n : Nat) (N : Int) (w : World) (hn : n < 18446744073709551616) (hN : N = (n : Int)) :
    Calls Try.prog 35 #[.int .u64 N] w fun e w' => ∃ v, e = .returned v ∧ Made w v (encU n) w' := by
  subst hN
  have Hlen := Lib.hid (encU_len10 n hn)
  go_enter Try.func35, Try.ntmps35
  go_wp2
  go_loopw [0, 3] (fun t v wr => ∃ m : Nat, m < 18446744073709551616 ∧ t = .int .u64 (m : Int) ∧ ∃ k l1, l1 ++ encU m = encU n ∧ Mk w k v l1 wr) (fun t _ _ => (intOf t).toNat)
  case atStart => exact ⟨n, hn, rfl, none, [], rfl, Mk.start w⟩
  case round =>
    obtain ⟨m, hm, rfl, k, l1, e1, hmk⟩ := hrel
    have hlen1 : l1.length ≤ 10 := by
      have := congrArg List.length e1
      simp only [List.length_append] at this
      have := Hlen.out
      omega
    obtain ⟨va, vc, rfl, -⟩ := hmk.own.bs
    have He := Lib.hid e1
    have HM := Lib.hid hmk
    clear e1 hmk hn
    by_cases hlt : m < 128
    · have Hm := Lib.hid (vals_u8 m (by omega))
      obtain ⟨x0, hx0⟩ : ∃ x0, x0 = UInt8.ofNat m := ⟨_, rfl⟩
      have Hx0 := Lib.hid hx0
      clear hx0
      go_wp2_with (at_builtin; refine append_byte x0 _ (by rw [Hx0.out]; exact Hm.out) rfl (.tmp 15) (.tmp 18) rfl k _ l1 rfl wr.heap.size rfl rfl HM.out.own (by omega) ?_)
      intro k' v' w' h1 h2 h3
      have R : Made w v' (encU n) w' := by rw [← He.out, ← encU_end l1 m hlt, ← Hx0.out]; exact (HM.out.step h1 h2 h3).made
      have HR := Lib.hid R
      clear R h1 h2 h3
      go_wp2
      go_ret
      exact ⟨_, rfl, HR.out⟩
    · have Hm := Lib.hid (vals_u8 (128 + m % 128) (by omega))
      obtain ⟨x0, hx0⟩ : ∃ x0, x0 = UInt8.ofNat (128 + m % 128) := ⟨_, rfl⟩
      have Hx0 := Lib.hid hx0
      clear hx0
      go_wp2_with (at_builtin; refine append_byte x0 _ (by rw [Hx0.out, ← Hm.out]; omega) rfl (.tmp 6) (.tmp 11) rfl k _ l1 rfl wr.heap.size rfl rfl HM.out.own (by omega) ?_)
      intro k' v' w' h1 h2 h3
      have HR := Lib.hid (HM.out.step h1 h2 h3)
      clear h1 h2 h3
      go_wp2
      go_roundw
      case rel => exact ⟨m / 128, by omega, by go_num, k', _, (by rw [Hx0.out]; exact (encU_tail l1 m hlt).trans He.out), HR.out⟩
      case measure => simp [intOf]; omega
set_option maxRecDepth 100000 in
set_option maxHeartbeats 400000 in
theorem refZig_any (n : Int) (w : World) (h1 : -9223372036854775808 ≤ n) (h2 : n ≤ 9223372036854775807) :
    Calls Try.prog 56 #[.int .i64 n] w fun e w' => e = .returned (.int .u64 ((zig n : Nat) : Int)) ∧ w = w' := by
  by_cases hn : n < 0
  · have HE := Lib.hid (zig_neg n hn)
    have hw1 : IntKind.i64.wrap (n + 1) = n + 1 := i64_id _ (by omega) (by omega)
    have hw2 : IntKind.i64.wrap (-(n + 1)) = -(n + 1) := i64_id _ (by omega) (by omega)
    go_enter Try.func56, Try.ntmps56
    go_wp2
    go_ret
    exact ⟨ret_int HE.out, rfl⟩
  · have HE := Lib.hid (zig_pos n (by omega))
    go_enter Try.func56, Try.ntmps56
    go_wp2
    go_ret
    exact ⟨ret_int HE.out, rfl⟩
set_option maxRecDepth 100000 in
set_option maxHeartbeats 400000 in
theorem refInt_any (n : Int) (w : World) (h1 : -9223372036854775808 ≤ n) (h2 : n ≤ 9223372036854775807) :
    Calls Try.prog 36 #[.int .i64 n] w fun e w' => ∃ v, e = .returned v ∧ Made w v (encI n) w' := by
  have HZ := Lib.hid (zig_lt n h1 h2)
  go_enter Try.func36, Try.ntmps36
  go_wp2_with (first
    | (go_at_call 35; refine (refUint_any (zig n) _ _ HZ.out rfl).mono ?_; rintro e w2 ⟨v, rfl, h2⟩; have H2 := Lib.hid h2; clear h2)
    | (go_at_call 56; refine (refZig_any n _ h1 h2).mono ?_; rintro e w1 ⟨rfl, rfl⟩))
  go_ret
  exact ⟨_, rfl, H2.out⟩
set_option maxRecDepth 100000 in
set_option maxHeartbeats 400000 in
theorem refBool_any (b : Bool) (w : World) :
    Calls Try.prog 37 #[.bool b] w fun e w' => ∃ v, e = .returned v ∧ Made w v (encB b) w' := by
  have mk : ∀ x : UInt8, Made w (.slice (some ⟨w.heap.size, 0, none⟩) 1 1) [x] (w.alloc (.cells #[.int .u8 (x.toNat : Int)] 5)) := fun x =>
    ⟨some w.heap.size, Own.made w 5 1 #[.int .u8 (x.toNat : Int)] 1 (by decide) rfl, fun j hj => by cases hj; exact Nat.le_refl _, (Below.refl _ _).alloc (Nat.le_refl _) _⟩
  have HM := Lib.hid mk
  clear mk
  cases b
  · go_enter Try.func37, Try.ntmps37
    go_wp2
    go_ret
    exact ⟨_, rfl, HM.out 0⟩
  · go_enter Try.func37, Try.ntmps37
    go_wp2
    go_ret
    exact ⟨_, rfl, HM.out 1⟩
set_option maxRecDepth 100000 in
set_option maxHeartbeats 400000 in
theorem refText_any (s : ByteArray) (w : World) (hs : s.size ≤ 100000000000) :
    Calls Try.prog 38 #[.string s] w fun e w' => ∃ v, e = .returned v ∧ Made w v (encT s.data.toList) w' := by
  have HL := Lib.hid (encU_len10 s.size (by omega))
  obtain ⟨U, hU⟩ : ∃ U, U = encU s.size := ⟨_, rfl⟩
  have hC := fun N w hN => refUint_any s.size N w (by omega) hN
  rw [← hU] at HL
  simp only [← hU] at hC
  have HC := Lib.hid hC
  have HU := Lib.hid hU
  clear hC hU
  go_enter Try.func38, Try.ntmps38
  go_wp2_with (first
    | (at_builtin; refine append_text rfl (.tmp 6) (.tmp 7) rfl k2 _ U rfl HM.out.own s rfl (by have := HL.out; omega) ?_)
    | (go_at_call 35; refine (HC.out _ _ rfl).mono ?_; rintro e w2 ⟨v, rfl, h2⟩; obtain ⟨k2, hm2⟩ := h2.mk'; have HM := Lib.hid hm2; clear hm2 h2))
  intro k' v' w' h1 h2 h3
  have R : Made w v' (encT s.data.toList) w' := by
    have e : s.data.toList.length = s.size := by rw [Array.length_toList]; rfl
    unfold encT
    rw [e, ← HU.out]
    exact (HM.out.step h1 h2 h3).made
  have HR := Lib.hid R
  clear R h1 h2 h3
  go_wp2
  go_ret
  exact ⟨_, rfl, HR.out⟩
set_option maxRecDepth 100000 in
set_option maxHeartbeats 800000 in
theorem refInts_any (D : Nat → Prop) (a : Option Addr) (n c : Nat) (z : List Int) (w : World) (hI : Is D w a n c z) (h64 : Ok64 z) (hn : n ≤ 1000000000) :
    Calls Try.prog 39 #[.slice a n c] w fun e w' => ∃ v, e = .returned v ∧ Made w v (encL z) w' := by
  have HI := Lib.hid hI
  have H64 := Lib.hid h64
  have HZ := Lib.hid hI.1
  have HL := Lib.hid (encU_len10 n (by omega))
  obtain ⟨U, hU⟩ : ∃ U, U = encU n := ⟨_, rfl⟩
  have hC := fun N w hN => refUint_any n N w (by omega) hN
  rw [← hU] at HL
  simp only [← hU] at hC
  have HC := Lib.hid hC
  have HU := Lib.hid hU
  clear hI h64 hC hU
  go_enter Try.func39, Try.ntmps39
  go_wp2_with (go_at_call 35; refine (HC.out _ _ rfl).mono ?_; rintro e w2 ⟨v, rfl, h2⟩; obtain ⟨k2, hm2⟩ := h2.mk'; have HM0 := Lib.hid hm2; clear hm2 h2)
  go_loopw [3, 4] (fun v t wr => ∃ i : Nat, i ≤ n ∧ t = .int .i64 (i : Int) ∧ ∃ k, Mk w k v (U ++ (z.take i).flatMap encI) wr) (fun _ t _ => n - (intOf t).toNat)
  case atStart => exact ⟨0, Nat.zero_le _, rfl, k2, by simpa using HM0.out⟩
  case round =>
    obtain ⟨i, hi, rfl, k, hmk⟩ := hrel
    have HM := Lib.hid hmk
    clear hmk HM0
    by_cases hlt : i < n
    · have hiz : i < z.length := by have := HZ.out; omega
      obtain ⟨b, off, hDb, hbw, rfl, hc⟩ := HI.out.cells (by omega)
      have hcell : wr.cell? ⟨b, off + i, none⟩ = some (.int .i64 z[i]) := (HM.out.bel.cell (p := ⟨b, off + i, none⟩) hbw).trans (hc i hiz)
      have hz := H64.out z[i] (List.getElem_mem hiz)
      have hlen := encIs_len (z.take i) (H64.out.take i)
      have hlen2 : (z.take i).length ≤ i := List.length_take_le _ _
      have hle := encI_len z[i] hz.1 hz.2
      have HT := Lib.hid (take_enc z i hiz)
      obtain ⟨P, hP⟩ : ∃ P, P = U ++ (z.take i).flatMap encI := ⟨_, rfl⟩
      have hPl : P.length ≤ 100000000000 := by have := HL.out; rw [hP, List.length_append]; omega
      have hM2 := HM.out
      rw [← hP] at hM2
      have HM2 := Lib.hid hM2
      have HP := Lib.hid hP
      clear hc hlen hlen2 hP hM2 HM
      obtain ⟨va, vc, rfl, -⟩ := HM2.out.own.bs
      generalize z[i] = x at *
      obtain ⟨X, hX⟩ : ∃ X, X = encI x := ⟨_, rfl⟩
      have hCi := fun w => refInt_any x w hz.1 hz.2
      rw [← hX] at HT hle
      simp only [← hX] at hCi
      have HCi := Lib.hid hCi
      clear hCi hX hz
      go_wp2_with (first
        | (at_builtin; refine append_bs rfl (.tmp 15) (.tmp 20) rfl k _ P rfl (HM2.out.later B3.out).own _ a3 _ c3 X rfl S3.out (by omega) ?_)
        | (go_at_call 36; refine (HCi.out _).mono ?_; rintro e w3 ⟨v3, rfl, h3⟩; obtain ⟨a3, c3, rfl, hs3⟩ := h3.bs; obtain ⟨-, -, -, hb3⟩ := h3; have S3 := Lib.hid hs3; have B3 := Lib.hid hb3; clear hs3 hb3))
      intro k' v' w' h1 h2 h3
      have R : Mk w k' v' (U ++ (z.take (i + 1)).flatMap encI) w' := by
        rw [HT.out, ← List.append_assoc, ← HP.out]
        exact (HM2.out.later B3.out).step h1 h2 h3
      have HR := Lib.hid R
      clear R h1 h2 h3
      go_wp2
      go_roundw
      case rel => exact ⟨i + 1, by omega, by go_num, k', HR.out⟩
      case measure => simp [intOf]; omega
    · obtain rfl : i = n := by omega
      have h := HM.out.made
      rw [List.take_of_length_le (by have := HZ.out; omega), HU.out, ← HZ.out] at h
      have HR : Hid (Made w u3 (encL z) wr) := Lib.hid h
      clear h
      go_wp2
      go_ret
      exact ⟨_, rfl, HR.out⟩
end Go.Proofs.Ytgmidhngchjoaaa

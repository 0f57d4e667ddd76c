/-
  The laws' Bound, made, and their examples.
-/
import Derived.Test.YtbnodhcgdgcebaaT5
namespace Go.Proofs.Ytbnodhcgdgcebaa
open Go.RowKit
set_option linter.unusedSimpArgs false
set_option linter.unusedVariables false
theorem around_nat (n most : Int) (h : 0 < most) : ∃ r : Nat, around n most = (r : Int) ∧ (r : Int) < most := by
  have := around_bd n most h
  exact ⟨(around n most).toNat, by omega, by omega⟩
theorem bound_any (n : Int) (w : World) (h1 : -9223372036854775808 ≤ n) (h2 : n ≤ 9223372036854775807) :
    Calls Try.prog 18 #[.int .i64 n, .int .i64 5000] w fun e w' => e = .returned (.int .i64 (around n 10001 - 5000)) ∧ w = w' := by
  have har := around_bd n 10001 (by omega)
  obtain ⟨A, hA⟩ : ∃ A, A = around n 10001 := ⟨_, rfl⟩
  rw [← hA] at har ⊢
  have HA := Lib.hid hA
  have hw : IntKind.i64.wrap (A - 5000) = A - 5000 := i64_id _ (by omega) (by omega)
  clear hA
  go_enter Try.func18, Try.ntmps18
  go_wp2_with (go_at_call 14; refine (around_any n 10001 _ h1 h2 (by omega) (by omega)).mono ?_; rintro e w3 ⟨rfl, rfl⟩; rw [← HA.out])
  go_ret
  exact ⟨rfl, rfl⟩
/-- 64 equal bytes -/
def rep (c : UInt8) : List UInt8 := List.replicate 64 c
section
variable {w0 w : World} {L : List Obj} {g i : Nat} {d : DM}
/-- how many sectors a disk is made with -/
def secs (n : Int) : Nat := 1 + (around n 16).toNat
theorem secs_bd (n : Int) : 1 ≤ secs n ∧ secs n ≤ 16 := by
  have := around_bd n 16 (by omega)
  unfold secs
  omega
theorem made_lv (h : Lv w0 w L) (n : Int) (h1 : -9223372036854775808 ≤ n) (h2 : n ≤ 9223372036854775807) :
    Calls Try.prog 12 #[.int .i64 n] w fun e w' => ∃ g, e = .returned (.pointer (some ⟨g, 0, none⟩)) ∧ Lv w0 w' (diskO g (DM.new (secs n)) :: L) := by
  have har := around_bd n 16 (by omega)
  have hsb := secs_bd n
  have hs : (1 : Int) + around n 16 = (secs n : Int) := by unfold secs; omega
  obtain ⟨A, hA⟩ : ∃ A, A = around n 16 := ⟨_, rfl⟩
  obtain ⟨S, hS⟩ : ∃ S, S = secs n := ⟨_, rfl⟩
  rw [← hA] at har hs
  rw [← hS] at hs hsb ⊢
  have HA := Lib.hid hA
  have Hs := Lib.hid hs
  have HL := Lib.hid h
  have hw : IntKind.i64.wrap (1 + A) = 1 + A := i64_id _ (by omega) (by omega)
  clear hA hS hs h
  go_enter Try.func12, Try.ntmps12
  go_wp2_with (first
    | (go_at_call 14; refine (around_any n 16 _ h1 h2 (by omega) (by omega)).mono ?_; rintro e w3 ⟨rfl, rfl⟩; rw [← HA.out])
    | (go_at_call 19; rw [Hs.out]; refine (new_lv HL.out S hsb.1 (by omega)).mono ?_; rintro e w3 ⟨g, rfl, hl⟩; have HL2 := Lib.hid hl; clear hl))
  go_ret
  exact ⟨_, rfl, HL2.out⟩
theorem full_w (h : Lv w0 w L) (c : UInt8) (C : Int) (hC : C = (c.toNat : Int)) :
    Calls Try.prog 23 #[.int .u8 C] w fun e w' => ∃ a c', e = .returned (.slice a 64 c') ∧ (∃ Z, Bs Z w' a 64 c' (rep c)) ∧ Lv w0 w' L := by
  refine (full_any c C hC w).mono ?_
  rintro e w' ⟨v, rfl, hm⟩
  obtain ⟨a, c', rfl, hb⟩ := hm.bs
  obtain ⟨_, _, _, hbl⟩ := hm
  exact ⟨a, c', rfl, ⟨_, hb⟩, h.below hbl⟩
theorem read_w (h : Lv w0 w L) (hi : L[i]? = some (diskO g d)) (k : Nat) (hk : k < d.S.length) (ho : d.on = true) :
    Calls Try.prog 21 #[.pointer (some ⟨g, 0, none⟩), .int .i64 (k : Int)] w fun e w' => ∃ a c, e = .returned (.tuple #[.slice a 64 c, .int .i64 0]) ∧ Lv w0 w' (bytesO (.slice a 64 c) (lastB d.S[k]) :: L) := by
  have h64 := (h.ok hi).2.2.2 _ (List.getElem_mem hk)
  have hl := h64.2 _ (lastB_mem h64.1)
  refine (read_lv h hi k hk ho).mono ?_
  rintro e w' ⟨v, rfl, hl2⟩
  obtain ⟨Z, a, c, rfl, hb⟩ := hl2.bytes (i := 0) rfl
  rw [hl] at hl2 ⊢
  exact ⟨a, c, rfl, hl2⟩
theorem Lv.bs {a : Option Addr} {n c : Nat} {l : List UInt8} (h : Lv w0 w L) (hi : L[i]? = some (bytesO (.slice a n c) l)) : ∃ Z, Bs Z w a n c l := by
  obtain ⟨Z, a', c', e, hb⟩ := h.bytes hi
  injection e with e1 e2 e3
  subst e1 e2 e3
  exact ⟨Z, hb⟩
end
def q0 : DM := DM.new 2
def q1 : DM := q0.write 1 (rep 7)
def q2 : DM := q1.flush
def q3 : DM := q2.write 1 (rep 8)
def q4 : DM := q3.write 1 (rep 9)
def q5 : DM := q4.restart [⟨1, 1, 10⟩]
def c1 : DM := q4.restart []
def c2 : DM := c1.setFuse 1
def c3 : DM := c2.write 0 (rep 1)
theorem rep_len (c : UInt8) : (rep c).length = 64 := List.length_replicate
theorem okq0 : q0.Ok 0 := DM.new_ok (by omega) (by omega)
theorem okq1 : q1.Ok 1 := DM.write_ok okq0 (rep_len 7)
theorem okq2 : q2.Ok 0 := DM.flush_ok okq1
theorem okq3 : q3.Ok 1 := DM.write_ok okq2 (rep_len 8)
theorem okq4 : q4.Ok 2 := DM.write_ok okq3 (rep_len 9)
theorem okc1 : c1.Ok 0 := DM.restart_ok okq4 []
theorem c2_fuse : c2.fuse = 1 := by kernel_rfl
theorem okc2 : c2.Ok 100000 := DM.Ok.mono (N := 0) ⟨okc1.1, okc1.2.1, by rw [c2_fuse]; omega, okc1.2.2.2⟩ (by omega)
theorem lenq0 : q0.S.length = 2 := by kernel_rfl
theorem lenq1 : q1.S.length = 2 := by kernel_rfl
theorem lenq2 : q2.S.length = 2 := by kernel_rfl
theorem lenq3 : q3.S.length = 2 := by kernel_rfl
theorem lenq4 : q4.S.length = 2 := by kernel_rfl
theorem lenq5 : q5.S.length = 2 := by kernel_rfl
theorem lenc1 : c1.S.length = 2 := by kernel_rfl
theorem lenc2 : c2.S.length = 2 := by kernel_rfl

theorem q4_last (h : 1 < q4.S.length) : lastB (q4.S[1]'h) = rep 9 := by kernel_rfl
theorem c1_last (h : 1 < c1.S.length) : lastB (c1.S[1]'h) = rep 7 := by kernel_rfl
def bl5 : List UInt8 := (rep 9).take 10 ++ (rep 8).drop 10
theorem q5_last (h : 1 < q5.S.length) : lastB (q5.S[1]'h) = bl5 := by kernel_rfl
theorem bl5_len : bl5.length = 64 := by kernel_rfl
theorem bl5_9 (h : 9 < bl5.length) : bl5[9] = 9 := by kernel_rfl
theorem bl5_10 (h : 10 < bl5.length) : bl5[10] = 8 := by kernel_rfl
def tn1 : Value := .slice none 0 0
theorem run_torn1 (W : World) : (Instr.build 67 #[(0, .int .i64 1), (1, .int .i64 1), (2, .int .i64 10)]).run Try.prog W = .ok (.agg #[.int .i64 1, .int .i64 1, .int .i64 10]) W := by kernel_rfl
theorem run_torn2 (W : World) : (Instr.buildSlice 33 1 #[(0, .agg #[.int .i64 1, .int .i64 1, .int .i64 10])]).run Try.prog W = .ok (.slice (some ⟨W.heap.size, 0, none⟩) 1 1) (W.alloc (.cells #[.int .i64 1, .int .i64 1, .int .i64 10] 67)) := by kernel_rfl
theorem torn1_lv {w0 w : World} {L : List Obj} (h : Lv w0 w L) : Lv w0 (w.alloc (.cells #[.int .i64 1, .int .i64 1, .int .i64 10] 67)) (tornO (.slice (some ⟨w.heap.size, 0, none⟩) 1 1) [⟨1, 1, 10⟩] :: L) := by
  refine h.cons ((Below.refl _ _).alloc (Nat.le_refl _) _) (B := fun b => b = w.heap.size) ⟨some ⟨w.heap.size, 0, none⟩, 1, rfl, rfl, ⟨rfl, Nat.le_refl _, by unfold maxLen; decide, (fun h => by cases h), fun _ => ⟨_, 0, rfl, rfl, ?_⟩⟩, ?_⟩ ?_
  · exact range_row (l := [.int .i64 1, .int .i64 1, .int .i64 10]) (heap_new rfl)
  · intro t ht
    rw [List.mem_singleton.1 ht]
    unfold TOk; decide
  · rintro j rfl
    exact ⟨Nat.le_refl _, by simp⟩
theorem Lv.ts {w0 w : World} {L : List Obj} {i : Nat} {a : Option Addr} {n c : Nat} {ts : List TM} (h : Lv w0 w L) (hi : L[i]? = some (tornO (.slice a n c) ts)) : ∃ Z, Ts Z w a n c ts := by
  obtain ⟨B, ⟨a', c', e, hb⟩, _⟩ := h.get hi
  injection e with e1 e2 e3
  subst e1 e2 e3
  exact ⟨B, hb⟩
set_option maxRecDepth 100000 in
set_option maxHeartbeats 4000000 in
theorem lives_any (w : World) : Calls Try.prog 17 #[] w fun e w' => e = .returned (.bool true) ∧ Below w.heap.size w w' := by
  obtain ⟨Q0, hq0⟩ : ∃ Q, Q = q0 := ⟨_, rfl⟩
  obtain ⟨Q1, hq1⟩ : ∃ Q, Q = q1 := ⟨_, rfl⟩
  obtain ⟨Q2, hq2⟩ : ∃ Q, Q = q2 := ⟨_, rfl⟩
  obtain ⟨Q3, hq3⟩ : ∃ Q, Q = q3 := ⟨_, rfl⟩
  obtain ⟨Q4, hq4⟩ : ∃ Q, Q = q4 := ⟨_, rfl⟩
  obtain ⟨Q5, hq5⟩ : ∃ Q, Q = q5 := ⟨_, rfl⟩
  obtain ⟨C1, hc1⟩ : ∃ Q, Q = c1 := ⟨_, rfl⟩
  obtain ⟨C2, hc2⟩ : ∃ Q, Q = c2 := ⟨_, rfl⟩
  obtain ⟨C3, hc3⟩ : ∃ Q, Q = c3 := ⟨_, rfl⟩
  have Oq0 : Hid (Q0.on = true) := Lib.hid (by subst hq0; kernel_rfl)
  have Nq0 : Hid (1 < Q0.S.length) := Lib.hid (by subst hq0; rw [lenq0]; omega)
  have Oq1 : Hid (Q1.on = true) := Lib.hid (by subst hq1; kernel_rfl)
  have Nq1 : Hid (1 < Q1.S.length) := Lib.hid (by subst hq1; rw [lenq1]; omega)
  have Oq2 : Hid (Q2.on = true) := Lib.hid (by subst hq2; kernel_rfl)
  have Nq2 : Hid (1 < Q2.S.length) := Lib.hid (by subst hq2; rw [lenq2]; omega)
  have Oq3 : Hid (Q3.on = true) := Lib.hid (by subst hq3; kernel_rfl)
  have Nq3 : Hid (1 < Q3.S.length) := Lib.hid (by subst hq3; rw [lenq3]; omega)
  have Oq4 : Hid (Q4.on = true) := Lib.hid (by subst hq4; kernel_rfl)
  have Nq4 : Hid (1 < Q4.S.length) := Lib.hid (by subst hq4; rw [lenq4]; omega)
  have Oq5 : Hid (Q5.on = true) := Lib.hid (by subst hq5; kernel_rfl)
  have Nq5 : Hid (1 < Q5.S.length) := Lib.hid (by subst hq5; rw [lenq5]; omega)
  have Oc1 : Hid (C1.on = true) := Lib.hid (by subst hc1; kernel_rfl)
  have Nc1 : Hid (1 < C1.S.length) := Lib.hid (by subst hc1; rw [lenc1]; omega)
  have Oc2 : Hid (C2.on = true) := Lib.hid (by subst hc2; kernel_rfl)
  have Nc2 : Hid (1 < C2.S.length) := Lib.hid (by subst hc2; rw [lenc2]; omega)
  have Oc3 : Hid (C3.on = false) := Lib.hid (by subst hc3; kernel_rfl)
  have Lq0 : Hid (Q0.S.length = 2) := Lib.hid (by subst hq0; kernel_rfl)
  have Kq0 : Hid (Q0.Ok 100000) := Lib.hid (by subst hq0; exact okq0.mono (by omega))
  have Kq1 : Hid (Q1.Ok 100000) := Lib.hid (by subst hq1; exact okq1.mono (by omega))
  have Kq2 : Hid (Q2.Ok 100000) := Lib.hid (by subst hq2; exact okq2.mono (by omega))
  have Kq3 : Hid (Q3.Ok 100000) := Lib.hid (by subst hq3; exact okq3.mono (by omega))
  have Kq4 : Hid (Q4.Ok 100000) := Lib.hid (by subst hq4; exact okq4.mono (by omega))
  have Kc2 : Hid (C2.Ok 100000) := Lib.hid (by subst hc2; exact okc2.mono (by omega))
  have Eq0 : Hid (DM.new 2 = Q0) := Lib.hid (by subst hq0; rfl)
  have Eq1 : Hid (Q0.write 1 (rep 7) = Q1) := Lib.hid (by subst hq0; subst hq1; rfl)
  have Eq2 : Hid (Q1.flush = Q2) := Lib.hid (by subst hq1; subst hq2; rfl)
  have Eq3 : Hid (Q2.write 1 (rep 8) = Q3) := Lib.hid (by subst hq2; subst hq3; rfl)
  have Eq4 : Hid (Q3.write 1 (rep 9) = Q4) := Lib.hid (by subst hq3; subst hq4; rfl)
  have Eq5 : Hid (Q4.restart [⟨1, 1, 10⟩] = Q5) := Lib.hid (by subst hq4; subst hq5; rfl)
  have Ec1 : Hid (Q4.restart [] = C1) := Lib.hid (by subst hq4; subst hc1; rfl)
  have Ec2 : Hid (C1.setFuse 1 = C2) := Lib.hid (by subst hc1; subst hc2; rfl)
  have Ec3 : Hid (C2.write 0 (rep 1) = C3) := Lib.hid (by subst hc2; subst hc3; rfl)
  have Lq4 : Hid (∀ h, lastB (Q4.S[1]'h) = rep 9) := Lib.hid (by subst hq4; exact q4_last)
  have Lc1 : Hid (∀ h, lastB (C1.S[1]'h) = rep 7) := Lib.hid (by subst hc1; exact c1_last)
  have Lq5 : Hid (∀ h, lastB (Q5.S[1]'h) = bl5) := Lib.hid (by subst hq5; exact q5_last)
  have H0c3 : Hid (hasB C3 0 = true) := Lib.hid (by subst hc3; kernel_rfl)
  have H2c3 : Hid (hasB C3 2 = false) := Lib.hid (by subst hc3; kernel_rfl)
  have N0c2 : Hid (0 < C2.S.length) := Lib.hid (by subst hc2; rw [lenc2]; omega)
  obtain ⟨R5, hR5⟩ : ∃ R5, R5 = bl5 := ⟨_, rfl⟩
  rw [← hR5] at Lq5
  have HR5 := Lib.hid hR5
  clear hq0 hq1 hq2 hq3 hq4 hq5 hc1 hc2 hc3 hR5
  have HL0 := Lib.hid (Lv.refl w)
  have hb1 := run_torn1
  have hb2 := run_torn2
  go_enter Try.func17, Try.ntmps17
  go_upto_region 5 with (first
    | (have hL := HL0.out; go_at_call 19; refine (new_lv hL 2 (by omega) (by omega)).mono ?_; rintro e w1 ⟨gd, rfl, hl⟩; rw [Eq0.out] at hl; have HL1 : Hid (Lv w w1 [diskO gd Q0]) := Lib.hid hl; clear hl; clear HL0 hL)
    | (have hL := HL1.out; go_at_call 19; refine (new_bad 0 _ (.inl (by omega))).mono ?_; rintro e w2 ⟨rfl, rfl⟩; have HL2 := HL1; clear HL1 hL)
    | (have hL := HL2.out; go_at_call 20; refine (len_lv hL (i := 0) (d := Q0) rfl).mono ?_; rintro e w3 ⟨rfl, rfl⟩; rw [Lq0.out]; have HL3 := HL2; clear HL2 hL)
    | (have hL := HL3.out; go_at_call 34; refine (on_lv hL (i := 0) (d := Q0) rfl).mono ?_; rintro e w4 ⟨rfl, rfl⟩; rw [Oq0.out]; have HL4 := HL3; clear HL3 hL))
  go_upto_region 7 with (first
    | (have hL := HL4.out; go_at_call 23; refine (full_w hL 7 7 rfl).mono ?_; rintro e w5 ⟨af, cf, rfl, ⟨Zf, hf⟩, hl⟩; have HL5 := Lib.hid hl; have HF := Lib.hid hf; clear hl hf HL4 hL)
    | (have hL := HL5.out; go_at_call 31; refine (write_lv hL (i := 0) (d := Q0) rfl HF.out 1 Nq0.out Oq0.out Kq0.out).mono ?_; rintro e w6 ⟨rfl, hl⟩; rw [Eq1.out] at hl; clear HF; have HL6 : Hid (Lv w w6 [diskO gd Q1]) := Lib.hid hl; clear hl; clear HL5 hL)
    | (have hL := HL6.out; go_at_call 30; refine (flush_lv hL (i := 0) (d := Q1) rfl Oq1.out).mono ?_; rintro e w7 ⟨rfl, hl⟩; rw [Eq2.out] at hl; have HL7 : Hid (Lv w w7 [diskO gd Q2]) := Lib.hid hl; clear hl; clear HL6 hL)
    | (have hL := HL7.out; go_at_call 23; refine (full_w hL 8 8 rfl).mono ?_; rintro e w8 ⟨af, cf, rfl, ⟨Zf, hf⟩, hl⟩; have HL8 := Lib.hid hl; have HF := Lib.hid hf; clear hl hf HL7 hL)
    | (have hL := HL8.out; go_at_call 31; refine (write_lv hL (i := 0) (d := Q2) rfl HF.out 1 Nq2.out Oq2.out Kq2.out).mono ?_; rintro e w9 ⟨rfl, hl⟩; rw [Eq3.out] at hl; clear HF; have HL9 : Hid (Lv w w9 [diskO gd Q3]) := Lib.hid hl; clear hl; clear HL8 hL)
    | (have hL := HL9.out; go_at_call 23; refine (full_w hL 9 9 rfl).mono ?_; rintro e w10 ⟨af, cf, rfl, ⟨Zf, hf⟩, hl⟩; have HL10 := Lib.hid hl; have HF := Lib.hid hf; clear hl hf HL9 hL)
    | (have hL := HL10.out; go_at_call 31; refine (write_lv hL (i := 0) (d := Q3) rfl HF.out 1 Nq3.out Oq3.out Kq3.out).mono ?_; rintro e w11 ⟨rfl, hl⟩; rw [Eq4.out] at hl; clear HF; have HL11 : Hid (Lv w w11 [diskO gd Q4]) := Lib.hid hl; clear hl; clear HL10 hL))
  go_upto_region 12 with (first
    | (have hL := HL11.out; go_at_call 37; refine (clone_lv hL (i := 0) (d := Q4) rfl Kq4.out).mono ?_; rintro e w12 ⟨gc, rfl, hl⟩; have HL12 : Hid (Lv w w12 [diskO gc Q4, diskO gd Q4]) := Lib.hid hl; clear hl; clear HL11 hL)
    | (have hL := HL12.out; go_at_call 21; refine (read_w hL (i := 1) (d := Q4) rfl 1 Nq4.out Oq4.out).mono ?_; rintro e w13 ⟨aa, ca, rfl, hl⟩; rw [Lq4.out] at hl; have HL13 : Hid (Lv w w13 [bytesO (.slice aa 64 ca) (rep 9), diskO gc Q4, diskO gd Q4]) := Lib.hid hl; clear hl; clear HL12 hL)
    | (have hL := HL13.out; go_at_call 27; obtain ⟨Zt, ht⟩ := (torn1_lv hL).ts (i := 0) rfl; refine (restart_lv (torn1_lv hL) (i := 3) (d := Q4) rfl ht (.inr ⟨0, _, by decide, rfl, rfl⟩)).mono ?_; rintro e w14 ⟨rfl, hl⟩; rw [Eq5.out] at hl; have HL14 : Hid (Lv w w14 [bytesO (.slice aa 64 ca) (rep 9), diskO gc Q4, diskO gd Q5]) := Lib.hid hl.tail; clear hl; clear HL13 hL))
  go_upto_region 15 with (first
    | (have hL := HL14.out; go_at_call 21; refine (read_w hL (i := 2) (d := Q5) rfl 1 Nq5.out Oq5.out).mono ?_; rintro e w15 ⟨ab, cb, rfl, hl⟩; rw [Lq5.out] at hl; have HL15 : Hid (Lv w w15 [bytesO (.slice ab 64 cb) R5, bytesO (.slice aa 64 ca) (rep 9), diskO gc Q4, diskO gd Q5]) := Lib.hid hl; clear hl; clear HL14 hL)
    | (have hL := HL15.out; go_at_call 27; refine (restart_nil_lv hL (i := 2) (d := Q4) rfl).mono ?_; rintro e w16 ⟨rfl, hl⟩; rw [Ec1.out] at hl; have HL16 : Hid (Lv w w16 [bytesO (.slice ab 64 cb) R5, bytesO (.slice aa 64 ca) (rep 9), diskO gc C1, diskO gd Q5]) := Lib.hid hl; clear hl; clear HL15 hL)
    | (have hL := HL16.out; go_at_call 21; refine (read_w hL (i := 2) (d := C1) rfl 1 Nc1.out Oc1.out).mono ?_; rintro e w17 ⟨ax, cx, rfl, hl⟩; rw [Lc1.out] at hl; have HL17 : Hid (Lv w w17 [bytesO (.slice ax 64 cx) (rep 7), bytesO (.slice ab 64 cb) R5, bytesO (.slice aa 64 ca) (rep 9), diskO gc C1, diskO gd Q5]) := Lib.hid hl; clear hl; clear HL16 hL))
  go_upto_region 19 with (first
    | (have hL := HL17.out; go_at_call 29; refine (fuse_lv hL (i := 3) (d := C1) rfl 1 (by omega) (by omega)).mono ?_; rintro e w18 ⟨rfl, hl⟩; rw [Ec2.out] at hl; have HL18 : Hid (Lv w w18 [bytesO (.slice ax 64 cx) (rep 7), bytesO (.slice ab 64 cb) R5, bytesO (.slice aa 64 ca) (rep 9), diskO gc C2, diskO gd Q5]) := Lib.hid hl; clear hl; clear HL17 hL)
    | (have hL := HL18.out; go_at_call 23; refine (full_w hL 1 1 rfl).mono ?_; rintro e w19 ⟨af, cf, rfl, ⟨Zf, hf⟩, hl⟩; have HL19 := Lib.hid hl; have HF := Lib.hid hf; clear hl hf HL18 hL)
    | (have hL := HL19.out; go_at_call 31; refine (write_lv hL (i := 3) (d := C2) rfl HF.out 0 N0c2.out Oc2.out Kc2.out).mono ?_; rintro e w20 ⟨rfl, hl⟩; rw [Ec3.out] at hl; clear HF; have HL20 : Hid (Lv w w20 [bytesO (.slice ax 64 cx) (rep 7), bytesO (.slice ab 64 cb) R5, bytesO (.slice aa 64 ca) (rep 9), diskO gc C3, diskO gd Q5]) := Lib.hid hl; clear hl; clear HL19 hL)
    | (have hL := HL20.out; go_at_call 23; refine (full_w hL 2 2 rfl).mono ?_; rintro e w21 ⟨af, cf, rfl, ⟨Zf, hf⟩, hl⟩; have HL21 := Lib.hid hl; have HF := Lib.hid hf; clear hl hf HL20 hL)
    | (have hL := HL21.out; go_at_call 31; refine (write_lv_off hL (i := 3) (d := C3) rfl _ _ 0 H0c3.out Oc3.out).mono ?_; rintro e w22 ⟨rfl, rfl⟩; clear HF; have HL22 := HL21; clear HL21 hL)
    | (have hL := HL22.out; go_at_call 21; refine (read_lv_off hL (i := 3) (d := C3) rfl 0 H0c3.out Oc3.out).mono ?_; rintro e w23 ⟨rfl, rfl⟩; have HL23 := HL22; clear HL22 hL))
  go_upto_region 21 with (first
    | (have hL := HL23.out; go_at_call 34; refine (on_lv hL (i := 3) (d := C3) rfl).mono ?_; rintro e w24 ⟨rfl, rfl⟩; rw [Oc3.out]; have HL24 := HL23; clear HL23 hL))
  have Hl5 : Hid (R5.length = 64) := Lib.hid (by rw [HR5.out]; exact bl5_len)
  have H59 : Hid (∀ h, R5[9]'h = 9) := Lib.hid (by have := HR5.out; subst this; exact bl5_9)
  have H510 : Hid (∀ h, R5[10]'h = 8) := Lib.hid (by have := HR5.out; subst this; exact bl5_10)
  go_wp2_with (first
    | (have hL := HL24.out; go_at_call 23; refine (full_w hL 9 9 rfl).mono ?_; rintro e w25 ⟨af, cf, rfl, ⟨Zf, hf⟩, hl⟩; have HL25 := Lib.hid hl; have HF := Lib.hid hf; clear hl hf HL24 hL)
    | (have hL := HL25.out; go_at_call 22; obtain ⟨Zq, hq⟩ := hL.bs (i := 2) rfl; refine (sameBytes_any _ _ _ _ _ _ _ _ _ _ _ hq HF.out).mono ?_; rintro e w26 ⟨rfl, rfl⟩; rw [show (rep 9 == rep 9) = true from beq_self_eq_true _]; obtain ⟨Zb, hbb⟩ := hL.bs (i := 1) rfl; obtain ⟨bb, ob, _, _, hbe, hcb⟩ := hbb.cells (by omega); obtain rfl := hbe; have c9 := hcb 9 (by rw [Hl5.out]; omega); have c10 := hcb 10 (by rw [Hl5.out]; omega); rw [H59.out] at c9; rw [H510.out] at c10; clear hbb hcb; have HL26 := HL25; clear HL25 hL HF hq)
    | (have hL := HL26.out; go_at_call 23; refine (full_w hL 7 7 rfl).mono ?_; rintro e w27 ⟨af, cf, rfl, ⟨Zf, hf⟩, hl⟩; have HL27 := Lib.hid hl; have HF := Lib.hid hf; clear hl hf HL26 hL)
    | (have hL := HL27.out; go_at_call 22; obtain ⟨Zq, hq⟩ := hL.bs (i := 0) rfl; refine (sameBytes_any _ _ _ _ _ _ _ _ _ _ _ hq HF.out).mono ?_; rintro e w28 ⟨rfl, rfl⟩; rw [show (rep 7 == rep 7) = true from beq_self_eq_true _]; have HL28 := HL27; clear HL27 hL HF hq)
    | (have hL := HL28.out; go_at_call 31; refine (write_arg _ none 0 0 0 _ (by omega) (by omega)).mono ?_; rintro e w29 ⟨rfl, rfl⟩; have HL29 := HL28; clear HL28 hL)
    | (have hL := HL29.out; go_at_call 23; refine (full_w hL 1 1 rfl).mono ?_; rintro e w30 ⟨af, cf, rfl, ⟨Zf, hf⟩, hl⟩; have HL30 := Lib.hid hl; have HF := Lib.hid hf; clear hl hf HL29 hL)
    | (have hL := HL30.out; go_at_call 31; refine (write_lv_no hL (i := 3) (d := C3) rfl _ _ 2 H2c3.out).mono ?_; rintro e w31 ⟨rfl, rfl⟩; clear HF; have HL31 := HL30; clear HL30 hL))
  go_ret
  exact ⟨rfl, HL31.out.args⟩
end Go.Proofs.Ytbnodhcgdgcebaa

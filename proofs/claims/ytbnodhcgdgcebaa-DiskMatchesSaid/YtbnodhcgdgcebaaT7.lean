/-
  The law DiskNew.
-/
import Derived.Test.YtbnodhcgdgcebaaT6
namespace Go.Proofs.Ytbnodhcgdgcebaa
open Go.RowKit
set_option linter.unusedSimpArgs false
set_option linter.unusedVariables false
theorem new_last (n k : Nat) (hk : k < (DM.new n).S.length) : lastB (DM.new n).S[k] = rep 0 := by
  have : (DM.new n).S[k] = [zeroB] := by simp [DM.new]
  rw [this]
  rfl
set_option maxRecDepth 100000 in
set_option maxHeartbeats 1000000 in
theorem disknew_any (s : Int) (w : World) (h1 : -9223372036854775808 ≤ s) (h2 : s ≤ 9223372036854775807) :
    Calls Try.prog 4 #[.int .i64 s] w fun e w' => e = .returned (.bool true) ∧ Below w.heap.size w w' := by
  have har := around_bd s 10001 (by omega)
  obtain ⟨N, hN⟩ : ∃ N, N = around s 10001 - 5000 := ⟨_, rfl⟩
  have hN1 : -5000 ≤ N := by omega
  have hN2 : N ≤ 5000 := by omega
  have HN := Lib.hid hN
  clear har hN
  by_cases hlo : N < 1
  · go_enter Try.func4, Try.ntmps4
    go_wp2_with (first
      | (go_at_call 18; refine (bound_any s _ h1 h2).mono ?_; rintro e w1 ⟨rfl, rfl⟩; rw [← HN.out])
      | (go_at_call 19; refine (new_bad N _ (.inl hlo)).mono ?_; rintro e w1 ⟨rfl, rfl⟩)
      | (go_at_call 17; refine (lives_any _).mono ?_; rintro e w1 ⟨rfl, hb⟩; have HB := Lib.hid hb; clear hb))
    go_ret
    exact ⟨rfl, HB.out⟩
  · by_cases hhi : 4096 < N
    · have hlo2 : 1 ≤ N := by omega
      clear hlo
      go_enter Try.func4, Try.ntmps4
      go_wp2_with (first
        | (go_at_call 18; refine (bound_any s _ h1 h2).mono ?_; rintro e w1 ⟨rfl, rfl⟩; rw [← HN.out])
        | (go_at_call 19; refine (new_bad N _ (.inr hhi)).mono ?_; rintro e w1 ⟨rfl, rfl⟩)
        | (go_at_call 17; refine (lives_any _).mono ?_; rintro e w1 ⟨rfl, hb⟩; have HB := Lib.hid hb; clear hb))
      go_ret
      exact ⟨rfl, HB.out⟩
    · obtain ⟨n, hn⟩ : ∃ n : Nat, N = (n : Int) := ⟨N.toNat, by omega⟩
      subst hn
      have n1 : 1 ≤ n := by omega
      have n2 : n ≤ 4096 := by omega
      have n3 : (1 : Int) ≤ (n : Int) := by omega
      have n4 : (n : Int) ≤ 4096 := by omega
      obtain ⟨m, hm⟩ : ∃ m, m = n - 1 := ⟨_, rfl⟩
      have hm2 : m < n := by omega
      have hw : IntKind.i64.wrap ((n : Int) - 1) = (m : Int) := (i64_id _ (by omega) (by omega)).trans (by omega)
      obtain ⟨Q, hQ⟩ : ∃ Q, Q = DM.new n := ⟨_, rfl⟩
      have HQ := Lib.hid hQ
      have Hlen : Hid (Q.S.length = n) := Lib.hid (by rw [hQ]; simp [DM.new])
      have Hon : Hid (Q.on = true) := Lib.hid (by rw [hQ]; rfl)
      have Hk : Hid (m < Q.S.length) := Lib.hid (by rw [Hlen.out]; exact hm2)
      have Hno : Hid (hasB Q (n : Int) = false) := Lib.hid (by unfold hasB; rw [Hlen.out]; simp)
      have Hla : Hid (∀ h, lastB (Q.S[m]'h) = rep 0) := Lib.hid (by subst hQ; exact new_last n m)
      have HL0 := Lib.hid (Lv.refl w)
      clear hlo hhi hm hQ hm2 n1 n2
      go_enter Try.func4, Try.ntmps4
      go_wp2_with (first
        | (go_at_call 18; refine (bound_any s _ h1 h2).mono ?_; rintro e w1 ⟨rfl, rfl⟩; rw [← HN.out])
        | (have hL := HL0.out; go_at_call 19; refine (new_lv hL n (by omega) (by omega)).mono ?_; rintro e w1 ⟨g, rfl, hl⟩; rw [← HQ.out] at hl; have HL1 := Lib.hid hl; clear hl HL0 hL)
        | (have hL := HL1.out; go_at_call 20; refine (len_lv hL (i := 0) (d := Q) rfl).mono ?_; rintro e w1 ⟨rfl, rfl⟩; rw [Hlen.out]; clear hL)
        | (have hL := HL1.out; go_at_call 21; refine (read_w hL (i := 0) (d := Q) rfl m Hk.out Hon.out).mono ?_; rintro e w1 ⟨ab, cb, rfl, hl⟩; rw [Hla.out] at hl; have HL2 := Lib.hid hl; clear hl HL1 hL)
        | (have hL := HL2.out; go_at_call 21; refine (read_lv_no hL (i := 1) (d := Q) rfl (n : Int) Hno.out).mono ?_; rintro e w1 ⟨rfl, rfl⟩; clear hL)
        | (have hL := HL2.out; go_at_call 23; refine (full_w hL 0 0 rfl).mono ?_; rintro e w1 ⟨af, cf, rfl, ⟨Zf, hf⟩, hl⟩; have HL3 := Lib.hid hl; have HF := Lib.hid hf; clear hl hf HL2 hL)
        | (have hL := HL3.out; go_at_call 22; obtain ⟨Zq, hq⟩ := hL.bs (i := 0) rfl; refine (sameBytes_any _ _ _ _ _ _ _ _ _ _ _ hq HF.out).mono ?_; rintro e w1 ⟨rfl, rfl⟩; rw [show (rep 0 == rep 0) = true from beq_self_eq_true _]; clear hL HF hq)
        | (have hL := HL3.out; go_at_call 17; refine (lives_any _).mono ?_; rintro e w1 ⟨rfl, hb⟩; have HB := Lib.hid (hL.args.trans (hb.mono hL.size)); clear hb hL))
      go_ret
      exact ⟨rfl, HB.out⟩
end Go.Proofs.Ytbnodhcgdgcebaa

/-
  The day of a date: the program's and the reference's (written by gen_I4.py).
-/
import Derived.Test.YtcdjilnlmihnhaaDoorI3
namespace Go.Proofs.YtcdjilnlmihnhaaDoor
open Go.RowKit
set_option linter.unusedSimpArgs false
set_option linter.unusedVariables false
theorem valid_sm {y m d : Int} (h : validD y m d) : 1 ≤ y ∧ y ≤ 9999 ∧ 1 ≤ m ∧ m ≤ 12 ∧ 1 ≤ d ∧ d ≤ 31 := by
  have hm := valid_m h
  have := (len_pos y m hm.1 hm.2).2
  obtain ⟨h1, h2, h3, h4⟩ := h
  omega
theorem new_rng {y : Int} (h1 : 1 ≤ y) (h2 : y ≤ 10000) : 0 ≤ newY y ∧ newY y ≤ 3652059 := by
  have a := new_le h1
  have b := new_le h2
  have e1 : newY 1 = 0 := by decide
  have e2 : newY 10000 = 3652059 := by decide
  omega
theorem cum_rng (y : Int) (k : Nat) (h : k ≤ 13) : 0 ≤ cumD y k ∧ cumD y k ≤ 366 := by
  have a := cum_le y (show 0 ≤ k by omega)
  have b := cum_le y h
  have e : cumD y 0 = 0 := rfl
  have e2 := cum_13 y
  split at e2 <;> omega
theorem cum_one (y : Int) : cumD y 1 = 0 := by rw [cum_eq y 1 (by omega) (by omega)]; simp
def dayR (y m d : Int) : Int := if validD y m d then dayN y m d else 0
theorem chk_ok {y m d : Int} (h : validD y m d) : chk y m d = 0 := by unfold chk; rw [if_pos h]
theorem chk_no {y m d : Int} (h : ¬ validD y m d) : chk y m d = 5 := by unfold chk; rw [if_neg h]
/-- the sums of the loop, and their bounds -/
theorem sums {y m d : Int} (h : validD y m d) : ∃ F : Nat → Int, F 1 = newY y + d - 1 ∧ (∀ k : Nat, F (k + 1) = F k + lenD y k) ∧ (∀ k : Nat, k ≤ 13 → 0 ≤ F k ∧ F k ≤ 4000000) ∧ F m.toNat = dayN y m d := by
  have hs := valid_sm h
  have hn := new_rng (y := y) (by omega) (by omega)
  refine ⟨fun k => newY y + d - 1 + cumD y k, ?_, fun k => ?_, fun k hk => ?_, rfl⟩
  · simp only [cum_one]; omega
  · show newY y + d - 1 + (cumD y k + lenD y (k : Int)) = newY y + d - 1 + cumD y k + lenD y (k : Int); omega
  · have := cum_rng y k hk
    show 0 ≤ newY y + d - 1 + cumD y k ∧ newY y + d - 1 + cumD y k ≤ 4000000
    omega

set_option maxRecDepth 100000 in
set_option maxHeartbeats 1000000 in
theorem day_any (y m d : Int) (w : World) (hT : Tabs w) : Calls Tryd.prog 16 #[.agg #[.int .i64 y, .int .i64 m, .int .i64 d]] w fun e w' => e = .returned (.tuple #[.int .i64 (dayR y m d), .int .i64 (chk y m d)]) ∧ Below w.heap.size w w' := by
  have HK : Hid (∀ o, Calls Tryd.prog 29 #[.agg #[.int .i64 y, .int .i64 m, .int .i64 d]] (w.alloc o) fun e w' => e = .returned (.int .i64 (chk y m d)) ∧ Below (w.alloc o).heap.size (w.alloc o) w') :=
    Lib.hid (fun o => check_any y m d _ (hT.below ((Below.refl _ w).alloc (Nat.le_refl _) o)))
  by_cases hv : validD y m d
  · rw [chk_ok hv] at HK ⊢
    have HR : Hid (dayR y m d = dayN y m d) := Lib.hid (by unfold dayR; rw [if_pos hv])
    have hs := valid_sm hv
    obtain ⟨F, hF1, hFs, hFb, hFm⟩ := sums hv
    have HF1 := Lib.hid hF1
    have HFs := Lib.hid hFs
    have HFb := Lib.hid hFb
    have HFM := Lib.hid hFm
    have hny := new_rng (y := y) (by omega) (by omega)
    obtain ⟨Y, hY⟩ : ∃ Y, Y = newY y := ⟨_, rfl⟩
    rw [← hY] at hny
    have HY := Lib.hid hY
    have HF1' : Hid (F 1 = Y + d - 1) := Lib.hid (by rw [hF1, HY.out])
    clear HF1
    have HF1 := HF1'
    clear HF1' hF1 hFs hFb hFm hY
    have hw1 : IntKind.i64.wrap (Y + d) = Y + d := i64_id _ (by omega) (by omega)
    have hw2 : IntKind.i64.wrap (Y + d - 1) = Y + d - 1 := i64_id _ (by omega) (by omega)
    have HT := Lib.hid hT
    have HV := Lib.hid hv
    clear hv
    go_enter Tryd.func16, Tryd.ntmps16
    go_wp2_with (go_at_call 29; refine (HK.out _).mono ?_; rintro e w1 ⟨rfl, hb⟩; have HB := Lib.hid hb; have c0 : w1.cell? ⟨w.heap.size, 0, none⟩ = some (.int .i64 y) := (hb.cell (p := ⟨w.heap.size, 0, none⟩) (by simp)).trans (by simp); have c1 : w1.cell? ⟨w.heap.size, 1, none⟩ = some (.int .i64 m) := (hb.cell (p := ⟨w.heap.size, 1, none⟩) (by simp)).trans (by simp); have c2 : w1.cell? ⟨w.heap.size, 2, none⟩ = some (.int .i64 d) := (hb.cell (p := ⟨w.heap.size, 2, none⟩) (by simp)).trans (by simp); have HNY : Hid (∀ n, Calls Tryd.prog 24 #[.int .i64 y] (w1.drewN n) fun e w' => e = .returned (.int .i64 Y) ∧ w' = w1.drewN n) := Lib.hid (fun n => by rw [HY.out]; exact (newYear_any y _ (by omega) (by omega)).mono fun e w' h => ⟨h.1, h.2.symm⟩); have HLen : Hid (∀ (n : Nat) (k : Nat), Calls Tryd.prog 25 #[.int .i64 y, .int .i64 (k : Int)] (w1.drewN n) fun e w' => e = .returned (.int .i64 (lenD y k)) ∧ w1.drewN n = w') := Lib.hid (fun n k => length_any y k _ ((HT.out.below ((Below.refl _ w).alloc (Nat.le_refl _) _)).below (below_drewN hb n))); clear hb)
    go_quiet ((go_at_call 24; exact Calls.quiet_of_same (HNY.out _)))
    go_wp2
    go_loopw [5, 6] (fun s u wr => ∃ n k : Nat, wr = w1.drewN n ∧ 1 ≤ k ∧ (k : Int) ≤ m ∧ s = .int .i64 (F k) ∧ u = .int .i64 (k : Int)) (fun _ u _ => (m - intOf u).toNat)
    case atStart => exact ⟨_, 1, rfl, by omega, by omega, by rw [HF1.out], rfl⟩
    case round =>
      obtain ⟨nd, k, rfl, hk1, hk2, rfl, rfl⟩ := hrel
      by_cases hkm : (k : Int) < m
      · obtain ⟨l, hl⟩ : ∃ l, l = lenD y k := ⟨_, rfl⟩
        have HLe := Lib.hid (HLen.out nd k)
        rw [← hl] at HLe
        have hfk := HFb.out k (by omega)
        have hfk2 := HFb.out (k + 1) (by omega)
        have hS := HFs.out k
        rw [← hl] at hS
        obtain ⟨f, hf⟩ : ∃ f, f = F k := ⟨_, rfl⟩
        rw [← hf] at hfk hS
        have HF := Lib.hid hf
        have HS := Lib.hid hS
        rw [hS] at hfk2
        have hw5 : IntKind.i64.wrap (f + l) = f + l := i64_id _ (by omega) (by omega)
        have hw6 : IntKind.i64.wrap ((k : Int) + 1) = (k : Int) + 1 := i64_id _ (by omega) (by omega)
        rw [← hf]
        clear hl hS hf hfk2
        go_wp2_with (go_at_call 25; refine HLe.out.mono ?_; rintro e w4 ⟨rfl, rfl⟩)
        go_roundw
        case rel => exact ⟨_, k + 1, rfl, by omega, by omega, by rw [HS.out], by go_num⟩
        case measure => simp only [intOf]; omega
      · obtain rfl : (k : Int) = m := by omega
        go_wp2
        go_ret2
        have HFm := HFM.out
        rw [Int.toNat_natCast] at HFm
        exact ⟨by rw [HR.out, ← HFm]; rfl, below_drewN (((Below.refl _ w).alloc (Nat.le_refl _) _).trans (HB.out.mono (by simp))) _⟩
  · rw [chk_no hv] at HK ⊢
    have HR : Hid (dayR y m d = 0) := Lib.hid (by unfold dayR; rw [if_neg hv])
    clear hT hv
    go_enter Tryd.func16, Tryd.ntmps16
    go_wp2_with (go_at_call 29; refine (HK.out _).mono ?_; rintro e w1 ⟨rfl, hb⟩; have HB := Lib.hid hb; clear hb)
    go_ret2
    rw [HR.out]
    exact ⟨rfl, ((Below.refl _ w).alloc (Nat.le_refl _) _).trans (HB.out.mono (by simp))⟩

end Go.Proofs.YtcdjilnlmihnhaaDoor

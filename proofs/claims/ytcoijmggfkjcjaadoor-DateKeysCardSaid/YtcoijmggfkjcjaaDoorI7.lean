/-
  Numbers with zeros before them: the program's and the reference's (written by gen_I7.py).
-/
import Derived.Test.YtcoijmggfkjcjaaDoorI1
import Derived.Test.YtcoijmggfkjcjaaDoorI5
import Derived.Test.YtcoijmggfkjcjaaDoorI6
import Derived.Lib.AppendIntMem
namespace Go.Proofs.YtcoijmggfkjcjaaDoor
open Go.RowKit
set_option linter.unusedSimpArgs false
set_option linter.unusedVariables false
theorem itoa_nat (n : Nat) : Lib.itoa (n : Int) = Lib.decDigits n := by
  unfold Lib.itoa
  rw [if_neg (by omega), Int.toNat_natCast]
theorem size_mk (l : List UInt8) : (⟨l.toArray⟩ : ByteArray).size = l.length := by simp [ByteArray.size]
theorem app_mk (a b : List UInt8) : (⟨a.toArray⟩ : ByteArray) ++ ⟨b.toArray⟩ = ⟨(a ++ b).toArray⟩ := by
  apply ByteArray.ext
  simp
set_option maxRecDepth 100000 in
set_option maxHeartbeats 1000000 in
theorem padded_gen (n k : Nat) (hn : n ≤ 1000000) (hk : k ≤ 100) (hl : (Lib.decDigits n).length ≤ k) (w : World) (hT : Tabs w) :
    Calls Tryd.prog 48 #[.int .i64 (n : Int), .int .i64 (k : Int)] w fun e w' => e = .returned (.string ⟨(Lib.repeatL [48] (k - (Lib.decDigits n).length) ++ Lib.decDigits n).toArray⟩) ∧ Below w.heap.size w w' := by
  have HI := Lib.hid (sh_strconv_Itoa n (by omega) (by omega) w hT.pow)
  rw [itoa_nat] at HI
  obtain ⟨l, hlL⟩ : ∃ l, l = Lib.decDigits n := ⟨_, rfl⟩
  rw [← hlL] at HI hl ⊢
  obtain ⟨s, hs⟩ : ∃ s : ByteArray, s = ⟨l.toArray⟩ := ⟨_, rfl⟩
  rw [← hs] at HI
  have hsz : s.size = l.length := by rw [hs, size_mk]
  obtain ⟨r, hr⟩ : ∃ r : ByteArray, r = ⟨(Lib.repeatL [48] (k - l.length)).toArray⟩ := ⟨_, rfl⟩
  have HREP : Hid (∀ u, Calls Tryd.prog 63 #[.string ⟨#[48]⟩, .int .i64 ((k : Int) - (s.size : Int))] u fun e w' => e = .returned (.string r) ∧ Below u.heap.size u w') := Lib.hid (fun u => by
    have h := sh_strings_Repeat ⟨#[48]⟩ (k - l.length) u (by omega) (by show 1 * _ ≤ _; omega)
    rw [show ((k - l.length : Nat) : Int) = (k : Int) - (s.size : Int) by omega] at h
    rw [hr]
    exact h)
  have hrs : r.size = k - s.size := by rw [hr, size_mk, Lib.repeatL_length, hsz]; simp
  have HF : Hid (r ++ s = ⟨(Lib.repeatL [48] (k - l.length) ++ l).toArray⟩) := Lib.hid (by rw [hr, hs, app_mk])
  have hsk : s.size ≤ k := by omega
  have hw1 : IntKind.i64.wrap ((k : Int) - (s.size : Int)) = (k : Int) - (s.size : Int) := i64_id _ (by omega) (by omega)
  have hrk : r.size ≤ 100 := by omega
  have hsk2 : s.size ≤ 100 := by omega
  have hadd : r.size + s.size ≤ 9223372036854775807 := by omega
  have hadd2 : (r ++ s).size ≤ 9223372036854775807 := by rw [ByteArray.size_append]; omega
  clear hr hs hlL hsz hrs hl hT hsk
  go_enter Tryd.func48, Tryd.ntmps48
  go_wp2_with (first
    | (go_at_call 62; refine HI.out.mono ?_; rintro e w1 ⟨rfl, q, os, hq⟩; have HB := Lib.hid (by rw [hq]; exact Lib.below_grow _ w (Nat.le_refl _) q os : Below w.heap.size w w1); clear hq)
    | (go_at_call 63; refine (HREP.out _).mono ?_; rintro e w2 ⟨rfl, hb⟩; have HB2 := Lib.hid hb; clear hb))
  go_ret
  rw [← HF.out]
  exact ⟨rfl, HB.out.trans (HB2.out.mono HB.out.size)⟩
def DGS : ByteArray := ⟨#[48, 49, 50, 51, 52, 53, 54, 55, 56, 57]⟩
theorem dgs_ext (d : Nat) (h : d ≤ 9) : DGS.extract d (d + 1) = ⟨#[dgt d]⟩ := by
  have : d = 0 ∨ d = 1 ∨ d = 2 ∨ d = 3 ∨ d = 4 ∨ d = 5 ∨ d = 6 ∨ d = 7 ∨ d = 8 ∨ d = 9 := by omega
  rcases this with rfl | rfl | rfl | rfl | rfl | rfl | rfl | rfl | rfl | rfl <;> rfl
/-- the digits of what is left of a number -/
def leftD (u : Nat) : List UInt8 := if u = 0 then [] else Lib.decDigits u
theorem leftD_step (u : Nat) (h : u ≠ 0) : leftD u = leftD (u / 10) ++ [dgt (u % 10)] := by
  unfold leftD
  rw [if_neg h]
  by_cases h1 : u < 10
  · rw [if_pos (by omega), dec1 u h1, Nat.mod_eq_of_lt h1]; rfl
  · rw [if_neg (by omega), decS u h1]
theorem dec_len (n : Nat) (h : n < 10000) : (Lib.decDigits n).length ≤ 4 := (pad4 n h).1
set_option maxRecDepth 100000 in
set_option maxHeartbeats 1000000 in
theorem decimal_any (n : Nat) (hn : n < 10000) (w : World) : Calls Tryd.prog 64 #[.int .i64 (n : Int)] w fun e w' => e = .returned (.string ⟨(Lib.decDigits n).toArray⟩) ∧ w = w' := by
  by_cases h0 : n = 0
  · subst h0
    have HD : Hid (Lib.decDigits 0 = [48]) := Lib.hid (by rw [dec1 0 (by omega)]; rfl)
    go_enter Tryd.func64, Tryd.ntmps64
    go_wp2
    go_ret
    rw [HD.out]
    exact ⟨rfl, rfl⟩
  · have hn0 : ¬ (n : Int) = 0 := by omega
    have hnn : ¬ (n : Int) < 0 := by omega
    have HD : Hid (Lib.decDigits n = leftD n) := Lib.hid (by unfold leftD; rw [if_neg h0])
    have hlen := dec_len n hn
    have HLN := Lib.hid hlen
    go_enter Tryd.func64, Tryd.ntmps64
    go_wp2
    go_loopw [4, 5] (fun s u wr => wr = w ∧ ∃ (k : Nat) (l : List UInt8), u = .int .i64 (k : Int) ∧ k < 10000 ∧ s = .string ⟨l.toArray⟩ ∧ Lib.decDigits n = leftD k ++ l) (fun _ u _ => (intOf u).toNat)
    case atStart => exact ⟨rfl, n, [], rfl, hn, rfl, by rw [HD.out]; simp⟩
    case round =>
      obtain ⟨rfl, k, l, rfl, hk, rfl, hl⟩ := hrel
      by_cases hk0 : k = 0
      · subst hk0
        have HX : Hid (Lib.decDigits n = l) := Lib.hid (by rw [hl]; rfl)
        clear hl
        go_wp2
        go_ret
        rw [HX.out]
        exact ⟨rfl, rfl⟩
      · have hk1 : ¬ (k : Int) = 0 := by omega
        obtain ⟨q, hq⟩ : ∃ q, q = k / 10 := ⟨_, rfl⟩
        obtain ⟨d, hd⟩ : ∃ d, d = k % 10 := ⟨_, rfl⟩
        have HX : Hid (Lib.decDigits n = leftD q ++ dgt d :: l) := Lib.hid (by rw [hl, leftD_step k hk0, hq, hd]; simp)
        have HB : Hid (l.length ≤ 4) := Lib.hid (by have := HLN.out; rw [hl] at this; simp at this; omega)
        have h2 : (k : Int) % 10 = (d : Int) := by omega
        have h4 : (k : Int) / 10 = (q : Int) := by omega
        have hd9 : d ≤ 9 := by omega
        have h5 : (d : Int) + 1 ≤ 10 := by omega
        have h6 : IntKind.i64.wrap ((d : Int) + 1) = (d : Int) + 1 := i64_id _ (by omega) (by omega)
        have h7 : ¬ (d : Int) < 0 := by omega
        have hq2 : q < k := by omega
        obtain ⟨s, hs⟩ : ∃ s : ByteArray, s = ⟨l.toArray⟩ := ⟨_, rfl⟩
        have hss : s.size ≤ 4 := by rw [hs, size_mk]; exact HB.out
        have HC : Hid ((⟨#[dgt d]⟩ : ByteArray) ++ s = ⟨(dgt d :: l).toArray⟩) := Lib.hid (by rw [hs]; exact app_mk [dgt d] l)
        have hx : (⟨#[48, 49, 50, 51, 52, 53, 54, 55, 56, 57]⟩ : ByteArray).extract d (d + 1) = ⟨#[dgt d]⟩ := dgs_ext d hd9
        have hz : (⟨#[dgt d]⟩ : ByteArray).size = 1 := rfl
        have HQ := Lib.hid hq
        rw [← hs]
        clear hl hq hd hs
        go_wp2
        go_roundw
        case rel => exact ⟨trivial, q, dgt d :: l, rfl, by omega, by rw [HC.out], HX.out⟩
        case measure => simp only [intOf]; omega
set_option maxRecDepth 100000 in
set_option maxHeartbeats 1000000 in
theorem refPadded_gen (n k : Nat) (hn : n < 10000) (hk : k ≤ 100) (hl : (Lib.decDigits n).length ≤ k) (w : World) :
    Calls Tryd.prog 49 #[.int .i64 (n : Int), .int .i64 (k : Int)] w fun e w' => e = .returned (.string ⟨(Lib.repeatL [48] (k - (Lib.decDigits n).length) ++ Lib.decDigits n).toArray⟩) ∧ w = w' := by
  have HI := Lib.hid (decimal_any n hn w)
  obtain ⟨l, hlL⟩ : ∃ l, l = Lib.decDigits n := ⟨_, rfl⟩
  rw [← hlL] at HI hl ⊢
  have HLL := Lib.hid hl
  clear hlL hl
  go_enter Tryd.func49, Tryd.ntmps49
  go_wp2_with (go_at_call 64; refine HI.out.mono ?_; rintro e w1 ⟨rfl, rfl⟩)
  go_loopw [5] (fun s wr => wr = w ∧ ∃ j : Nat, j + l.length ≤ k ∧ s = .string ⟨(Lib.repeatL [48] j ++ l).toArray⟩) (fun s _ => match s with | .string b => k - b.size | _ => 0)
  case atStart => exact ⟨rfl, 0, by have := HLL.out; omega, rfl⟩
  case round =>
    obtain ⟨rfl, j, hj, rfl⟩ := hrel
    obtain ⟨s, hs⟩ : ∃ s : ByteArray, s = ⟨(Lib.repeatL [48] j ++ l).toArray⟩ := ⟨_, rfl⟩
    have hsz : s.size = j + l.length := by rw [hs, size_mk, List.length_append, Lib.repeatL_length]; simp
    rw [← hs]
    by_cases hjk : j + l.length < k
    · have h1 : (s.size : Int) < (k : Int) := by omega
      have HC : Hid ((⟨#[48]⟩ : ByteArray) ++ s = ⟨(Lib.repeatL [48] (j + 1) ++ l).toArray⟩) := Lib.hid (by rw [hs]; exact app_mk [48] _)
      have HZ : Hid (((⟨#[48]⟩ : ByteArray) ++ s).size = s.size + 1) := Lib.hid (by rw [ByteArray.size_append, Nat.add_comm]; rfl)
      have hz : (⟨#[48]⟩ : ByteArray).size = 1 := rfl
      have hs100 : s.size ≤ 100 := by omega
      have HJ := Lib.hid hsz
      clear hs hsz
      go_wp2
      go_roundw
      case rel => exact ⟨trivial, j + 1, by omega, by rw [HC.out]⟩
      case measure => have := HZ.out; have := HJ.out; simp only [this]; omega
    · have h1 : ¬ (s.size : Int) < (k : Int) := by omega
      obtain rfl : j = k - l.length := by omega
      have HS := Lib.hid hs
      clear hs hsz
      go_wp2
      go_ret
      rw [HS.out]
      exact ⟨rfl, rfl⟩
end Go.Proofs.YtcoijmggfkjcjaaDoor

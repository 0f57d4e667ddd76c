/-
  Numbers with zeros before them: the program's and the reference's (written by gen_I7.py).
-/
import Derived.Test.YtcdjilnlmihnhaaDoorI1
import Derived.Test.YtcdjilnlmihnhaaDoorI5
import Derived.Test.YtcdjilnlmihnhaaDoorI6
import Derived.Lib.AppendIntMem
namespace Go.Proofs.YtcdjilnlmihnhaaDoor
open Go.RowKit
set_option linter.unusedSimpArgs false
set_option linter.unusedVariables false
theorem itoa_nat (n : Nat) : Lib.itoa (n : Int) = Lib.decDigits n := by
  unfold Lib.itoa
  rw [if_neg (by omega), Int.toNat_natCast]
theorem size_mk (l : List UInt8) : (⟨l.toArray⟩ : ByteArray).size = l.length := by simp [ByteArray.size]
theorem app_mk (a b : List UInt8) : (⟨a.toArray⟩ : ByteArray) ++ ⟨b.toArray⟩ = ⟨(a ++ b).toArray⟩ := by
  apply ByteArray.ext
  simp
set_option maxRecDepth 100000 in
set_option maxHeartbeats 1000000 in
theorem padded_gen (n k : Nat) (hn : n ≤ 1000000) (hk : k ≤ 100) (hl : (Lib.decDigits n).length ≤ k) (w : World) (hT : Tabs w) :
    Calls Tryd.prog 13 #[.int .i64 (n : Int), .int .i64 (k : Int)] w fun e w' => e = .returned (.string ⟨(Lib.repeatL [48] (k - (Lib.decDigits n).length) ++ Lib.decDigits n).toArray⟩) ∧ Below w.heap.size w w' := by
  have HI := Lib.hid (sh_strconv_Itoa n (by omega) (by omega) w hT.pow)
  rw [itoa_nat] at HI
  obtain ⟨l, hlL⟩ : ∃ l, l = Lib.decDigits n := ⟨_, rfl⟩
  rw [← hlL] at HI hl ⊢
  obtain ⟨s, hs⟩ : ∃ s : ByteArray, s = ⟨l.toArray⟩ := ⟨_, rfl⟩
  rw [← hs] at HI
  have hsz : s.size = l.length := by rw [hs, size_mk]
  obtain ⟨r, hr⟩ : ∃ r : ByteArray, r = ⟨(Lib.repeatL [48] (k - l.length)).toArray⟩ := ⟨_, rfl⟩
  have HREP : Hid (∀ u, Calls Tryd.prog 27 #[.string ⟨#[48]⟩, .int .i64 ((k : Int) - (s.size : Int))] u fun e w' => e = .returned (.string r) ∧ Below u.heap.size u w') := Lib.hid (fun u => by
    have h := sh_strings_Repeat ⟨#[48]⟩ (k - l.length) u (by omega) (by show 1 * _ ≤ _; omega)
    rw [show ((k - l.length : Nat) : Int) = (k : Int) - (s.size : Int) by omega] at h
    rw [hr]
    exact h)
  have hrs : r.size = k - s.size := by rw [hr, size_mk, Lib.repeatL_length, hsz]; simp
  have HF : Hid (r ++ s = ⟨(Lib.repeatL [48] (k - l.length) ++ l).toArray⟩) := Lib.hid (by rw [hr, hs, app_mk])
  have hsk : s.size ≤ k := by omega
  have hw1 : IntKind.i64.wrap ((k : Int) - (s.size : Int)) = (k : Int) - (s.size : Int) := i64_id _ (by omega) (by omega)
  have hrk : r.size ≤ 100 := by omega
  have hsk2 : s.size ≤ 100 := by omega
  have hadd : r.size + s.size ≤ 9223372036854775807 := by omega
  have hadd2 : (r ++ s).size ≤ 9223372036854775807 := by rw [ByteArray.size_append]; omega
  clear hr hs hlL hsz hrs hl hT hsk
  go_enter Tryd.func13, Tryd.ntmps13
  go_wp2_with (first
    | (go_at_call 26; refine HI.out.mono ?_; rintro e w1 ⟨rfl, q, os, hq⟩; have HB := Lib.hid (by rw [hq]; exact Lib.below_grow _ w (Nat.le_refl _) q os : Below w.heap.size w w1); clear hq)
    | (go_at_call 27; refine (HREP.out _).mono ?_; rintro e w2 ⟨rfl, hb⟩; have HB2 := Lib.hid hb; clear hb))
  go_ret
  rw [← HF.out]
  exact ⟨rfl, HB.out.trans (HB2.out.mono HB.out.size)⟩
def DGS : ByteArray := ⟨#[48, 49, 50, 51, 52, 53, 54, 55, 56, 57]⟩
theorem dgs_ext (d : Nat) (h : d ≤ 9) : DGS.extract d (d + 1) = ⟨#[dgt d]⟩ := by
  have : d = 0 ∨ d = 1 ∨ d = 2 ∨ d = 3 ∨ d = 4 ∨ d = 5 ∨ d = 6 ∨ d = 7 ∨ d = 8 ∨ d = 9 := by omega
  rcases this with rfl | rfl | rfl | rfl | rfl | rfl | rfl | rfl | rfl | rfl <;> rfl
/-- the digits of what is left of a number -/
def leftD (u : Nat) : List UInt8 := if u = 0 then [] else Lib.decDigits u
theorem leftD_step (u : Nat) (h : u ≠ 0) : leftD u = leftD (u / 10) ++ [dgt (u % 10)] := by
  unfold leftD
  rw [if_neg h]
  by_cases h1 : u < 10
  · rw [if_pos (by omega), dec1 u h1, Nat.mod_eq_of_lt h1]; rfl
  · rw [if_neg (by omega), decS u h1]
theorem dec_len (n : Nat) (h : n < 10000) : (Lib.decDigits n).length ≤ 4 := (pad4 n h).1
end Go.Proofs.YtcdjilnlmihnhaaDoor

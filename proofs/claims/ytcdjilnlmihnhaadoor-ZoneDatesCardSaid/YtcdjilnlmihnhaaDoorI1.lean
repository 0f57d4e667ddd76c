/-
  Printed dates, as mathematics.
-/
import Derived.Test.YtcdjilnlmihnhaaDoorI0
import Derived.Lib.Repeat
import Derived.Lib.Bytealg
namespace Go.Proofs.YtcdjilnlmihnhaaDoor
set_option linter.unusedSimpArgs false
set_option linter.unusedVariables false
def dgt (n : Nat) : UInt8 := UInt8.ofNat (48 + n)
def p2 (n : Nat) : List UInt8 := [dgt (n / 10), dgt (n % 10)]
def p4 (n : Nat) : List UInt8 := [dgt (n / 1000), dgt (n / 100 % 10), dgt (n / 10 % 10), dgt (n % 10)]
def printL (y m d : Int) : List UInt8 := p4 y.toNat ++ 45 :: (p2 m.toNat ++ 45 :: p2 d.toNat)
theorem dec1 (n : Nat) (h : n < 10) : Lib.decDigits n = [dgt n] := by rw [Lib.decDigits, dif_pos h]; rfl
theorem decS (n : Nat) (h : ¬ n < 10) : Lib.decDigits n = Lib.decDigits (n / 10) ++ [dgt (n % 10)] := by rw [Lib.decDigits, dif_neg h]; rfl
theorem dec2 (n : Nat) (h : ¬ n < 10) (h2 : n < 100) : Lib.decDigits n = [dgt (n / 10), dgt (n % 10)] := by rw [decS n h, dec1 _ (by omega)]; rfl
theorem dec3 (n : Nat) (h : ¬ n < 100) (h2 : n < 1000) : Lib.decDigits n = [dgt (n / 100), dgt (n / 10 % 10), dgt (n % 10)] := by
  rw [decS n (by omega), dec2 _ (by omega) (by omega), Nat.div_div_eq_div_mul]; rfl
theorem dec4 (n : Nat) (h : ¬ n < 1000) (h2 : n < 10000) : Lib.decDigits n = [dgt (n / 1000), dgt (n / 100 % 10), dgt (n / 10 % 10), dgt (n % 10)] := by
  rw [decS n (by omega), dec3 _ (by omega) (by omega), Nat.div_div_eq_div_mul, Nat.div_div_eq_div_mul]; rfl
theorem dgt0 : dgt 0 = 48 := by decide
theorem pad2 (n : Nat) (h : n < 100) : (Lib.decDigits n).length ≤ 2 ∧ Lib.repeatL [48] (2 - (Lib.decDigits n).length) ++ Lib.decDigits n = p2 n := by
  by_cases h1 : n < 10
  · rw [dec1 n h1]; refine ⟨by simp, ?_⟩
    unfold p2
    rw [show n / 10 = 0 by omega, show n % 10 = n by omega, dgt0]
    rfl
  · rw [dec2 n h1 h]; exact ⟨by simp, rfl⟩
theorem pad4 (n : Nat) (h : n < 10000) : (Lib.decDigits n).length ≤ 4 ∧ Lib.repeatL [48] (4 - (Lib.decDigits n).length) ++ Lib.decDigits n = p4 n := by
  by_cases h1 : n < 10
  · rw [dec1 n h1]; refine ⟨by simp, ?_⟩
    unfold p4
    rw [show n / 1000 = 0 by omega, show n / 100 % 10 = 0 by omega, show n / 10 % 10 = 0 by omega, show n % 10 = n by omega, dgt0]
    rfl
  · by_cases h2 : n < 100
    · rw [dec2 n h1 h2]; refine ⟨by simp, ?_⟩
      unfold p4
      rw [show n / 1000 = 0 by omega, show n / 100 % 10 = 0 by omega, show n / 10 % 10 = n / 10 by omega, dgt0]
      rfl
    · by_cases h3 : n < 1000
      · rw [dec3 n h2 h3]; refine ⟨by simp, ?_⟩
        unfold p4
        rw [show n / 1000 = 0 by omega, show n / 100 % 10 = n / 100 by omega, dgt0]
        rfl
      · rw [dec4 n h3 h]; exact ⟨by simp, rfl⟩
theorem p4_len (n : Nat) : (p4 n).length = 4 := rfl
theorem p2_len (n : Nat) : (p2 n).length = 2 := rfl
def isD (c : UInt8) : Bool := decide (48 ≤ c.toNat ∧ c.toNat ≤ 57)
/-- the number that digits are, as the program reckons it: each byte less '0', in a byte -/
def numF (n : Int) (l : List UInt8) : Int := l.foldl (fun n c => 10 * n + ((c - 48).toNat : Int)) n
def numL (l : List UInt8) : Int := numF 0 l
def wellF (s : List UInt8) : Bool :=
  s.length == 10 && s.getD 4 0 == 45 && s.getD 7 0 == 45 && (s.take 4).all isD && ((s.drop 5).take 2).all isD && (s.drop 8).all isD
/-- a parsed date: what it is, or the kind of fault (0 none, 1 range, 2 form) -/
def parseK (s : List UInt8) : Nat :=
  if wellF s = false then 2 else if validD (numL (s.take 4)) (numL ((s.drop 5).take 2)) (numL (s.drop 8)) then 0 else 1
def parseN (s : List UInt8) : Int :=
  if parseK s = 0 then dayN (numL (s.take 4)) (numL ((s.drop 5).take 2)) (numL (s.drop 8)) else 0
theorem dgt_isD (n : Nat) (h : n < 10) : isD (dgt n) = true ∧ ((dgt n - 48).toNat : Int) = n := by
  have : n = 0 ∨ n = 1 ∨ n = 2 ∨ n = 3 ∨ n = 4 ∨ n = 5 ∨ n = 6 ∨ n = 7 ∨ n = 8 ∨ n = 9 := by omega
  rcases this with rfl | rfl | rfl | rfl | rfl | rfl | rfl | rfl | rfl | rfl <;> decide
theorem p4_num (n : Nat) (h : n < 10000) : (p4 n).all isD = true ∧ numL (p4 n) = n := by
  have a := dgt_isD (n / 1000) (by omega)
  have b := dgt_isD (n / 100 % 10) (by omega)
  have c := dgt_isD (n / 10 % 10) (by omega)
  have d := dgt_isD (n % 10) (by omega)
  refine ⟨by simp [p4, a.1, b.1, c.1, d.1], ?_⟩
  simp only [p4, numL, numF, List.foldl_cons, List.foldl_nil, a.2, b.2, c.2, d.2]
  omega
theorem p2_num (n : Nat) (h : n < 100) : (p2 n).all isD = true ∧ numL (p2 n) = n := by
  have c := dgt_isD (n / 10) (by omega)
  have d := dgt_isD (n % 10) (by omega)
  refine ⟨by simp [p2, c.1, d.1], ?_⟩
  simp only [p2, numL, numF, List.foldl_cons, List.foldl_nil, c.2, d.2]
  omega
theorem valid_small {y m d : Int} (h : validD y m d) : 1 ≤ y ∧ y ≤ 9999 ∧ 1 ≤ m ∧ m ≤ 12 ∧ 1 ≤ d ∧ d ≤ 31 := by
  have hm := valid_m h
  have := (len_pos y m hm.1 hm.2).2
  obtain ⟨h1, h2, h3, h4⟩ := h
  omega
theorem parse_print {y m d : Int} (h : validD y m d) : parseK (printL y m d) = 0 ∧ parseN (printL y m d) = dayN y m d := by
  have hs := valid_small h
  have a := p4_num y.toNat (by omega)
  have b := p2_num m.toNat (by omega)
  have c := p2_num d.toNat (by omega)
  have e1 : (printL y m d).take 4 = p4 y.toNat := rfl
  have e2 : ((printL y m d).drop 5).take 2 = p2 m.toNat := rfl
  have e3 : (printL y m d).drop 8 = p2 d.toNat := rfl
  have ey : (y.toNat : Int) = y := by omega
  have em : (m.toNat : Int) = m := by omega
  have ed : (d.toNat : Int) = d := by omega
  have hw : wellF (printL y m d) = true := by
    unfold wellF
    rw [e1, e2, e3, a.1, b.1, c.1]
    rfl
  have hk : parseK (printL y m d) = 0 := by
    unfold parseK
    rw [hw, e1, e2, e3, a.2, b.2, c.2, ey, em, ed]
    simp [h]
  refine ⟨hk, ?_⟩
  unfold parseN
  rw [hk, e1, e2, e3, a.2, b.2, c.2, ey, em, ed]
  rfl
theorem printL_len (y m d : Int) : (printL y m d).length = 10 := rfl
end Go.Proofs.YtcdjilnlmihnhaaDoor

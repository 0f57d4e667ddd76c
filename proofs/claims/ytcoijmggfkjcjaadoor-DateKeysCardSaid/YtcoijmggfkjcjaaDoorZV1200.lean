/-
  Texts I0, I1, K0, A0, R0, I2, I3, I4, I5, I6, I7, one behind the other.
-/
import Derived.Lib.ItoaNum
import Derived.Lib.Repeat
import Derived.Lib.Bytealg
import Derived.Laws.AppendOwn
import Derived.Laws.OwnMore
import Derived.Deep.AppendSrc
import Derived.Deep.MidRow
import Derived.Lib.Hide
import Derived.WalkKit
import Derived.WalkSpells
import Derived.WalkLawsBesides
import GoSem.Claim
import Derived.Orders
import Derived.Tactics
import Derived.Lib.LaidTab
import Derived.Lib.ItoaMem
import Derived.WalkSmall
import Derived.BigQuiet
import Derived.Deep.QuietTactic
import Derived.StillTailTactics
import Derived.Deep.CutBlock
import Derived.OwnWalk
import Derived.Deep.DrawnRows
import Derived.Deep.CutRange
import Derived.Deep.LoopGhost
import Derived.Laws.Tables
import Derived.Laws.ResultCell
import Derived.Deep.WholeRow
import Derived.Shelf.LaysM
import Derived.Shelf.Strconv.Itoa3
import Derived.Shelf.Strings.Repeat
import Derived.Lib.AppendIntMem
import Derived.Test.YtcoijmggfkjcjaaDoorRows
import Derived.Test.YtcoijmggfkjcjaaDoorChecked
namespace Go.Proofs.YtcoijmggfkjcjaaDoor
set_option linter.unusedSimpArgs false
set_option linter.unusedVariables false
def leapB (y : Int) : Bool := (y % 4 == 0 && !(y % 100 == 0)) || y % 400 == 0
def lenD (y m : Int) : Int :=
  if m < 1 ∨ 12 < m then 0 else if m = 2 then (if leapB y then 29 else 28) else if m = 4 ∨ m = 6 ∨ m = 9 ∨ m = 11 then 30 else 31
def newY (y : Int) : Int := 365 * (y - 1) + (y - 1) / 4 - (y - 1) / 100 + (y - 1) / 400
/-- the days of the months before month m -/
def cumD (y : Int) : Nat → Int
  | 0 => 0
  | k + 1 => cumD y k + lenD y (k : Int)
def dayN (y m d : Int) : Int := newY y + d - 1 + cumD y m.toNat
def validD (y m d : Int) : Prop := 1 ≤ y ∧ y ≤ 9999 ∧ 1 ≤ d ∧ d ≤ lenD y m
instance (y m d : Int) : Decidable (validD y m d) := inferInstanceAs (Decidable (_ ∧ _ ∧ _ ∧ _))
theorem leap_iff (y : Int) : leapB y = true ↔ (y % 4 = 0 ∧ y % 100 ≠ 0) ∨ y % 400 = 0 := by simp [leapB]
theorem cum_eq (y : Int) (m : Nat) (h1 : 1 ≤ m) (h2 : m ≤ 13) :
    cumD y m = (if m = 1 then 0 else if m = 2 then 31 else if m = 3 then 59 else if m = 4 then 90 else if m = 5 then 120 else if m = 6 then 151 else if m = 7 then 181 else if m = 8 then 212 else if m = 9 then 243 else if m = 10 then 273 else if m = 11 then 304 else if m = 12 then 334 else 365) + (if 3 ≤ m ∧ leapB y = true then 1 else 0) := by
  have : m = 1 ∨ m = 2 ∨ m = 3 ∨ m = 4 ∨ m = 5 ∨ m = 6 ∨ m = 7 ∨ m = 8 ∨ m = 9 ∨ m = 10 ∨ m = 11 ∨ m = 12 ∨ m = 13 := by omega
  rcases this with rfl | rfl | rfl | rfl | rfl | rfl | rfl | rfl | rfl | rfl | rfl | rfl | rfl <;> (cases h : leapB y <;> simp [cumD, lenD, h])
theorem len_pos (y m : Int) (h1 : 1 ≤ m) (h2 : m ≤ 12) : 28 ≤ lenD y m ∧ lenD y m ≤ 31 := by
  unfold lenD
  rw [if_neg (by omega)]
  split
  · split <;> omega
  · split <;> omega
theorem len_bad (y m : Int) (h : m < 1 ∨ 12 < m) : lenD y m = 0 := by unfold lenD; rw [if_pos h]
theorem valid_m {y m d : Int} (h : validD y m d) : 1 ≤ m ∧ m ≤ 12 := by
  obtain ⟨_, _, h3, h4⟩ := h
  by_cases hm : m < 1 ∨ 12 < m
  · rw [len_bad y m hm] at h4; omega
  · omega
theorem cum_13 (y : Int) : cumD y 13 = 365 + (if leapB y = true then 1 else 0) := by
  rw [cum_eq y 13 (by omega) (by omega)]
  simp
theorem new_succ (y : Int) : newY (y + 1) = newY y + cumD y 13 := by
  rw [cum_13]
  unfold newY
  have : (if leapB y = true then (1 : Int) else 0) = y / 4 - (y - 1) / 4 - (y / 100 - (y - 1) / 100) + (y / 400 - (y - 1) / 400) := by
    by_cases h : leapB y = true
    · rw [if_pos h]; rw [leap_iff] at h; omega
    · rw [if_neg h]; rw [leap_iff] at h; omega
  rw [this]
  have e : y + 1 - 1 = y := by omega
  rw [e]
  omega
theorem cum_mono (y : Int) : ∀ (a k : Nat), cumD y a ≤ cumD y (a + k)
  | a, 0 => Int.le_refl _
  | a, k + 1 => by
    have h := cum_mono y a k
    have h2 : 0 ≤ lenD y ((a + k : Nat) : Int) := by
      by_cases hb : ((a + k : Nat) : Int) < 1 ∨ 12 < ((a + k : Nat) : Int)
      · rw [len_bad y _ hb]; omega
      · have := (len_pos y ((a + k : Nat) : Int) (by omega) (by omega)).1; omega
    show cumD y a ≤ cumD y (a + k) + lenD y ((a + k : Nat) : Int)
    omega
theorem cum_le (y : Int) {a b : Nat} (h : a ≤ b) : cumD y a ≤ cumD y b := by
  obtain ⟨k, rfl⟩ := Nat.exists_eq_add_of_le h
  exact cum_mono y a k
theorem new_lt (y : Int) : ∀ k : Nat, newY y + 365 * (k : Int) ≤ newY (y + k)
  | 0 => by simp
  | k + 1 => by
    have h := new_lt y k
    have h2 := new_succ (y + k)
    have h3 := cum_13 (y + k)
    have e : y + ((k + 1 : Nat) : Int) = y + k + 1 := by omega
    rw [e, h2, h3]
    split <;> omega
theorem new_le {a b : Int} (h : a ≤ b) : newY a + 365 * (b - a) ≤ newY b := by
  have := new_lt a (b - a).toNat
  have e : ((b - a).toNat : Int) = b - a := by omega
  rw [e] at this
  have e2 : a + (b - a) = b := by omega
  rwa [e2] at this
/-- what a valid date's day is between -/
theorem day_in {y m d : Int} (h : validD y m d) : newY y + cumD y m.toNat ≤ dayN y m d ∧ dayN y m d < newY y + cumD y (m.toNat + 1) ∧ cumD y (m.toNat + 1) ≤ cumD y 13 ∧ 0 ≤ cumD y m.toNat := by
  obtain ⟨hm1, hm2⟩ := valid_m h
  obtain ⟨h1, h2, h3, h4⟩ := h
  have e : cumD y (m.toNat + 1) = cumD y m.toNat + lenD y m := by
    show cumD y m.toNat + lenD y (m.toNat : Int) = _
    rw [show (m.toNat : Int) = m by omega]
  have h5 := cum_le y (show m.toNat + 1 ≤ 13 by omega)
  have h6 := cum_le y (show 0 ≤ m.toNat by omega)
  have h7 : cumD y 0 = 0 := rfl
  unfold dayN
  omega
theorem day_rng {y m d : Int} (h : validD y m d) : 0 ≤ dayN y m d ∧ dayN y m d ≤ 3652058 := by
  have h1 := day_in h
  have h2 := new_le (show (1 : Int) ≤ y from h.1)
  have h3 := new_succ y
  have h4 := new_le (show y + 1 ≤ 10000 by have := h.2.1; omega)
  have e1 : newY 1 = 0 := by decide
  have e2 : newY 10000 = 3652059 := by decide
  have := h.1
  have := h.2.1
  omega
/-- a date is determined by its day -/
theorem day_inj {y m d y' m' d' : Int} (h : validD y m d) (h' : validD y' m' d') (he : dayN y m d = dayN y' m' d') : y = y' ∧ m = m' ∧ d = d' := by
  have a := day_in h
  have b := day_in h'
  have hm := valid_m h
  have hm' := valid_m h'
  have ey : y = y' := by
    rcases Int.lt_trichotomy y y' with hl | rfl | hl
    · have h1 := new_le (show y + 1 ≤ y' by omega)
      have h2 := new_succ y
      omega
    · rfl
    · have h1 := new_le (show y' + 1 ≤ y by omega)
      have h2 := new_succ y'
      omega
  subst ey
  have em : m = m' := by
    rcases Int.lt_trichotomy m m' with hl | rfl | hl
    · have := cum_le y (show m.toNat + 1 ≤ m'.toNat by omega)
      omega
    · rfl
    · have := cum_le y (show m'.toNat + 1 ≤ m.toNat by omega)
      omega
  subst em
  refine ⟨rfl, rfl, ?_⟩
  unfold dayN at he
  omega
/-- the year of a day -/
def yearN (n : Int) : Int := if newY (1 + n * 400 / 146097 + 1) ≤ n then 1 + n * 400 / 146097 + 1 else 1 + n * 400 / 146097
theorem frac_fin : ∀ b : Fin 400, (((b.val / 4 : Nat) : Int) - ((b.val / 100 : Nat) : Int)) * 400 ≤ 97 * (b.val : Int) + 399 ∧ 97 * (b.val : Int) - 799 ≤ (((b.val / 4 : Nat) : Int) - ((b.val / 100 : Nat) : Int)) * 400 := by decide +kernel
theorem new_near (p : Int) (hp : 0 ≤ p) : 400 * newY (p + 1) ≤ 146097 * p + 399 ∧ 146097 * p - 799 ≤ 400 * newY (p + 1) := by
  have hb : (p % 400).toNat < 400 := by omega
  have h := frac_fin ⟨(p % 400).toNat, hb⟩
  simp only at h
  unfold newY
  have e : p + 1 - 1 = p := by omega
  rw [e]
  have e1 : p / 4 = 100 * (p / 400) + (p % 400) / 4 := by omega
  have e2 : p / 100 = 4 * (p / 400) + (p % 400) / 100 := by omega
  have e3 : (((p % 400).toNat / 4 : Nat) : Int) = (p % 400) / 4 := by omega
  have e4 : (((p % 400).toNat / 100 : Nat) : Int) = (p % 400) / 100 := by omega
  have e5 : (((p % 400).toNat : Nat) : Int) = p % 400 := by omega
  rw [e3, e4, e5] at h
  have e6 : p = 400 * (p / 400) + p % 400 := by omega
  rw [e1, e2]
  generalize p / 400 = q at *
  generalize (p % 400) / 4 = a at *
  generalize (p % 400) / 100 = b at *
  generalize p % 400 = r at *
  omega
theorem year_ok (n : Int) (h0 : 0 ≤ n) : newY (yearN n) ≤ n ∧ n < newY (yearN n + 1) ∧ 1 ≤ yearN n := by
  obtain ⟨p, hp⟩ : ∃ p, p = n * 400 / 146097 := ⟨_, rfl⟩
  have hp0 : 0 ≤ p := by omega
  have h1 : 146097 * p ≤ n * 400 := by omega
  have h2 : n * 400 < 146097 * (p + 1) := by omega
  have a := new_near p hp0
  have b := new_near (p + 1) (by omega)
  have c := new_le (show p + 1 + 1 ≤ p + 1 + 1 + 1 by omega)
  unfold yearN
  rw [← hp]
  have e : 1 + p + 1 = p + 1 + 1 := by omega
  have e2 : 1 + p = p + 1 := by omega
  rw [e, e2]
  split
  · omega
  · omega
theorem year_le (n : Int) (h0 : 0 ≤ n) (h1 : n ≤ 3652058) : yearN n ≤ 9999 := by
  have h := year_ok n h0
  rcases Int.lt_or_le 9999 (yearN n) with hl | hl
  · have h2 := new_le (show (10000 : Int) ≤ yearN n by omega)
    have e2 : newY 10000 = 3652059 := by decide
    omega
  · exact hl
def monF (y rest : Int) : Nat → Nat → Nat
  | 0, m => m
  | k + 1, m => if rest < cumD y (m + 1) then m else monF y rest k (m + 1)
def monN (y rest : Int) : Nat := monF y rest 11 1
theorem monF_ok (y rest : Int) : ∀ (k m : Nat), cumD y m ≤ rest → rest < cumD y (m + k + 1) → m ≤ monF y rest k m ∧ monF y rest k m ≤ m + k ∧ cumD y (monF y rest k m) ≤ rest ∧ rest < cumD y (monF y rest k m + 1)
  | 0, m, h1, h2 => ⟨Nat.le_refl _, Nat.le_refl _, h1, h2⟩
  | k + 1, m, h1, h2 => by
    unfold monF
    by_cases h : rest < cumD y (m + 1)
    · rw [if_pos h]; exact ⟨Nat.le_refl _, by omega, h1, h⟩
    · rw [if_neg h]
      have := monF_ok y rest k (m + 1) (by omega) (by rw [show m + 1 + k + 1 = m + (k + 1) + 1 by omega]; exact h2)
      omega
theorem mon_ok (y rest : Int) (h0 : 0 ≤ rest) (h1 : rest < cumD y 13) : 1 ≤ monN y rest ∧ monN y rest ≤ 12 ∧ cumD y (monN y rest) ≤ rest ∧ rest < cumD y (monN y rest + 1) := by
  have e : cumD y 1 = 0 := by rw [cum_eq y 1 (by omega) (by omega)]; simp
  have := monF_ok y rest 11 1 (by rw [e]; exact h0) h1
  exact ⟨this.1, this.2.1, this.2.2⟩
/-- the month, and the day of the month, of a day -/
def monthN (n : Int) : Int := (monN (yearN n) (n - newY (yearN n)) : Int)
def mdayN (n : Int) : Int := n - newY (yearN n) - cumD (yearN n) (monN (yearN n) (n - newY (yearN n))) + 1
theorem of_ok (n : Int) (h0 : 0 ≤ n) (h1 : n ≤ 3652058) : validD (yearN n) (monthN n) (mdayN n) ∧ dayN (yearN n) (monthN n) (mdayN n) = n := by
  have hy := year_ok n h0
  have hy2 := year_le n h0 h1
  have hs := new_succ (yearN n)
  have hm := mon_ok (yearN n) (n - newY (yearN n)) (by omega) (by omega)
  have e : cumD (yearN n) (monN (yearN n) (n - newY (yearN n)) + 1) = cumD (yearN n) (monN (yearN n) (n - newY (yearN n))) + lenD (yearN n) (monthN n) := rfl
  refine ⟨⟨hy.2.2, hy2, ?_, ?_⟩, ?_⟩
  · unfold mdayN; omega
  · unfold mdayN; omega
  · unfold dayN mdayN monthN
    rw [Int.toNat_natCast]
    omega
theorem of_day {y m d : Int} (h : validD y m d) : yearN (dayN y m d) = y ∧ monthN (dayN y m d) = m ∧ mdayN (dayN y m d) = d := by
  have hr := day_rng h
  have ho := of_ok (dayN y m d) hr.1 hr.2
  exact day_inj ho.1 h ho.2
end Go.Proofs.YtcoijmggfkjcjaaDoor
namespace Go.Proofs.YtcoijmggfkjcjaaDoor
set_option linter.unusedSimpArgs false
set_option linter.unusedVariables false
def dgt (n : Nat) : UInt8 := UInt8.ofNat (48 + n)
def p2 (n : Nat) : List UInt8 := [dgt (n / 10), dgt (n % 10)]
def p4 (n : Nat) : List UInt8 := [dgt (n / 1000), dgt (n / 100 % 10), dgt (n / 10 % 10), dgt (n % 10)]
def printL (y m d : Int) : List UInt8 := p4 y.toNat ++ 45 :: (p2 m.toNat ++ 45 :: p2 d.toNat)
theorem dec1 (n : Nat) (h : n < 10) : Lib.decDigits n = [dgt n] := by rw [Lib.decDigits, dif_pos h]; rfl
theorem decS (n : Nat) (h : ¬ n < 10) : Lib.decDigits n = Lib.decDigits (n / 10) ++ [dgt (n % 10)] := by rw [Lib.decDigits, dif_neg h]; rfl
theorem dec2 (n : Nat) (h : ¬ n < 10) (h2 : n < 100) : Lib.decDigits n = [dgt (n / 10), dgt (n % 10)] := by rw [decS n h, dec1 _ (by omega)]; rfl
theorem dec3 (n : Nat) (h : ¬ n < 100) (h2 : n < 1000) : Lib.decDigits n = [dgt (n / 100), dgt (n / 10 % 10), dgt (n % 10)] := by
  rw [decS n (by omega), dec2 _ (by omega) (by omega), Nat.div_div_eq_div_mul]; rfl
theorem dec4 (n : Nat) (h : ¬ n < 1000) (h2 : n < 10000) : Lib.decDigits n = [dgt (n / 1000), dgt (n / 100 % 10), dgt (n / 10 % 10), dgt (n % 10)] := by
  rw [decS n (by omega), dec3 _ (by omega) (by omega), Nat.div_div_eq_div_mul, Nat.div_div_eq_div_mul]; rfl
theorem dgt0 : dgt 0 = 48 := by decide
theorem pad2 (n : Nat) (h : n < 100) : (Lib.decDigits n).length ≤ 2 ∧ Lib.repeatL [48] (2 - (Lib.decDigits n).length) ++ Lib.decDigits n = p2 n := by
  by_cases h1 : n < 10
  · rw [dec1 n h1]; refine ⟨by simp, ?_⟩
    unfold p2
    rw [show n / 10 = 0 by omega, show n % 10 = n by omega, dgt0]
    rfl
  · rw [dec2 n h1 h]; exact ⟨by simp, rfl⟩
theorem pad4 (n : Nat) (h : n < 10000) : (Lib.decDigits n).length ≤ 4 ∧ Lib.repeatL [48] (4 - (Lib.decDigits n).length) ++ Lib.decDigits n = p4 n := by
  by_cases h1 : n < 10
  · rw [dec1 n h1]; refine ⟨by simp, ?_⟩
    unfold p4
    rw [show n / 1000 = 0 by omega, show n / 100 % 10 = 0 by omega, show n / 10 % 10 = 0 by omega, show n % 10 = n by omega, dgt0]
    rfl
  · by_cases h2 : n < 100
    · rw [dec2 n h1 h2]; refine ⟨by simp, ?_⟩
      unfold p4
      rw [show n / 1000 = 0 by omega, show n / 100 % 10 = 0 by omega, show n / 10 % 10 = n / 10 by omega, dgt0]
      rfl
    · by_cases h3 : n < 1000
      · rw [dec3 n h2 h3]; refine ⟨by simp, ?_⟩
        unfold p4
        rw [show n / 1000 = 0 by omega, show n / 100 % 10 = n / 100 by omega, dgt0]
        rfl
      · rw [dec4 n h3 h]; exact ⟨by simp, rfl⟩
theorem p4_len (n : Nat) : (p4 n).length = 4 := rfl
theorem p2_len (n : Nat) : (p2 n).length = 2 := rfl
def isD (c : UInt8) : Bool := decide (48 ≤ c.toNat ∧ c.toNat ≤ 57)
/-- the number that digits are, as the program reckons it: each byte less '0', in a byte -/
def numF (n : Int) (l : List UInt8) : Int := l.foldl (fun n c => 10 * n + ((c - 48).toNat : Int)) n
def numL (l : List UInt8) : Int := numF 0 l
def wellF (s : List UInt8) : Bool :=
  s.length == 10 && s.getD 4 0 == 45 && s.getD 7 0 == 45 && (s.take 4).all isD && ((s.drop 5).take 2).all isD && (s.drop 8).all isD
/-- a parsed date: what it is, or the kind of fault (0 none, 1 range, 2 form) -/
def parseK (s : List UInt8) : Nat :=
  if wellF s = false then 2 else if validD (numL (s.take 4)) (numL ((s.drop 5).take 2)) (numL (s.drop 8)) then 0 else 1
def parseN (s : List UInt8) : Int :=
  if parseK s = 0 then dayN (numL (s.take 4)) (numL ((s.drop 5).take 2)) (numL (s.drop 8)) else 0
theorem dgt_isD (n : Nat) (h : n < 10) : isD (dgt n) = true ∧ ((dgt n - 48).toNat : Int) = n := by
  have : n = 0 ∨ n = 1 ∨ n = 2 ∨ n = 3 ∨ n = 4 ∨ n = 5 ∨ n = 6 ∨ n = 7 ∨ n = 8 ∨ n = 9 := by omega
  rcases this with rfl | rfl | rfl | rfl | rfl | rfl | rfl | rfl | rfl | rfl <;> decide
theorem p4_num (n : Nat) (h : n < 10000) : (p4 n).all isD = true ∧ numL (p4 n) = n := by
  have a := dgt_isD (n / 1000) (by omega)
  have b := dgt_isD (n / 100 % 10) (by omega)
  have c := dgt_isD (n / 10 % 10) (by omega)
  have d := dgt_isD (n % 10) (by omega)
  refine ⟨by simp [p4, a.1, b.1, c.1, d.1], ?_⟩
  simp only [p4, numL, numF, List.foldl_cons, List.foldl_nil, a.2, b.2, c.2, d.2]
  omega
theorem p2_num (n : Nat) (h : n < 100) : (p2 n).all isD = true ∧ numL (p2 n) = n := by
  have c := dgt_isD (n / 10) (by omega)
  have d := dgt_isD (n % 10) (by omega)
  refine ⟨by simp [p2, c.1, d.1], ?_⟩
  simp only [p2, numL, numF, List.foldl_cons, List.foldl_nil, c.2, d.2]
  omega
theorem valid_small {y m d : Int} (h : validD y m d) : 1 ≤ y ∧ y ≤ 9999 ∧ 1 ≤ m ∧ m ≤ 12 ∧ 1 ≤ d ∧ d ≤ 31 := by
  have hm := valid_m h
  have := (len_pos y m hm.1 hm.2).2
  obtain ⟨h1, h2, h3, h4⟩ := h
  omega
theorem parse_print {y m d : Int} (h : validD y m d) : parseK (printL y m d) = 0 ∧ parseN (printL y m d) = dayN y m d := by
  have hs := valid_small h
  have a := p4_num y.toNat (by omega)
  have b := p2_num m.toNat (by omega)
  have c := p2_num d.toNat (by omega)
  have e1 : (printL y m d).take 4 = p4 y.toNat := rfl
  have e2 : ((printL y m d).drop 5).take 2 = p2 m.toNat := rfl
  have e3 : (printL y m d).drop 8 = p2 d.toNat := rfl
  have ey : (y.toNat : Int) = y := by omega
  have em : (m.toNat : Int) = m := by omega
  have ed : (d.toNat : Int) = d := by omega
  have hw : wellF (printL y m d) = true := by
    unfold wellF
    rw [e1, e2, e3, a.1, b.1, c.1]
    rfl
  have hk : parseK (printL y m d) = 0 := by
    unfold parseK
    rw [hw, e1, e2, e3, a.2, b.2, c.2, ey, em, ed]
    simp [h]
  refine ⟨hk, ?_⟩
  unfold parseN
  rw [hk, e1, e2, e3, a.2, b.2, c.2, ey, em, ed]
  rfl
theorem printL_len (y m d : Int) : (printL y m d).length = 10 := rfl
end Go.Proofs.YtcoijmggfkjcjaaDoor
namespace Go.Proofs.YtcoijmggfkjcjaaDoor
open Go.RowKit
/-- only blocks in S have changed -/
structure Kept (S : Nat → Prop) (w w' : World) : Prop where
  os : w'.os = w.os
  tape : w'.tape = w.tape
  output : w'.output = w.output
  size : w.heap.size ≤ w'.heap.size
  block : ∀ k, k < w.heap.size → ¬ S k → w'.heap[k]? = w.heap[k]?
theorem Kept.refl (S : Nat → Prop) (w : World) : Kept S w w := ⟨rfl, rfl, rfl, Nat.le_refl _, fun _ _ _ => rfl⟩
theorem Kept.trans {S T : Nat → Prop} {a b c : World} (h : Kept S a b) (k : Kept T b c) (hT : ∀ j, j < a.heap.size → T j → S j) : Kept S a c :=
  ⟨k.os.trans h.os, k.tape.trans h.tape, k.output.trans h.output, Nat.le_trans h.size k.size, fun i hi hs => (k.block i (Nat.lt_of_lt_of_le hi h.size) (fun ht => hs (hT i hi ht))).trans (h.block i hi hs)⟩
theorem Kept.mono {S T : Nat → Prop} {w w' : World} (h : Kept S w w') (hT : ∀ j, j < w.heap.size → S j → T j) : Kept T w w' :=
  ⟨h.os, h.tape, h.output, h.size, fun i hi ht => h.block i hi (fun hs => ht (hT i hi hs))⟩
theorem Kept.below {S : Nat → Prop} {w w' : World} {B : Nat} (h : Kept S w w') (hB : B ≤ w.heap.size) (hS : ∀ j, j < B → ¬ S j) : Below B w w' :=
  ⟨h.os, h.tape, h.output, h.size, fun k hk => h.block k (by omega) (hS k hk)⟩
theorem Kept.of_below {w w' : World} (S : Nat → Prop) (h : Below w.heap.size w w') : Kept S w w' := ⟨h.os, h.tape, h.output, h.size, fun k hk _ => h.block k hk⟩
theorem Kept.drew {S : Nat → Prop} {a w : World} (h : Kept S a w) : Kept S a w.drew := ⟨h.os, h.tape, h.output, h.size, h.block⟩
theorem Kept.alloc {S : Nat → Prop} {a w : World} (h : Kept S a w) (o : Obj) : Kept S a (w.alloc o) :=
  h.trans (T := S) ⟨rfl, rfl, rfl, by simp, fun k hk _ => Below.heap_alloc _ _ _ hk⟩ (fun _ _ h => h)
theorem Kept.setCell {S : Nat → Prop} {a w : World} (h : Kept S a w) {p : Addr} (hp : p.block < a.heap.size → S p.block) (u : Value) : Kept S a (w.setCell p u) :=
  ⟨h.os, h.tape, h.output, by simpa [World.setCell] using h.size, fun k hk hs => (Below.heap_setCell _ _ _ _ (fun e => hs (by rw [e]; exact hp (by rw [← e]; exact hk)))).trans (h.block k hk hs)⟩
theorem Kept.setRow {S : Nat → Prop} {a w : World} (h : Kept S a w) {g : Nat} (hp : g < a.heap.size → S g) (cs : Array Value) : Kept S a (w.setRow g cs) :=
  ⟨h.os, h.tape, h.output, by simpa [World.setRow] using h.size, fun k hk hs => (setRow_other w g k _ (fun e => hs (by rw [e]; exact hp (by rw [← e]; exact hk)))).trans (h.block k hk hs)⟩
theorem Kept.grown {w w' : World} {k : Option Nat} (h : w.grownBy w' k) : Kept (fun j => k = some j) w w' :=
  ⟨h.os, h.tape, h.output, h.size, fun j hj hs => h.block j hj (fun e => hs e.symm)⟩
theorem Kept.cell {S : Nat → Prop} {w w' : World} (h : Kept S w w') {p : Addr} (hp : p.block < w.heap.size) (hs : ¬ S p.block) : w'.cell? p = w.cell? p := World.cell?_of_block (w := w) (h.block p.block hp hs)
theorem Kept.frozen {S : Nat → Prop} {w w' : World} (h : Kept S w w') {p : Addr} (hp : p.block < w.heap.size) (hs : ¬ S p.block) : w'.frozen? p = w.frozen? p := World.frozen?_of_block (w := w) (h.block p.block hp hs)
theorem Kept.heap {S : Nat → Prop} {w w' : World} (h : Kept S w w') {g : Nat} {o : Obj} (hg : w.heap[g]? = some o) (hs : ¬ S g) : w'.heap[g]? = some o :=
  (h.block g (Array.getElem?_eq_some_iff.1 hg).1 hs).trans hg
/-- a row of one's own in block k: the nil slice, or the head of a block whose first cells are xs -/
def Own (w : World) (e : TypeId) (size : Nat) (k : Option Nat) (v : Value) (n : Nat) (xs : List Value) : Prop :=
  xs.length = n * size ∧ ((k = none ∧ v = .slice none 0 0 ∧ n = 0) ∨
    ∃ g cap cur, k = some g ∧ v = .slice (some ⟨g, 0, none⟩) n cap ∧ w.heap[g]? = some (.cells cur e (0, 0)) ∧ n ≤ cap ∧ cap ≤ maxLen ∧ cur.size = cap * size ∧ cur.toList.take (n * size) = xs)
theorem Own.nil (w : World) (e : TypeId) (size : Nat) : Own w e size none (.slice none 0 0) 0 [] := ⟨by simp, .inl ⟨rfl, rfl, rfl⟩⟩
theorem Own.made (w : World) (e : TypeId) (size : Nat) (cur : Array Value) (n : Nat) (hm : n ≤ maxLen) (hs : cur.size = n * size) :
    Own (w.alloc (.cells cur e)) e size (some w.heap.size) (.slice (some ⟨w.heap.size, 0, none⟩) n n) n cur.toList :=
  ⟨by simpa using hs, .inr ⟨w.heap.size, n, cur, rfl, rfl, heap_alloc_new w _, Nat.le_refl _, hm, hs, List.take_of_length_le (by simp [hs])⟩⟩
theorem Own.lt {w : World} {e : TypeId} {size : Nat} {k : Option Nat} {v : Value} {n : Nat} {xs : List Value} (h : Own w e size k v n xs) : ∀ j, k = some j → j < w.heap.size := by
  intro j hj
  rcases h.2 with ⟨rfl, _⟩ | ⟨g, cap, cur, rfl, _, hg, _⟩
  · cases hj
  · cases hj; exact (Array.getElem?_eq_some_iff.1 hg).1
theorem Own.kept {S : Nat → Prop} {w w' : World} {e : TypeId} {size : Nat} {k : Option Nat} {v : Value} {n : Nat} {xs : List Value} (h : Own w e size k v n xs) (hk : Kept S w w') (hs : ∀ j, k = some j → ¬ S j) : Own w' e size k v n xs := by
  refine ⟨h.1, ?_⟩
  rcases h.2 with hn | ⟨g, cap, cur, rfl, rfl, hg, rest⟩
  · exact .inl hn
  · exact .inr ⟨g, cap, cur, rfl, rfl, hk.heap hg (hs g rfl), rest⟩
/-- a slice that reads as these cells; its block lies in D -/
def Sl (D : Nat → Prop) (w : World) (a : Option Addr) (n c : Nat) (xs : List Value) (size : Nat) : Prop :=
  xs.length = n * size ∧ n ≤ c ∧ c ≤ maxLen ∧ (a = none → c = 0) ∧ (0 < n → ∃ b off, D b ∧ a = some ⟨b, off, none⟩ ∧ w.rangeAt b off xs)
theorem range_lt {w : World} {b off : Nat} {xs : List Value} (h : w.rangeAt b off xs) (hx : 0 < xs.length) : b < w.heap.size :=
  block_lt_of_cell (h 0 _ (List.getElem?_eq_getElem hx))
theorem Sl.kept {D S : Nat → Prop} {w w' : World} {a : Option Addr} {n c : Nat} {xs : List Value} {size : Nat} (h : Sl D w a n c xs size) (hz : 0 < size) (hk : Kept S w w') (hd : ∀ b, b < w.heap.size → D b → ¬ S b) : Sl D w' a n c xs size := by
  obtain ⟨h1, h2, h3, h4, h5⟩ := h
  refine ⟨h1, h2, h3, h4, fun hn => ?_⟩
  obtain ⟨b, off, hD, ha, hr⟩ := h5 hn
  have hb := range_lt hr (by rw [h1]; exact Nat.mul_pos hn hz)
  exact ⟨b, off, hD, ha, fun j v hv => (hk.cell hb (hd b hb hD)).trans (hr j v hv)⟩
theorem Sl.dom {D D' : Nat → Prop} {w : World} {a : Option Addr} {n c : Nat} {xs : List Value} {size : Nat} (h : Sl D w a n c xs size) (hd : ∀ b, D b → D' b) : Sl D' w a n c xs size := by
  obtain ⟨h1, h2, h3, h4, h5⟩ := h
  refine ⟨h1, h2, h3, h4, fun hn => ?_⟩
  obtain ⟨b, off, hD, ha, hr⟩ := h5 hn
  exact ⟨b, off, hd b hD, ha, hr⟩
theorem Sl.empty (D : Nat → Prop) (w : World) (a : Option Addr) (c : Nat) (size : Nat) (hc : c ≤ maxLen) (ha : a = none → c = 0) : Sl D w a 0 c [] size :=
  ⟨by simp, Nat.zero_le _, hc, ha, fun h => absurd h (by omega)⟩
theorem Own.sl {w : World} {e : TypeId} {size : Nat} {k : Option Nat} {v : Value} {n : Nat} {xs : List Value} (h : Own w e size k v n xs) : ∃ a c, v = .slice a n c ∧ Sl (fun b => k = some b) w a n c xs size := by
  rcases h.2 with ⟨rfl, rfl, rfl⟩ | ⟨g, cap, cur, rfl, rfl, hg, hn, hm, hsz, htk⟩
  · have : xs = [] := List.eq_nil_of_length_eq_zero (by simpa using h.1)
    subst this
    exact ⟨none, 0, rfl, Sl.empty _ _ _ _ _ (Nat.zero_le _) (fun _ => rfl)⟩
  · refine ⟨_, cap, rfl, h.1, hn, hm, (fun hh => by cases hh), fun hp => ⟨g, 0, rfl, rfl, fun j u hu => ?_⟩⟩
    rw [Nat.zero_add, cell_of_row w g j cur _ _ hg]
    rw [← htk, List.getElem?_take] at hu
    split at hu
    · simpa using hu
    · cases hu
theorem Sl.src {P : Program} {D : Nat → Prop} {w : World} {a : Option Addr} {n c : Nat} {xs : List Value} {size : Nat} {tx e' : TypeId} (h : Sl D w a n c xs size) (hk : P.underlying tx = some (.slice e')) (h1 : ∀ u ∈ xs, u.oneCell' = true) :
    Src P size tx (.slice a n c) n xs w := by
  obtain ⟨hl, hn, hm, ha, hr⟩ := h
  cases a with
  | none =>
    have := ha rfl
    subst this
    obtain rfl : n = 0 := by omega
    obtain rfl : xs = [] := List.eq_nil_of_length_eq_zero (by simpa using hl)
    exact Src.ofNil w hk 0
  | some ad =>
    refine Src.ofSlice w hk ad n c xs hl (fun j u hu => ?_) h1
    by_cases h0 : n = 0
    · subst h0
      obtain rfl : xs = [] := List.eq_nil_of_length_eq_zero (by simpa using hl)
      simp at hu
    · obtain ⟨b, off, _, hab, hcell⟩ := hr (by omega)
      cases hab
      rw [Addr.add_mid]
      exact hcell j u hu
section
variable {P : Program} (w : World)
theorem run_append_room2 (t tx ty e : TypeId) (i : TypeInfo) (ht : P.underlying t = some (.slice e)) (hi : P.info? e = some i)
    (g sLen sCap : Nat) (cur : Array Value) (hg : w.heap[g]? = some (.cells cur e (0, 0)))
    (x : Value) (m : Nat) (news : List Value) (hs : Src P i.size tx x m news w) (hroom : sLen + m ≤ sCap) (hfit : sLen * i.size + news.length ≤ cur.size) :
    (Builtin.append_ #[t, tx] ty #[.slice (some ⟨g, 0, none⟩) sLen sCap, x]).run P w =
      .ok (.slice (some ⟨g, 0, none⟩) (sLen + m) sCap) (w.setRow g (cur.toList.take (sLen * i.size) ++ news ++ cur.toList.drop (sLen * i.size + news.length)).toArray) := by
  have hst := run_storeCells_at P g (sLen * i.size) e news 0 cur w hg (by simpa using hfit) hs.one
  simp only [Nat.add_zero] at hst
  rcases hs.kind with ⟨e', hk⟩ | hk <;> simp [Builtin.append_, run_underlying ht, run_underlying hk, sizeOf, typeInfo, hi, hs.len, hroom, hs.cells, Addr.add_lit, hst]
/-- append onto a row of one's own, of whatever source: the row stays in its block or moves to a new one -/
theorem run_append_any (t tx ty e : TypeId) (i : TypeInfo) (z : Value) (size bytes : Nat) (ht : P.underlying t = some (.slice e)) (hi : P.info? e = some i) (hz : i.zero = some z)
    (hsize : i.size = size) (hby : i.bytes = bytes) (hzs : z.cells.size = size) (k : Option Nat) (v : Value) (n : Nat) (xs : List Value) (hown : Own w e size k v n xs)
    (x : Value) (m : Nat) (news : List Value) (hs : Src P size tx x m news w) (h63 : n + m ≤ maxLen) (hbytes : (n + m) * bytes ≤ 140737488355328) :
    ∃ k' v' w', (Builtin.append_ #[t, tx] ty #[v, x]).run P w = .ok v' w' ∧ Own w' e size k' v' (n + m) (xs ++ news) ∧ (∀ j, k' = some j → k = some j ∨ w.heap.size ≤ j) ∧ Kept (fun j => k = some j) w w' ∧ (0 < m → k' ≠ none) := by
  subst hsize
  subst hby
  have hsmall : n + m ≤ 9223372036854775807 := by simp only [maxLen] at h63; omega
  have hlen : (xs ++ news).length = (n + m) * i.size := by rw [List.length_append, hown.1, hs.newsLen, Nat.add_mul]
  have grows : ∀ (b : Option Addr) (old : Nat), v = .slice b n old → old < n + m → (Builtin.firstCells i.size n (.slice b n old)).run P w.drew = .ok xs.toArray w.drew → ∃ k' v' w', (Builtin.append_ #[t, tx] ty #[v, x]).run P w = .ok v' w' ∧ Own w' e i.size k' v' (n + m) (xs ++ news) ∧ (∀ j, k' = some j → k = some j ∨ w.heap.size ≤ j) ∧ Kept (fun j => k = some j) w w' ∧ (0 < m → k' ≠ none) := by
    intro b old hv ho hf
    subst hv
    have hr := run_append_grow_src (P := P) w t tx ty e i z ht hi hz b n old xs hf x m news hs ho (by omega) (growslice_fits (by omega) hbytes)
    have hge := grownCap_ge w (n + m) old e
    have hcm : grownCap w (n + m) old e ≤ maxLen := grownCap_le_maxLen w (n + m) old e h63
    refine ⟨some w.heap.size, _, _, hr, ⟨hlen, .inr ⟨w.heap.size, _, _, rfl, rfl, heap_alloc_new w.drew _, hge, hcm, ?_, ?_⟩⟩, ?_, ?_, ?_⟩
    · simp only [Array.size_append, List.size_toArray, size_zeroCells, hzs, hlen, ← Nat.add_mul]
      congr 1
      omega
    · simp only [Array.toList_append]
      rw [← hlen]
      exact List.take_left
    · intro j hj; cases hj; exact .inr (Nat.le_refl _)
    · exact (Kept.refl _ w).drew.alloc _
    · intro _ h; cases h
  rcases hown.2 with ⟨rfl, rfl, rfl⟩ | ⟨g, cap, cur, rfl, rfl, hg, hnc, hcm, hcs, htake⟩
  · have hx : xs = [] := List.eq_nil_of_length_eq_zero (by simpa using hown.1)
    subst hx
    by_cases hm : m = 0
    · subst hm
      have hn : news = [] := List.eq_nil_of_length_eq_zero (by simpa using hs.newsLen)
      subst hn
      refine ⟨none, .slice none 0 0, w, ?_, Own.nil w e i.size, (fun _ h => by cases h), Kept.refl _ _, fun h => absurd h (by omega)⟩
      have hc := hs.cells
      rcases hs.kind with ⟨e', hk⟩ | hk <;> simp [Builtin.append_, run_underlying ht, run_underlying hk, sizeOf, typeInfo, hi, hs.len, hc]
    · exact grows none 0 rfl (by omega) (run_firstCells_none w.drew i.size 0 0 0)
  · by_cases hroom : n + m ≤ cap
    · have hfit : n * i.size + news.length ≤ cur.size := by rw [hs.newsLen, hcs, ← Nat.add_mul]; exact Nat.mul_le_mul_right _ hroom
      have hr := run_append_room2 (P := P) w t tx ty e i ht hi g n cap cur hg x m news hs hroom hfit
      refine ⟨some g, _, _, hr, ⟨hlen, .inr ⟨g, cap, _, rfl, rfl, setRow_heap w g cur _ e _ hg, hroom, hcm, ?_, ?_⟩⟩, ?_, ?_, ?_⟩
      · simp only [List.size_toArray, List.length_append, List.length_take, List.length_drop, Array.length_toList]
        omega
      · rw [htake, ← hlen]
        exact List.take_left
      · intro j hj; cases hj; exact .inl rfl
      · exact (Kept.refl (fun j => some g = some j) w).setRow (fun _ => rfl) _
      · intro _ h; cases h
    · obtain ⟨a, c, hv, hsl⟩ := hown.sl
      cases hv
      refine grows _ cap rfl (by omega) (run_firstCells_some w.drew i.size n ⟨g, 0, none⟩ n cap xs hown.1 ?_)
      intro j u hu
      have h0 : 0 < n := by
        rcases Nat.eq_zero_or_pos n with rfl | h
        · have := hown.1
          have := (List.getElem?_eq_some_iff.1 hu).1
          omega
        · exact h
      obtain ⟨b, off, _, hab, hcell⟩ := hsl.2.2.2.2 h0
      cases hab
      rw [Addr.add_mid]
      exact hcell j u hu
theorem wpList_append_any {ops : Array Oper} {rest : List Oper} {o : Oper} {a : Act} {Q : Exit → Act → World → Prop} (hgd : o.guard = none) (s x : Operand) (t tx : TypeId)
    (ho : o.op = .call { callee := .builtin .append, args := #[s, x], argTypes := #[t, tx] })
    (e : TypeId) (i : TypeInfo) (z : Value) (size bytes : Nat) (ht : P.underlying t = some (.slice e)) (hi : P.info? e = some i) (hz : i.zero = some z)
    (hsize : i.size = size) (hby : i.bytes = bytes) (hzs : z.cells.size = size) (k : Option Nat) (v : Value) (n : Nat) (xs : List Value) (hv : a.eval s = v) (hown : Own w e size k v n xs)
    (m : Nat) (news : List Value) (hs : Src P size tx (a.eval x) m news w) (h63 : n + m ≤ maxLen) (hbytes : (n + m) * bytes ≤ 140737488355328)
    (h : ∀ k' v' w', Own w' e size k' v' (n + m) (xs ++ news) → (∀ j, k' = some j → k = some j ∨ w.heap.size ≤ j) → Kept (fun j => k = some j) w w' → (0 < m → k' ≠ none) → wpList P ops Q rest (a.put o.dst v') w') : wpList P ops Q (o :: rest) a w := by
  obtain ⟨k', v', w', hr, h2, h3, h4, h5⟩ := run_append_any (P := P) w t tx o.type e i z size bytes ht hi hz hsize hby hzs k v n xs hown (a.eval x) m news hs h63 hbytes
  refine wpList_plain hgd fun K hK => ?_
  unfold Oper.wp execOp
  simp only [ho, resolve, invoke, builtin, Sem.run_bind, Sem.run_pure, Result.andThen_ok, List.map_toArray, List.map_cons, List.map_nil, hv, hr]
  exact hK _ _ (h k' v' w' h2 h3 h4 h5)
end
end Go.Proofs.YtcoijmggfkjcjaaDoor
namespace Go.Proofs.YtcoijmggfkjcjaaDoor
open Go.RowKit
theorem heap_alloc_if (w : World) (o : Obj) (i : Nat) : (w.alloc o).heap[i]? = if i = w.heap.size then some o else w.heap[i]? := by
  show (w.heap.push o)[i]? = _
  rw [Array.getElem?_push]
theorem size_alloc1 (w : World) (o : Obj) : (w.alloc o).heap.size = w.heap.size + 1 := by
  show (w.heap.push o).size = _
  simp
theorem heap_new {w : World} {o : Obj} {g : Nat} (h : g = w.heap.size) : (w.alloc o).heap[g]? = some o := by
  rw [heap_alloc_if, if_pos h]
theorem heap_old {w : World} {o o' : Obj} {g : Nat} (h : w.heap[g]? = some o) : (w.alloc o').heap[g]? = some o := by
  have hl : g < w.heap.size := by
    by_cases hl : g < w.heap.size
    · exact hl
    · rw [Array.getElem?_eq_none (by omega)] at h; cases h
  rw [heap_alloc_if, if_neg (by omega), h]
theorem heap_lt {w : World} {o : Obj} {g : Nat} (h : w.heap[g]? = some o) : g < w.heap.size := by
  by_cases hl : g < w.heap.size
  · exact hl
  · rw [Array.getElem?_eq_none (by omega)] at h; cases h
def vals (l : List UInt8) : List Value := l.map fun x => Value.int .u8 (x.toNat : Int)
theorem vals_len (l : List UInt8) : (vals l).length = l.length := by simp [vals]
theorem vals_app (l m : List UInt8) : vals (l ++ m) = vals l ++ vals m := by simp [vals]
theorem vals_one (l : List UInt8) : ∀ u ∈ vals l, u.oneCell' = true := by simp [vals, Value.oneCell']
theorem vals_str (s : ByteArray) : byteCells s = vals s.data.toList := rfl
def ivals (l : List Int) : List Value := l.map (Value.int .i64)
theorem ivals_len (l : List Int) : (ivals l).length = l.length := by simp [ivals]
theorem ivals_app (l m : List Int) : ivals (l ++ m) = ivals l ++ ivals m := by simp [ivals]
theorem ivals_one (l : List Int) : ∀ u ∈ ivals l, u.oneCell' = true := by simp [ivals, Value.oneCell']
theorem info5 : (Tryd.prog.info? 5).map (fun i => (i.zero, i.size, i.bytes)) = some (some (.int .u8 0), 1, 1) := by kernel_rfl
theorem info3 : (Tryd.prog.info? 3).map (fun i => (i.zero, i.size, i.bytes)) = some (some (.int .i64 0), 1, 8) := by kernel_rfl
theorem i64_id (n : Int) (h0 : -9223372036854775808 ≤ n) (h1 : n ≤ 9223372036854775807) : IntKind.i64.wrap n = n := by
  rw [IntKind.wrap_i64]; omega
/-- a slice of bytes -/
def Bs (D : Nat → Prop) (w : World) (a : Option Addr) (n c : Nat) (l : List UInt8) : Prop := l.length = n ∧ Sl D w a n c (vals l) 1
/-- a slice of numbers -/
def Is (D : Nat → Prop) (w : World) (a : Option Addr) (n c : Nat) (l : List Int) : Prop := l.length = n ∧ Sl D w a n c (ivals l) 1
theorem Bs.kept {D S : Nat → Prop} {w w' : World} {a : Option Addr} {n c : Nat} {l : List UInt8} (h : Bs D w a n c l) (hk : Kept S w w') (hd : ∀ b, b < w.heap.size → D b → ¬ S b) : Bs D w' a n c l := ⟨h.1, h.2.kept (by decide) hk hd⟩
theorem Is.kept {D S : Nat → Prop} {w w' : World} {a : Option Addr} {n c : Nat} {l : List Int} (h : Is D w a n c l) (hk : Kept S w w') (hd : ∀ b, b < w.heap.size → D b → ¬ S b) : Is D w' a n c l := ⟨h.1, h.2.kept (by decide) hk hd⟩
theorem Bs.dom {D D' : Nat → Prop} {w : World} {a : Option Addr} {n c : Nat} {l : List UInt8} (h : Bs D w a n c l) (hd : ∀ b, D b → D' b) : Bs D' w a n c l := ⟨h.1, h.2.dom hd⟩
theorem Is.dom {D D' : Nat → Prop} {w : World} {a : Option Addr} {n c : Nat} {l : List Int} (h : Is D w a n c l) (hd : ∀ b, D b → D' b) : Is D' w a n c l := ⟨h.1, h.2.dom hd⟩
/-- from one world of a writer to a later one: nothing but its own blocks has changed, and its row moves to new blocks only -/
structure Link (g : Nat) (k : Option Nat) (w : World) (k' : Option Nat) (w' : World) : Prop where
  fresh : ∀ j, k' = some j → k = some j ∨ w.heap.size ≤ j
  kept : Kept (fun j => j = g ∨ k = some j) w w'
theorem Link.trans {g : Nat} {k k1 k2 : Option Nat} {w w1 w2 : World} (h : Link g k w k1 w1) (h2 : Link g k1 w1 k2 w2) : Link g k w k2 w2 := by
  refine ⟨fun j hj => ?_, h.kept.trans h2.kept (fun j hj ht => ?_)⟩
  · rcases h2.fresh j hj with e | e
    · exact h.fresh j e
    · exact .inr (Nat.le_trans h.kept.size e)
  · rcases ht with e | e
    · exact .inl e
    · rcases h.fresh j e with e | e
      · exact .inr e
      · omega
theorem Link.refl (g : Nat) (k : Option Nat) (w : World) : Link g k w k w := ⟨fun _ h => .inl h, Kept.refl _ _⟩
theorem Link.of_below {g : Nat} {k : Option Nat} {w w' : World} (h : Below w.heap.size w w') : Link g k w k w' := ⟨fun _ h => .inl h, Kept.of_below _ h⟩
theorem one_set {w : World} {g : Nat} {v u : Value} {t : TypeId} (hg : w.heap[g]? = some (.cells #[v] t (0, 0))) : (w.setCell ⟨g, 0, none⟩ u).heap[g]? = some (.cells #[u] t (0, 0)) := by
  rw [heap_setCell_same w g 0 _ _ _ hg]
  rfl
end Go.Proofs.YtcoijmggfkjcjaaDoor
namespace Go.Proofs.YtcoijmggfkjcjaaDoor.Roll
open Go
set_option linter.unusedSimpArgs false
set_option linter.unusedVariables false
/-- the slot that an operation writes -/
def slot (ops : Array Oper) (j : Nat) : Option Tmp := (ops[j]?).bind (·.dst)
/-- a frame in which some operations have written -/
def putOf (ops : Array Oper) (vals : Nat → Value) : List Nat → Act → Act
  | [], a => a
  | j :: r, a => putOf ops vals r (a.put (slot ops j) (vals j))
theorem putOf_size (ops : Array Oper) (vals : Nat → Value) (l : List Nat) (a : Act) : (putOf ops vals l a).tmps.size = a.tmps.size := by
  induction l generalizing a with
  | nil => rfl
  | cons j r ih => rw [putOf, ih]; cases slot ops j <;> simp [Act.put]
theorem putOf_defers (ops : Array Oper) (vals : Nat → Value) (l : List Nat) (a : Act) : (putOf ops vals l a).defers = a.defers := by
  induction l generalizing a with
  | nil => rfl
  | cons j r ih => rw [putOf, ih]; cases slot ops j <;> simp [Act.put]
theorem put_get_ne {a : Act} {d : Option Tmp} {v : Value} {t : Nat} (h : d ≠ some t) : (a.put d v).tmps[t]? = a.tmps[t]? := by
  cases d with
  | none => rfl
  | some d => simp only [Act.put]; rw [Array.getElem?_setIfInBounds_ne (by intro e; exact h (by rw [e]))]
theorem put_get_eq {a : Act} {v : Value} {t : Nat} (h : t < a.tmps.size) : (a.put (some t) v).tmps[t]? = some v := by
  simp [Act.put, h]
theorem putOf_other (ops : Array Oper) (vals : Nat → Value) (l : List Nat) (a : Act) (t : Nat) (h : ∀ j ∈ l, slot ops j ≠ some t) : (putOf ops vals l a).tmps[t]? = a.tmps[t]? := by
  induction l generalizing a with
  | nil => rfl
  | cons j r ih => rw [putOf, ih _ (fun k hk => h k (List.mem_cons_of_mem _ hk)), put_get_ne (h j List.mem_cons_self)]
/-- no two operations write one slot -/
def apartB (ops : Array Oper) : Bool := ((List.range ops.size).filterMap (slot ops)).Nodup
theorem filterMap_inj {f : Nat → Option Nat} : ∀ {l : List Nat}, (l.filterMap f).Nodup → ∀ {i j : Nat} {t : Nat}, i ∈ l → j ∈ l → f i = some t → f j = some t → l.Nodup → i = j := by
  intro l
  induction l with
  | nil => intro _ i j t hi; cases hi
  | cons x r ih =>
    intro h i j t hi hj ei ej hn
    rw [List.nodup_cons] at hn
    have tail : (r.filterMap f).Nodup := by
      cases hx : f x with
      | none => rwa [List.filterMap_cons_none hx] at h
      | some y => rw [List.filterMap_cons_some hx] at h; exact (List.nodup_cons.1 h).2
    have clash : ∀ {k : Nat}, k ∈ r → f k = some t → f x = some t → False := by
      intro k hk ek ex
      rw [List.filterMap_cons_some ex] at h
      exact (List.nodup_cons.1 h).1 (List.mem_filterMap.2 ⟨k, hk, ek⟩)
    rcases List.mem_cons.1 hi with hi' | hi' <;> rcases List.mem_cons.1 hj with hj' | hj'
    · rw [hi', hj']
    · exact (clash hj' ej (hi' ▸ ei)).elim
    · exact (clash hi' ei (hj' ▸ ej)).elim
    · exact ih tail hi' hj' ei ej hn.2
theorem apart_inj {ops : Array Oper} (h : apartB ops = true) {i j : Nat} {t : Nat} (ei : slot ops i = some t) (ej : slot ops j = some t) : i = j := by
  have lt : ∀ {k : Nat}, slot ops k = some t → k ∈ List.range ops.size := by
    intro k e
    rw [List.mem_range]
    unfold slot at e
    cases hk : ops[k]? with
    | none => rw [hk] at e; cases e
    | some o => exact (Array.getElem?_eq_some_iff.1 hk).1
  exact filterMap_inj (of_decide_eq_true h) (lt ei) (lt ej) ei ej List.nodup_range
theorem putOf_mem {ops : Array Oper} (hap : apartB ops = true) (vals : Nat → Value) (l : List Nat) (a : Act) (j t : Nat) (hj : j ∈ l) (ht : slot ops j = some t) (hs : t < a.tmps.size) :
    (putOf ops vals l a).tmps[t]? = some (vals j) := by
  induction l generalizing a with
  | nil => cases hj
  | cons k r ih =>
    rw [putOf]
    by_cases hr : j ∈ r
    · exact ih _ hr (by cases slot ops k <;> simp [Act.put, hs])
    · obtain rfl : j = k := (List.mem_cons.1 hj).resolve_right hr
      rw [putOf_other ops vals r _ t (fun i hi e => hr (apart_inj hap e ht ▸ hi)), ht, put_get_eq hs]
/-- the operations that must stand ahead of one, as its edges name them -/
def ahead (o : Oper) : List Nat := (o.after.toList.filter fun e => Region.binds .any e).map (·.on)
/-- the slots that an operation looks at and that others write are written by operations ahead of it, or by such as stand behind it -/
def looksOk (ops : Array Oper) (L : List (List Nat)) : Bool :=
  (List.range ops.size).all fun k => match ops[k]? with
    | none => true
    | some o => (match o.op with | .select .. => false | .defer .. => false | _ => true) && ((L.getD k []).all fun i => (ahead o).contains i) &&
      (o.looksAt ops).all fun t => (List.range ops.size).all fun j => slot ops j != some t || (L.getD k []).contains j ||
        (match ops[j]? with | some oj => (ahead oj).contains k | none => true)
/-- what one operation does, from the frame that it sees -/
def Post (a1 : Act) (d : Option Tmp) (T : Value → World → Prop) : Exit → Act → World → Prop
  | .normal, a', w' => ∃ v, a' = a1.put d v ∧ T v w'
  | _, _, _ => False
variable {P : Program} {ops : Array Oper} {Q : Exit → Act → World → Prop}
theorem not_lets {a1 : Act} {d : Option Tmp} {T : Value → World → Prop} : ¬ LetsOut (Post a1 d T) := fun ⟨_, _, h⟩ => h
theorem put_inj {a : Act} {d : Option Tmp} {v u : Value} : (h : ∀ t, d = some t → t < a.tmps.size) → a.put d v = a.put d u → d = none ∨ v = u := by
  intro h e
  cases d with
  | none => exact .inl rfl
  | some t =>
    have := congrArg (fun x : Act => x.tmps[t]?) e
    simp only [put_get_eq (h t rfl)] at this
    exact .inr (Option.some.inj this)
/-- from the frame that an operation sees to the frame as it is -/
theorem wpOp_of_list {o : Oper} {k : Nat} {a a1 : Act} {w : World} {T : Value → World → Prop} (ho : ops[k]? = some o)
    (hn : o.dst = none → ∀ v u w', T v w' → T u w') (hsz : ∀ t, o.dst = some t → t < a1.tmps.size)
    (he : execOp a.eval o = execOp a1.eval o) (hw : Region.wanted o (yielded ops a.tmps) = Region.wanted o (yielded ops a1.tmps))
    (h : wpList P ops (Post a1 o.dst T) [o] a1 w) : wpOp P ops Q k (fun a' w' => ∃ v, a' = a.put o.dst v ∧ T v w') a w := by
  have fin : ∀ v w', (∃ u, a1.put o.dst v = a1.put o.dst u ∧ T u w') → ∃ u, a.put o.dst v = a.put o.dst u ∧ T u w' := by
    rintro v w' ⟨u, e, t⟩
    rcases put_inj hsz e with hnone | rfl
    · exact ⟨v, rfl, hn hnone _ _ _ t⟩
    · exact ⟨v, rfl, t⟩
  unfold wpList at h
  unfold wpOp
  simp only [ho, hw]
  split
  · rename_i hwt
    rw [if_pos hwt] at h
    rcases h with h | ⟨_, h⟩
    case inr => exact (not_lets h).elim
    refine .inl ?_
    unfold Oper.wp at *
    rw [he]
    generalize (execOp a1.eval o).run P w = r at *
    cases r with
    | ok n w' =>
      cases n <;> simp only [Oper.upon] at h ⊢
      case value u => exact fin u w' h
      case skip => exact fin undef w' h
      case defer d =>
        simp only [wpList, Post] at h
        obtain ⟨v, e, _⟩ := h
        have := congrArg Act.defers e
        cases hds : o.dst <;> simp [Act.put, hds] at this
      case enter f args =>
        refine Calls.mono h fun e w'' hh => ?_
        cases e with
        | returned u => exact fin u w'' hh
        | panicked c => exact (hh : False).elim
        | outgrown => exact (not_lets hh).elim
      case row row args => exact Rows.mono h fun u w'' hh => fin u w'' hh
    | halt x w' =>
      cases x <;> simp only [Oper.upon] at h ⊢
      case panic u => exact (h : False).elim
  · rename_i hwt
    rw [if_neg hwt] at h
    exact fin undef w h

/-- the result of an operation that writes no slot does not matter -/
def res (o : Oper) (R : Value → World → Prop) (v : Value) (w : World) : Prop := match o.dst with | some _ => R v w | none => R undef w
/-- what is owed for one operation -/
def Does (P : Program) (ops : Array Oper) (L : List (List Nat)) (I : World → Prop) (S : World → World → Prop) (R : Nat → Value → World → Prop) (a0 : Act) (k : Nat) (o : Oper) : Prop :=
  ∀ (vals : Nat → Value) (w : World), I w → (∀ j ∈ L.getD k [], R j (vals j) w) →
    wpList P ops (Post (putOf ops vals (L.getD k []) a0) o.dst fun v w' => I w' ∧ S w w' ∧ res o (R k) v w') [o] (putOf ops vals (L.getD k []) a0) w
/-- what holds when some operations have been performed -/
structure Held (ops : Array Oper) (I : World → Prop) (R : Nat → Value → World → Prop) (a0 : Act) (vals : Nat → Value) (listed : Array Bool) (a : Act) (w : World) : Prop where
  inv : I w
  len : listed.size = ops.size
  defers : a.defers = a0.defers
  size : a.tmps.size = a0.tmps.size
  closed : ∀ (j : Nat) (o : Oper), ops[j]? = some o → listed[j]? = some true → ∀ i ∈ ahead o, listed[i]? = some true
  old : ∀ t : Nat, (∀ j : Nat, listed[j]? = some true → slot ops j ≠ some t) → a.tmps[t]? = a0.tmps[t]?
  new : ∀ (j t : Nat), listed[j]? = some true → slot ops j = some t → a.tmps[t]? = some (vals j)
  got : ∀ j : Nat, listed[j]? = some true → R j (vals j) w
theorem tmp_congr {a b : Act} {t : Nat} (h : a.tmps[t]? = b.tmps[t]?) : a.eval (.tmp t) = b.eval (.tmp t) := by
  simp only [Act.eval, Array.getD_eq_getD_getElem?, h]
theorem exec_congr {o : Oper} {a b : Act} (hs : ∀ cs c, o.op ≠ .select cs c) (h : ∀ t ∈ o.looksAt ops, a.tmps[t]? = b.tmps[t]?) : execOp a.eval o = execOp b.eval o := by
  refine execOp_congr o hs fun x hx => ?_
  cases x with
  | tmp t => exact tmp_congr (h t (List.mem_append_left _ (List.mem_filterMap.2 ⟨.tmp t, by simpa using hx, rfl⟩)))
  | const v => rfl
  | global g => rfl
  | func f => rfl
theorem wanted_congr {o : Oper} {a b : Act} (h : ∀ t ∈ o.looksAt ops, a.tmps[t]? = b.tmps[t]?) : Region.wanted o (yielded ops a.tmps) = Region.wanted o (yielded ops b.tmps) := by
  unfold Region.wanted
  cases hg : o.guard with
  | none => rfl
  | some gw =>
    obtain ⟨g, want⟩ := gw
    have hy : yielded ops a.tmps g = yielded ops b.tmps g := by
      unfold yielded
      cases ht : (ops[g]?).bind (·.dst) with
      | none => rfl
      | some t =>
        have := h t (by simp [Oper.looksAt, hg, ht])
        simp only [Option.bind_some, this]
    simp only [hy]
theorem listed_of_getD {listed : Array Bool} {j : Nat} (h : listed.getD j false = true) : listed[j]? = some true := by
  rw [Array.getD_eq_getD_getElem?] at h
  cases hj : listed[j]? with
  | none => rw [hj] at h; cases h
  | some b => rw [hj] at h; exact congrArg some h
theorem unlisted_of_getD {listed : Array Bool} {j : Nat} (h : listed.getD j true = false) : listed[j]? = some false := by
  rw [Array.getD_eq_getD_getElem?] at h
  cases hj : listed[j]? with
  | none => rw [hj] at h; cases h
  | some b => rw [hj] at h; exact congrArg some h
/-- the edges lead backwards -/
def backOk (ops : Array Oper) : Bool := (List.range ops.size).all fun k => match ops[k]? with | none => true | some o => (ahead o).all fun i => decide (i < k)
theorem ready_least {md : Region.Mode} (hmd : md = .any) {ops : Array Oper} (hb : backOk ops = true) {listed : Array Bool} (hl : listed.size = ops.size) (hr : Region.ready md ops listed = []) : ∀ j : Nat, j < ops.size → listed[j]? = some true := by
  intro j
  induction j using Nat.strongRecOn with
  | _ j ih =>
    intro hj
    have ho : ops[j]? = some ops[j] := Array.getElem?_eq_getElem hj
    cases hv : listed[j]'(by omega) with
    | true => rw [Array.getElem?_eq_getElem (by omega), hv]
    | false =>
      exfalso
      have hm : j ∈ Region.ready md ops listed := by
        rw [mem_ready]
        refine ⟨by rw [Array.getD_eq_getD_getElem?, Array.getElem?_eq_getElem (by omega), hv]; rfl, ops[j], ho, fun e he hbd => ?_⟩
        have hin : e.on ∈ ahead ops[j] := List.mem_map.2 ⟨e, List.mem_filter.2 ⟨by simpa using he, by rw [← hmd]; exact hbd⟩, rfl⟩
        have hlt : e.on < j := by
          have h1 := List.all_eq_true.1 hb j (List.mem_range.2 hj)
          simp only [ho] at h1
          exact of_decide_eq_true (List.all_eq_true.1 h1 _ hin)
        have := ih e.on hlt (by omega)
        rw [Array.getD_eq_getD_getElem?, this]; rfl
      rw [hr] at hm; cases hm
theorem count_set {listed : Array Bool} {i : Nat} (h : listed[i]? = some false) : (listed.setIfInBounds i true).toList.count false + 1 = listed.toList.count false := by
  obtain ⟨l⟩ := listed
  simp only [List.getElem?_toArray] at h
  simp only [List.setIfInBounds_toArray]
  induction l generalizing i with
  | nil => simp at h
  | cons b r ih =>
    cases i with
    | zero =>
      simp only [List.getElem?_cons_zero, Option.some.injEq] at h
      subst h
      simp
    | succ i =>
      simp only [List.getElem?_cons_succ] at h
      have := ih h
      simp only [List.set_cons_succ, List.count_cons]
      omega
theorem set_get {listed : Array Bool} {i : Nat} (hi : listed[i]? = some false) (j : Nat) : (listed.setIfInBounds i true)[j]? = if j = i then some true else listed[j]? := by
  have hlt : i < listed.size := (Array.getElem?_eq_some_iff.1 hi).1
  by_cases e : j = i
  · subst e; rw [if_pos rfl]; simp [hlt]
  · rw [if_neg e, Array.getElem?_setIfInBounds_ne (fun h => e h.symm)]
/-- the operations from n on come last, one after the other -/
def tailOk (ops : Array Oper) (n : Nat) : Bool := (List.range ops.size).all fun k => decide (k < n) || match ops[k]? with | none => true | some o => (List.range k).all fun i => (ahead o).contains i
theorem tail_ahead {n k i : Nat} {o : Oper} (h : tailOk ops n = true) (ho : ops[k]? = some o) (hk : n ≤ k) (hi : i < k) : i ∈ ahead o := by
  have hlt : k < ops.size := (Array.getElem?_eq_some_iff.1 ho).1
  have h1 := List.all_eq_true.1 h k (List.mem_range.2 hlt)
  simp only [ho, Bool.or_eq_true, decide_eq_true_eq] at h1
  have h2 := h1.resolve_left (by omega)
  have h3 := List.all_eq_true.1 h2 i (List.mem_range.2 hi)
  simpa using h3
theorem ahead_of_edge {o : Oper} {i : Nat} (h : i ∈ ahead o) : ∃ e ∈ o.after, Region.binds .any e = true ∧ e.on = i := by
  obtain ⟨e, he, rfl⟩ := List.mem_map.1 h
  obtain ⟨h1, h2⟩ := List.mem_filter.1 he
  exact ⟨e, by simpa using h1, h2, rfl⟩
theorem wpAny_tail (hb : backOk ops = true) {n : Nat} (ht : tailOk ops n = true) : ∀ (fuel m : Nat) (listed : Array Bool) (a : Act) (w : World), n ≤ m → m ≤ ops.size → ops.size - m ≤ fuel → listed.size = ops.size →
    (∀ j : Nat, j < m → listed[j]? = some true) → (∀ j : Nat, m ≤ j → j < ops.size → listed[j]? = some false) → wpList P ops Q (ops.toList.drop m) a w → wpAny P .any ops Q fuel listed a w := by
  intro fuel
  induction fuel with
  | zero =>
    intro m listed a w hn hm hf hl h1 h2 h
    have : m = ops.size := by omega
    subst this
    rw [List.drop_of_length_le (by simp)] at h
    refine ⟨?_, h⟩
    cases hr : Region.ready .any ops listed with
    | nil => rfl
    | cons x r =>
      have hx : x ∈ Region.ready .any ops listed := by rw [hr]; exact List.mem_cons_self
      obtain ⟨hu, o, ho, _⟩ := mem_ready.1 hx
      have := h1 x (Array.getElem?_eq_some_iff.1 ho).1
      rw [unlisted_of_getD hu] at this
      cases this
  | succ fuel ih =>
    intro m listed a w hn hm hf hl h1 h2 h
    by_cases hms : m = ops.size
    · subst hms
      rw [List.drop_of_length_le (by simp)] at h
      refine ⟨fun _ => h, fun x hx => ?_⟩
      obtain ⟨hu, o, ho, _⟩ := mem_ready.1 hx
      have := h1 x (Array.getElem?_eq_some_iff.1 ho).1
      rw [unlisted_of_getD hu] at this
      cases this
    · have hlt : m < ops.size := by omega
      have hom : ops[m]? = some ops[m] := Array.getElem?_eq_getElem hlt
      refine ⟨fun hr => ?_, fun k hk => ?_⟩
      · have := ready_least rfl hb hl hr m hlt
        rw [h2 m (Nat.le_refl _) hlt] at this
        cases this
      · obtain ⟨hu, o, ho, hedge⟩ := mem_ready.1 hk
        have hku := unlisted_of_getD hu
        have hklt : k < ops.size := (Array.getElem?_eq_some_iff.1 ho).1
        have hkm : m ≤ k := by
          rcases Nat.lt_or_ge k m with hx | hx
          · rw [h1 k hx] at hku; cases hku
          · exact hx
        have hk : k = m := by
          rcases Nat.lt_or_ge m k with hx | hx
          · obtain ⟨e, he, hbd, hon⟩ := ahead_of_edge (tail_ahead ht ho (by omega) hx)
            have := listed_of_getD (hedge e he hbd)
            rw [hon, h2 m (Nat.le_refl _) hlt] at this
            cases this
          · omega
        subst hk
        rw [List.drop_eq_getElem_cons (by simpa using hlt)] at h
        unfold wpList at h
        unfold wpOp
        simp only [hom]
        simp only [Array.getElem_toList] at h
        have next : ∀ a' w', wpList P ops Q (ops.toList.drop (k + 1)) a' w' → wpAny P .any ops Q fuel (listed.setIfInBounds k true) a' w' := by
          intro a' w' h'
          refine ih (k + 1) _ a' w' (by omega) hlt (by omega) (by rw [Array.size_setIfInBounds]; exact hl) ?_ ?_ h'
          · intro j hj
            rw [set_get hku]
            split
            · rfl
            · exact h1 j (by omega)
          · intro j hj hjs
            rw [set_get hku, if_neg (by omega)]
            exact h2 j (by omega) hjs
        split
        · rename_i hw
          rw [if_pos hw] at h
          exact h.imp (Oper.wp_mono next) id
        · rename_i hw
          rw [if_neg hw] at h
          exact next _ _ h
theorem wpAny_held (hb : backOk ops = true) (hap : apartB ops = true) {L : List (List Nat)} (hlo : looksOk ops L = true) {n : Nat} (hnle : n ≤ ops.size) (htl : tailOk ops n = true) {I : World → Prop} {S : World → World → Prop} {R : Nat → Value → World → Prop} {a0 : Act}
    (hsz : ∀ j t, slot ops j = some t → t < a0.tmps.size)
    (hS : ∀ j v w w', S w w' → R j v w → R j v w') (hop : ∀ (k : Nat) (o : Oper), k < n → ops[k]? = some o → Does P ops L I S R a0 k o)
    (hend : ∀ (vals : Nat → Value) (w : World), I w → (∀ j : Nat, j < n → R j (vals j) w) → wpList P ops Q (ops.toList.drop n) (putOf ops vals (List.range n) a0) w) :
    ∀ (fuel : Nat) (listed : Array Bool) (vals : Nat → Value) (a : Act) (w : World), listed.toList.count false ≤ fuel → (∀ j : Nat, n ≤ j → j < ops.size → listed[j]? = some false) → Held ops I R a0 vals listed a w → wpAny P .any ops Q fuel listed a w := by
  have slot_lt : ∀ {j t : Nat}, slot ops j = some t → j < ops.size := by
    intro j t hj
    unfold slot at hj
    cases hk : ops[j]? with
    | none => rw [hk] at hj; cases hj
    | some o => exact (Array.getElem?_eq_some_iff.1 hk).1
  have fin : ∀ (fuel : Nat) (listed : Array Bool) (vals : Nat → Value) (a : Act) (w : World), listed.toList.count false ≤ fuel → (∀ j : Nat, n ≤ j → j < ops.size → listed[j]? = some false) → Held ops I R a0 vals listed a w → (∀ j : Nat, j < n → listed[j]? = some true) → wpAny P .any ops Q fuel listed a w := by
    intro fuel listed vals a w hc hun h hall
    have e : a = putOf ops vals (List.range n) a0 := by
      have et : a.tmps = (putOf ops vals (List.range n) a0).tmps := by
        refine Array.ext_getElem? fun t => ?_
        by_cases hx : ∃ j : Nat, j < n ∧ slot ops j = some t
        · obtain ⟨j, hjn, hj⟩ := hx
          rw [h.new j t (hall j hjn) hj, putOf_mem hap vals _ _ j t (List.mem_range.2 hjn) hj (hsz j t hj)]
        · rw [h.old t (fun j hj e => ?_), putOf_other ops vals _ _ t (fun j hj e => hx ⟨j, List.mem_range.1 hj, e⟩)]
          rcases Nat.lt_or_ge j n with hjn | hjn
          · exact hx ⟨j, hjn, e⟩
          · rw [hun j hjn (slot_lt e)] at hj; cases hj
      have ed : a.defers = (putOf ops vals (List.range n) a0).defers := by rw [putOf_defers]; exact h.defers
      cases a
      generalize putOf ops vals (List.range n) a0 = b at *
      cases b
      simp_all
    have hcnt : ops.size - n ≤ fuel := by
      refine Nat.le_trans ?_ hc
      have h1 : (listed.toList.drop n).count false = ops.size - n := by
        rw [List.count_eq_length.2]
        · simp [h.len]
        · intro b hb'
          obtain ⟨i, hi, rfl⟩ := List.mem_iff_getElem.1 hb'
          simp only [List.length_drop, Array.length_toList] at hi
          have := hun (n + i) (by omega) (by rw [← h.len]; omega)
          rw [Array.getElem?_eq_getElem (by omega)] at this
          simpa using (Option.some.inj this).symm
      rw [← h1]
      exact (List.drop_sublist n _).count_le false
    exact wpAny_tail hb htl fuel n listed a w (Nat.le_refl _) hnle hcnt h.len hall hun (e ▸ hend vals w h.inv (fun j hj => h.got j (hall j hj)))
  intro fuel
  induction fuel with
  | zero =>
    intro listed vals a w hc hun h
    refine fin 0 listed vals a w hc hun h fun j hj => ?_
    have hjl : j < listed.size := by rw [h.len]; omega
    rw [Array.getElem?_eq_getElem hjl]
    have h0 : listed.toList.count false = 0 := by omega
    have := List.count_eq_zero.1 h0
    cases hv : listed[j] with
    | true => rfl
    | false => exact (this (hv ▸ (by simp))).elim
  | succ fuel ih =>
    intro listed vals a w hc hun h
    by_cases hall : ∀ j : Nat, j < n → listed[j]? = some true
    · exact fin _ listed vals a w hc hun h hall
    refine ⟨fun hr => (hall fun j hj => ready_least rfl hb h.len hr j (by omega)).elim, fun k hk => ?_⟩
    obtain ⟨hu, o, ho, hedge⟩ := mem_ready.1 hk
    have hku := unlisted_of_getD hu
    have hklt : k < ops.size := (Array.getElem?_eq_some_iff.1 ho).1
    have hkn : k < n := by
      rcases Nat.lt_or_ge k n with hx | hx
      · exact hx
      · exact (hall fun j hj => by
          obtain ⟨e, he, hbd, hon⟩ := ahead_of_edge (tail_ahead htl ho hx (show j < k by omega))
          exact hon ▸ listed_of_getD (hedge e he hbd)).elim
    have hah : ∀ i ∈ ahead o, listed[i]? = some true := by
      intro i hi
      obtain ⟨e, he, rfl⟩ := List.mem_map.1 hi
      obtain ⟨h1, h2⟩ := List.mem_filter.1 he
      exact listed_of_getD (hedge e (by simpa using h1) h2)
    have hlk := List.all_eq_true.1 hlo k (List.mem_range.2 hklt)
    simp only [ho, Bool.and_eq_true] at hlk
    obtain ⟨⟨hsel, hpre⟩, hlk⟩ := hlk
    have hpre' : ∀ i ∈ L.getD k [], i ∈ ahead o := fun i hi => by simpa using List.all_eq_true.1 hpre i hi
    have hsame : ∀ t ∈ o.looksAt ops, a.tmps[t]? = (putOf ops vals (L.getD k []) a0).tmps[t]? := by
      intro t ht
      have h1 := List.all_eq_true.1 hlk t ht
      by_cases hx : ∃ j : Nat, listed[j]? = some true ∧ slot ops j = some t
      · obtain ⟨j, hj, hjt⟩ := hx
        have hjlt : j < ops.size := by rw [← h.len]; exact (Array.getElem?_eq_some_iff.1 hj).1
        have h2 := List.all_eq_true.1 h1 j (List.mem_range.2 hjlt)
        have hoj : ops[j]? = some ops[j] := Array.getElem?_eq_getElem hjlt
        simp only [hoj, Bool.or_eq_true, bne_iff_ne, ne_eq, List.contains_eq_mem, decide_eq_true_eq] at h2
        have hjin : j ∈ L.getD k [] := by
          rcases h2 with (h2 | h2) | h2
          · exact (h2 hjt).elim
          · exact h2
          · have := h.closed j _ hoj hj k h2
            rw [hku] at this; cases this
        rw [h.new j t hj hjt, putOf_mem hap vals _ _ j t hjin hjt (hsz j t hjt)]
      · rw [h.old t (fun j hj e => hx ⟨j, hj, e⟩), putOf_other ops vals _ _ t (fun j hj e => hx ⟨j, hah j (hpre' j hj), e⟩)]
    have hd := hop k o hkn ho vals w h.inv (fun j hj => h.got j (hah j (hpre' j hj)))
    have hdst : slot ops k = o.dst := by unfold slot; rw [ho]; rfl
    refine wpOp_mono ?_ (wpOp_of_list (Q := Q) (a := a) ho ?_ ?_ (exec_congr (fun cs c e => ?_) hsame) (wanted_congr hsame) hd)
    · rintro a' w' ⟨v, rfl, hI, hSw, hR⟩
      refine ih (listed.setIfInBounds k true) (fun j => if j = k then (if o.dst.isSome then v else undef) else vals j) _ w' (by have := count_set hku; omega) (fun j hj hjs => by rw [set_get hku, if_neg (by omega)]; exact hun j hj hjs) ?_
      refine ⟨hI, ?_, ?_, ?_, ?_, ?_, ?_, ?_⟩
      · rw [Array.size_setIfInBounds]; exact h.len
      · rw [← h.defers]; cases o.dst <;> rfl
      · rw [← h.size]; cases o.dst <;> simp [Act.put]
      · intro j oj hoj hj i hi
        rw [set_get hku] at hj ⊢
        by_cases ei : i = k
        · rw [if_pos ei]
        · rw [if_neg ei]
          by_cases ej : j = k
          · subst ej
            rw [ho] at hoj; cases hoj
            exact hah i hi
          · rw [if_neg ej] at hj
            exact h.closed j oj hoj hj i hi
      · intro t ht
        have hne : o.dst ≠ some t := by rw [← hdst]; exact ht k (by rw [set_get hku, if_pos rfl])
        rw [put_get_ne hne]
        refine h.old t fun j hj => ht j ?_
        rw [set_get hku]; split <;> first | rfl | exact hj
      · intro j t hj hjt
        rw [set_get hku] at hj
        by_cases ej : j = k
        · subst ej
          rw [hdst] at hjt
          rw [hjt, put_get_eq (by rw [h.size]; exact hsz j t (by rw [hdst]; exact hjt)), if_pos rfl]
          simp
        · rw [if_neg ej] at hj ⊢
          have hne : o.dst ≠ some t := by
            intro e
            exact ej (apart_inj hap hjt (by rw [hdst]; exact e))
          rw [put_get_ne hne]
          exact h.new j t hj hjt
      · intro j hj
        rw [set_get hku] at hj
        by_cases ej : j = k
        · subst ej
          rw [if_pos rfl]
          unfold res at hR
          cases hod : o.dst <;> rw [hod] at hR <;> exact hR
        · rw [if_neg ej] at hj ⊢
          exact hS j _ w w' hSw (h.got j hj)
    · intro hnone v u w'
      unfold res
      rw [hnone]
      exact id
    · intro t ht
      rw [putOf_size]
      exact hsz k t (by rw [hdst]; exact ht)
    · rw [e] at hsel; cases hsel
/-- all the checks on a region's text: n operations in any order, N slots; D: the slots that are written; L: what each operation builds on -/
def regOk (ops : Array Oper) (D : List (Option Tmp)) (L : List (List Nat)) (n N : Nat) : Bool := decide (n ≤ ops.size) && tailOk ops n && backOk ops && apartB ops && looksOk ops L &&
  ((List.range ops.size).all fun j => match slot ops j with | some t => decide (t < N) | none => true) && ((List.range ops.size).all fun j => slot ops j == D.getD j none) &&
  (List.range ops.size).all fun k => match (ops[k]?).bind (·.guard) with | none => true | some (g, _) => (L.getD k []).contains g && (D.getD g none).isSome
/-- a frame in which some operations have written: the slots by a list -/
def putD (D : List (Option Tmp)) (vals : Nat → Value) : List Nat → Act → Act
  | [], a => a
  | j :: r, a => putD D vals r (a.put (D.getD j none) (vals j))
theorem putD_eq {D : List (Option Tmp)} (h : ∀ j, j < ops.size → slot ops j = D.getD j none) (vals : Nat → Value) : ∀ (l : List Nat) (a : Act), (∀ j ∈ l, j < ops.size) → putOf ops vals l a = putD D vals l a := by
  intro l
  induction l with
  | nil => intro a _; rfl
  | cons j r ih =>
    intro a hl
    rw [putOf, putD, h j (hl j List.mem_cons_self), ih _ (fun k hk => hl k (List.mem_cons_of_mem _ hk))]
/-- what is owed for one operation whose guard says yes -/
def Goes (P : Program) (D : List (Option Tmp)) (ps : List Nat) (T : World → Value → World → Prop) (a0 : Act) (o : Oper) (vals : Nat → Value) (w : World) : Prop :=
  wpList P #[] (Post (putD D vals ps a0) o.dst (T w)) [{ o with guard := none }] (putD D vals ps a0) w
/-- what is owed for one operation -/
def Owes (P : Program) (D : List (Option Tmp)) (ps : List Nat) (I : World → Prop) (S : World → World → Prop) (R : Nat → Value → World → Prop) (a0 : Act) (k : Nat) (o : Oper) : Prop :=
  ∀ (vals : Nat → Value) (w : World), I w → (∀ j ∈ ps, R j (vals j) w) → match o.guard with
    | none => Goes P D ps (fun w v w' => I w' ∧ S w w' ∧ res o (R k) v w') a0 o vals w
    | some (g, want) => (vals g = .bool want → Goes P D ps (fun w v w' => I w' ∧ S w w' ∧ res o (R k) v w') a0 o vals w) ∧ (vals g ≠ .bool want → S w w ∧ R k undef w)
/-- what is owed for the operations, one after the other -/
def OwesAll (P : Program) (D : List (Option Tmp)) (L : List (List Nat)) (I : World → Prop) (S : World → World → Prop) (R : Nat → Value → World → Prop) (a0 : Act) : Nat → Nat → List Oper → Prop
  | _, 0, _ => True
  | _, _ + 1, [] => True
  | k, n + 1, o :: r => Owes P D (L.getD k []) I S R a0 k o ∧ OwesAll P D L I S R a0 (k + 1) n r
theorem owes_of_all {D : List (Option Tmp)} {L : List (List Nat)} {I : World → Prop} {S : World → World → Prop} {R : Nat → Value → World → Prop} {a0 : Act} : ∀ (l : List Oper) (m n : Nat), OwesAll P D L I S R a0 m n l → ∀ (k : Nat) (o : Oper), k < n → l[k]? = some o → Owes P D (L.getD (m + k) []) I S R a0 (m + k) o := by
  intro l
  induction l with
  | nil => intro m n _ k o _ h; simp at h
  | cons x r ih =>
    intro m n h k o hk hx
    cases n with
    | zero => omega
    | succ n =>
      obtain ⟨h1, h2⟩ := h
      cases k with
      | zero => simp only [List.getElem?_cons_zero, Option.some.injEq] at hx; subst hx; exact h1
      | succ k =>
        simp only [List.getElem?_cons_succ] at hx
        have := ih (m + 1) n h2 k o (by omega) hx
        rwa [show m + 1 + k = m + (k + 1) by omega] at this
theorem wpList_unguarded {o : Oper} {a1 : Act} {w : World} {T : Value → World → Prop} (h : wpList P #[] (Post a1 o.dst T) [{ o with guard := none }] a1 w) : o.wp P a1 w (wpList P ops (Post a1 o.dst T) []) (Post a1 o.dst T) := by
  unfold wpList at h
  rw [if_pos (by simp [Region.wanted])] at h
  rcases h with h | ⟨_, h⟩
  · exact h
  · exact (not_lets h).elim
theorem does_of_owes {D : List (Option Tmp)} {L : List (List Nat)} {I : World → Prop} {S : World → World → Prop} {R : Nat → Value → World → Prop} {a0 : Act} {k : Nat} {o : Oper}
    (hD : ∀ j, j < ops.size → slot ops j = D.getD j none) (hL : ∀ j ∈ L.getD k [], j < ops.size) (hap : apartB ops = true) (hsz : ∀ j t, slot ops j = some t → t < a0.tmps.size)
    (hg : ∀ g want, o.guard = some (g, want) → g ∈ L.getD k [] ∧ (slot ops g).isSome = true) (h : Owes P D (L.getD k []) I S R a0 k o) : Does P ops L I S R a0 k o := by
  intro vals w hI hR
  have h := h vals w hI hR
  unfold Goes at h
  rw [← putD_eq hD vals _ _ hL] at h
  generalize he : putOf ops vals (L.getD k []) a0 = a1 at *
  unfold wpList
  cases hgd : o.guard with
  | none =>
    rw [hgd] at h
    rw [if_pos (by simp [Region.wanted, hgd])]
    exact .inl (wpList_unguarded h)
  | some gw =>
    obtain ⟨g, want⟩ := gw
    rw [hgd] at h
    obtain ⟨h1, h2⟩ := h
    obtain ⟨hgl, hgs⟩ := hg g want hgd
    obtain ⟨t, ht⟩ := Option.isSome_iff_exists.1 hgs
    have hv : a1.tmps[t]? = some (vals g) := by rw [← he]; exact putOf_mem hap vals _ _ g t hgl ht (hsz g t ht)
    have hy : yielded ops a1.tmps g = match vals g with | .bool b => some b | _ => none := by
      unfold yielded
      have : (ops[g]?).bind (·.dst) = some t := ht
      rw [this, Option.bind_some, hv]
      cases vals g <;> rfl
    by_cases hb : vals g = .bool want
    · rw [if_pos (by simp [Region.wanted, hgd, hy, hb])]
      exact .inl (wpList_unguarded (h1 hb))
    · rw [if_neg]
      · obtain ⟨hS, hR⟩ := h2 hb
        refine ⟨undef, rfl, hI, hS, ?_⟩
        unfold res
        cases o.dst <;> exact hR
      · simp only [Region.wanted, hgd, hy]
        cases hx : vals g <;> simp
        rename_i b
        rw [hx] at hb
        intro e
        exact hb (by rw [e])
/-- A REGION THAT DRAWS ITS ORDER: its first n operations come up in any order that the edges allow, the others behind them. Each operation is walked once. I: what holds throughout; S: what a step may change; R k: what the result of operation k is. -/
theorem region_any {id : Nat} {l : List Oper} {a0 : Act} {w0 : World} (n : Nat) (D : List (Option Tmp)) (L : List (List Nat)) (I : World → Prop) (S : World → World → Prop) (R : Nat → Value → World → Prop) (hm : P.follows .mixedOrders = true)
    (hok : regOk l.toArray D L n a0.tmps.size = true) (h0 : I w0.drew)
    (hS : ∀ j v w w', S w w' → R j v w → R j v w')
    (hop : OwesAll P D L I S R a0 0 n l)
    (hend : ∀ (vals : Nat → Value) (w : World), I w → (∀ j : Nat, j < n → R j (vals j) w) → wpList P l.toArray Q (l.drop n) (putD D vals (List.range n) a0) w) :
    (Code.region id l.toArray true).wp P Q a0 w0 := by
  simp only [regOk, Bool.and_eq_true] at hok
  obtain ⟨⟨⟨⟨⟨⟨⟨hnle, htl⟩, hb⟩, hap⟩, hlo⟩, hsz⟩, hD⟩, hgd⟩ := hok
  have hnle' := of_decide_eq_true hnle
  have slot_lt : ∀ {j t : Nat}, slot l.toArray j = some t → j < l.toArray.size := by
    intro j t hj
    unfold slot at hj
    cases hk : l.toArray[j]? with
    | none => rw [hk] at hj; cases hj
    | some o => exact (Array.getElem?_eq_some_iff.1 hk).1
  have hsz' : ∀ j t, slot l.toArray j = some t → t < a0.tmps.size := by
    intro j t hj
    have h1 := List.all_eq_true.1 hsz j (List.mem_range.2 (slot_lt hj))
    simp only [hj] at h1
    exact of_decide_eq_true h1
  have hD' : ∀ j, j < l.toArray.size → slot l.toArray j = D.getD j none := fun j hj => by simpa using List.all_eq_true.1 hD j (List.mem_range.2 hj)
  refine wp_region_any hm ?_
  refine wpAny_held hb hap hlo hnle' htl (I := I) (S := S) (R := R) (a0 := a0) hsz' hS (fun k o hk ho => ?_) (fun vals w hI hR => ?_) _ _ (fun _ => undef) a0 _ ?_ ?_ ?_
  · have hklt : k < l.toArray.size := (Array.getElem?_eq_some_iff.1 ho).1
    have h1 := owes_of_all l 0 n hop k o hk (by simpa using ho)
    rw [Nat.zero_add] at h1
    have hlk := List.all_eq_true.1 hlo k (List.mem_range.2 hklt)
    simp only [ho, Bool.and_eq_true] at hlk
    refine does_of_owes hD' (fun j hj => ?_) hap hsz' (fun g want hg => ?_) h1
    · have h2 : j ∈ ahead o := by simpa using List.all_eq_true.1 hlk.1.2 j hj
      have h3 := List.all_eq_true.1 hb k (List.mem_range.2 hklt)
      simp only [ho] at h3
      have := of_decide_eq_true (List.all_eq_true.1 h3 j h2)
      omega
    · have h2 := List.all_eq_true.1 hgd k (List.mem_range.2 hklt)
      simp only [ho, Option.bind_some, hg, Bool.and_eq_true] at h2
      have hgl : g ∈ L.getD k [] := by simpa using h2.1
      refine ⟨hgl, ?_⟩
      have h4 : g ∈ ahead o := by simpa using List.all_eq_true.1 hlk.1.2 g hgl
      have h3 := List.all_eq_true.1 hb k (List.mem_range.2 hklt)
      simp only [ho] at h3
      have := of_decide_eq_true (List.all_eq_true.1 h3 g h4)
      rw [hD' g (by omega)]; exact h2.2
  · rw [putD_eq hD' vals _ _ (fun j hj => by have := List.mem_range.1 hj; omega)]
    exact hend vals w hI hR
  · simp
  · intro j _ hj
    rw [Array.getElem?_replicate, if_pos hj]
  · refine ⟨h0, by simp, rfl, rfl, ?_, fun _ _ => rfl, ?_, ?_⟩
    · intro j o _ hj
      rw [Array.getElem?_replicate] at hj
      split at hj <;> simp at hj
    · intro j t hj
      rw [Array.getElem?_replicate] at hj
      split at hj <;> simp at hj
    · intro j hj
      rw [Array.getElem?_replicate] at hj
      split at hj <;> simp at hj
/-- a list of predicates, each of which outlives a step -/
def Stab (S : World → World → Prop) : List (Value → World → Prop) → Prop
  | [] => True
  | r :: t => (∀ v w w', S w w' → r v w → r v w') ∧ Stab S t
def at_ (RL : List (Value → World → Prop)) (j : Nat) (v : Value) (w : World) : Prop := RL.getD j (fun _ _ => True) v w
theorem Stab.at {S : World → World → Prop} : ∀ {RL : List (Value → World → Prop)}, Stab S RL → ∀ j v w w', S w w' → at_ RL j v w → at_ RL j v w' := by
  intro RL
  induction RL with
  | nil => intro _ j v w w' _ _; exact trivial
  | cons r t ih =>
    rintro ⟨h1, h2⟩ j v w w' hS h
    cases j with
    | zero => exact h1 v w w' hS h
    | succ j => exact ih h2 j v w w' hS h
theorem region_l {id : Nat} {l : List Oper} {a0 : Act} {w0 : World} (n : Nat) (D : List (Option Tmp)) (L : List (List Nat)) (I : World → Prop) (S : World → World → Prop) (RL : List (Value → World → Prop)) (hm : P.follows .mixedOrders = true)
    (hok : regOk l.toArray D L n a0.tmps.size = true) (h0 : I w0.drew) (hS : Stab S RL)
    (hop : OwesAll P D L I S (at_ RL) a0 0 n l)
    (hend : ∀ (vals : Nat → Value) (w : World), I w → (∀ j : Nat, j < n → at_ RL j (vals j) w) → wpList P l.toArray Q (l.drop n) (putD D vals (List.range n) a0) w) :
    (Code.region id l.toArray true).wp P Q a0 w0 := region_any n D L I S (at_ RL) hm hok h0 hS.at hop hend
/-- what the slots hold that come in -/
def Lives (a : Act) : List (Nat × Value) → Prop
  | [] => True
  | x :: r => a.eval (.tmp x.1) = x.2 ∧ Lives a r
theorem Lives.at {a : Act} : ∀ {l : List (Nat × Value)}, Lives a l → ∀ (i : Nat) (x : Nat × Value), l[i]? = some x → a.eval (.tmp x.1) = x.2 := by
  intro l
  induction l with
  | nil => intro _ i x h; simp at h
  | cons y r ih =>
    rintro ⟨h1, h2⟩ i x h
    cases i with
    | zero => simp only [List.getElem?_cons_zero, Option.some.injEq] at h; subst h; exact h1
    | succ i => simp only [List.getElem?_cons_succ] at h; exact ih h2 i x h
theorem eval_of_get {a b : Act} {t : Nat} (h : a.tmps[t]? = b.tmps[t]?) : a.eval (.tmp t) = b.eval (.tmp t) := tmp_congr h
theorem eval_old {D : List (Option Tmp)} {vals : Nat → Value} {t : Nat} : ∀ {ps : List Nat} {a0 : Act}, (ps.all fun j => D.getD j none != some t) = true → (putD D vals ps a0).eval (.tmp t) = a0.eval (.tmp t) := by
  intro ps
  induction ps with
  | nil => intro a0 _; rfl
  | cons j r ih =>
    intro a0 h
    simp only [List.all_cons, Bool.and_eq_true, bne_iff_ne, ne_eq] at h
    rw [putD, ih h.2]
    exact eval_of_get (put_get_ne h.1)
theorem putD_size (D : List (Option Tmp)) (vals : Nat → Value) (l : List Nat) (a : Act) : (putD D vals l a).tmps.size = a.tmps.size := by
  induction l generalizing a with
  | nil => rfl
  | cons j r ih => rw [putD, ih]; cases D.getD j none <;> simp [Act.put]
theorem eval_new {D : List (Option Tmp)} {vals : Nat → Value} {t : Nat} (j : Nat) (hD : D.getD j none = some t) : ∀ {ps : List Nat} {a0 : Act}, j ∈ ps → (ps.all fun i => i == j || D.getD i none != some t) = true → t < a0.tmps.size →
    (putD D vals ps a0).eval (.tmp t) = vals j := by
  intro ps
  induction ps with
  | nil => intro a0 h; cases h
  | cons i r ih =>
    intro a0 hj h hs
    simp only [List.all_cons, Bool.and_eq_true] at h
    rw [putD]
    by_cases hr : j ∈ r
    · exact ih hr h.2 (by cases D.getD i none <;> simp [Act.put, hs])
    · obtain rfl : j = i := (List.mem_cons.1 hj).resolve_right hr
      have hno : (r.all fun i => D.getD i none != some t) = true := by
        rw [List.all_eq_true] at h ⊢
        intro k hk
        have := h.2 k hk
        simp only [Bool.or_eq_true, beq_iff_eq] at this
        rcases this with e | e
        · exact (hr (e ▸ hk)).elim
        · exact e
      rw [eval_old hno, hD]
      simp only [Act.eval, Array.getD_eq_getD_getElem?, put_get_eq hs, Option.getD_some]
theorem goes_val {o : Oper} {a1 : Act} {w w' : World} {T : Value → World → Prop} (v : Value) (hg : o.guard = none) (h : (execOp a1.eval o).run P w = .ok (.value v) w') (hT : T v w') : wpList P #[] (Post a1 o.dst T) [o] a1 w := by
  unfold wpList
  rw [if_pos (by simp [Region.wanted, hg])]
  refine .inl ?_
  unfold Oper.wp
  rw [h]
  exact ⟨v, rfl, hT⟩
theorem goes_skip {o : Oper} {a1 : Act} {w w' : World} {T : Value → World → Prop} (hg : o.guard = none) (h : (execOp a1.eval o).run P w = .ok .skip w') (hT : T undef w') : wpList P #[] (Post a1 o.dst T) [o] a1 w := by
  unfold wpList
  rw [if_pos (by simp [Region.wanted, hg])]
  refine .inl ?_
  unfold Oper.wp
  rw [h]
  exact ⟨undef, rfl, hT⟩
theorem goes_call {o : Oper} {a1 : Act} {w : World} {T : Value → World → Prop} (f : FuncId) (args : Array Value) (w' : World) (hg : o.guard = none) (h : (execOp a1.eval o).run P w = .ok (.enter f args) w')
    (hT : Calls P f args w' fun e w'' => ∃ v, e = .returned v ∧ T v w'') : wpList P #[] (Post a1 o.dst T) [o] a1 w := by
  unfold wpList
  rw [if_pos (by simp [Region.wanted, hg])]
  refine .inl ?_
  unfold Oper.wp
  rw [h]
  refine Calls.mono hT fun e w'' he => ?_
  obtain ⟨v, rfl, ht⟩ := he
  exact ⟨v, rfl, ht⟩
/-- the same rule, each operation over a frame of which only the slots that come in are known -/
theorem region_f {id : Nat} {l : List Oper} {a0 : Act} {w0 : World} (n N : Nat) (D : List (Option Tmp)) (L : List (List Nat)) (LV : List (Nat × Value)) (I : World → Prop) (S : World → World → Prop) (RL : List (Value → World → Prop)) (hm : P.follows .mixedOrders = true)
    (hok : regOk l.toArray D L n N = true) (hN : a0.tmps.size = N) (hLV : Lives a0 LV) (h0 : I w0.drew) (hS : Stab S RL)
    (hop : ∀ b0 : Act, b0.tmps.size = N → Lives b0 LV → OwesAll P D L I S (at_ RL) b0 0 n l)
    (hend : ∀ (vals : Nat → Value) (w : World), I w → (∀ j : Nat, j < n → at_ RL j (vals j) w) → wpList P l.toArray Q (l.drop n) (putD D vals (List.range n) a0) w) :
    (Code.region id l.toArray true).wp P Q a0 w0 := region_l n D L I S RL hm (hN ▸ hok) h0 hS (hop a0 hN hLV) hend
end Go.Proofs.YtcoijmggfkjcjaaDoor.Roll
namespace Go.Proofs.YtcoijmggfkjcjaaDoor
open Go.RowKit
set_option linter.unusedSimpArgs false
set_option linter.unusedVariables false
theorem ret_bool {a b : Bool} (h : a = b) : Ending.returned (.bool a) = .returned (.bool b) := by rw [h]
theorem ret_intD {k : IntKind} {a b : Int} (h : a = b) : Ending.returned (.int k a) = .returned (.int k b) := by rw [h]
def lens : List Int := [31, 28, 31, 30, 31, 30, 31, 31, 30, 31, 30, 31]
/-- the program's tables hold what they were laid with -/
structure Tabs (w : World) : Prop where
  len : Lib.TabIs Tryd.prog w "rollbook/date.lengths" .i64 lens
  pow : Lib.TabIs Tryd.prog w "internal/strconv.uint64pow10" .u64 Lib.pow10Tab
theorem gnLen : Tryd.prog.globalNamed "rollbook/date.lengths" = some 0 := by kernel_rfl
theorem Tabs.at {w : World} (h : Tabs w) (i : Nat) (hi : i < 12) : w.cell? ⟨0, i, none⟩ = some (.int .i64 (lens.getD i 0)) := h.len.cell gnLen i hi
theorem var_lt {w : World} {n : String} {g : Nat} {cs : Array Value} (hg : Tryd.prog.globalNamed n = some g) (h : w.var? Tryd.prog n = some cs) : g < w.heap.size := by
  unfold World.var? at h
  rw [hg] at h
  rcases Nat.lt_or_ge g w.heap.size with hl | hl
  · exact hl
  · simp only [Option.bind_some, Array.getElem?_eq_none hl] at h
    cases h
theorem tab_below {w w' : World} {n : String} {k : IntKind} {zs : List Int} (h : Lib.TabIs Tryd.prog w n k zs) (hb : Below w.heap.size w w') : Lib.TabIs Tryd.prog w' n k zs := by
  cases hg : Tryd.prog.globalNamed n with
  | none => unfold Lib.TabIs World.var? at h; rw [hg] at h; cases h
  | some g => exact var?_below hb hg (var_lt hg h) h
theorem Tabs.below {w w' : World} (h : Tabs w) (hb : Below w.heap.size w w') : Tabs w' := ⟨tab_below h.len hb, tab_below h.pow hb⟩
theorem tm0 (y k : Int) : y.tmod k = 0 ↔ y % k = 0 := by rw [← Int.dvd_iff_tmod_eq_zero, ← Int.dvd_iff_emod_eq_zero]
theorem tmb (y k : Int) : (y.tmod k == 0) = (y % k == 0) := by rw [Bool.eq_iff_iff, beq_iff_eq, beq_iff_eq, tm0]

theorem leap_any (y : Int) (w : World) : Calls Tryd.prog 28 #[.int .i64 y] w fun e w' => e = .returned (.bool (leapB y)) ∧ w = w' := by
  have HL : Hid (leapB y = ((y.tmod 4 == 0 && !(y.tmod 100 == 0)) || y.tmod 400 == 0)) := Lib.hid (by simp only [tmb]; rfl)
  by_cases h4 : y.tmod 4 = 0
  · by_cases h100 : y.tmod 100 = 0
    · by_cases h400 : y.tmod 400 = 0
      · go_enter Tryd.func28, Tryd.ntmps28
        go_wp2
        go_ret
        exact ⟨ret_bool (by rw [HL.out]; simp [h4, h100, h400]), rfl⟩
      · go_enter Tryd.func28, Tryd.ntmps28
        go_wp2
        go_ret
        exact ⟨ret_bool (by rw [HL.out]; simp [h4, h100, h400]), rfl⟩
    · go_enter Tryd.func28, Tryd.ntmps28
      go_wp2
      go_ret
      exact ⟨ret_bool (by rw [HL.out]; simp [h4, h100]), rfl⟩
  · by_cases h400 : y.tmod 400 = 0
    · exfalso; rw [tm0] at *; omega
    · go_enter Tryd.func28, Tryd.ntmps28
      go_wp2
      go_ret
      exact ⟨ret_bool (by rw [HL.out]; simp [h4, h400]), rfl⟩

theorem refLeap_any (y : Int) (w : World) : Calls Tryd.prog 29 #[.int .i64 y] w fun e w' => e = .returned (.bool (leapB y)) ∧ w = w' := by
  have HL : Hid (leapB y = ((y.tmod 4 == 0 && !(y.tmod 100 == 0)) || y.tmod 400 == 0)) := Lib.hid (by simp only [tmb]; rfl)
  by_cases h4 : y.tmod 4 = 0
  · by_cases h100 : y.tmod 100 = 0
    · by_cases h400 : y.tmod 400 = 0
      · go_enter Tryd.func29, Tryd.ntmps29
        go_wp2
        go_ret
        exact ⟨ret_bool (by rw [HL.out]; simp [h4, h100, h400]), rfl⟩
      · go_enter Tryd.func29, Tryd.ntmps29
        go_wp2
        go_ret
        exact ⟨ret_bool (by rw [HL.out]; simp [h4, h100, h400]), rfl⟩
    · go_enter Tryd.func29, Tryd.ntmps29
      go_wp2
      go_ret
      exact ⟨ret_bool (by rw [HL.out]; simp [h4, h100]), rfl⟩
  · by_cases h400 : y.tmod 400 = 0
    · exfalso; rw [tm0] at *; omega
    · go_enter Tryd.func29, Tryd.ntmps29
      go_wp2
      go_ret
      exact ⟨ret_bool (by rw [HL.out]; simp [h4, h400]), rfl⟩

theorem newYear_any (y : Int) (w : World) (h1 : 1 ≤ y) (h2 : y ≤ 20000) : Calls Tryd.prog 43 #[.int .i64 y] w fun e w' => e = .returned (.int .i64 (newY y)) ∧ w = w' := by
  obtain ⟨p, hp⟩ : ∃ p, p = y - 1 := ⟨_, rfl⟩
  have hw0 : IntKind.i64.wrap (y - 1) = p := by rw [hp]; exact i64_id _ (by omega) (by omega)
  have HN : Hid (newY y = 365 * p + p / 4 - p / 100 + p / 400) := Lib.hid (by unfold newY; rw [hp])
  have hp0 : 0 ≤ p := by omega
  have hp1 : p ≤ 20000 := by omega
  clear hp
  have hw1 : IntKind.i64.wrap (365 * p) = 365 * p := i64_id _ (by omega) (by omega)
  have hw2 : IntKind.i64.wrap (365 * p + p / 4) = 365 * p + p / 4 := i64_id _ (by omega) (by omega)
  have hw3 : IntKind.i64.wrap (365 * p + p / 4 - p / 100) = 365 * p + p / 4 - p / 100 := i64_id _ (by omega) (by omega)
  have hw4 : IntKind.i64.wrap (365 * p + p / 4 - p / 100 + p / 400) = 365 * p + p / 4 - p / 100 + p / 400 := i64_id _ (by omega) (by omega)
  go_enter Tryd.func43, Tryd.ntmps43
  go_wp2
  go_ret
  exact ⟨ret_intD (by rw [HN.out]), rfl⟩

theorem start_any (y : Int) (w : World) (h1 : 1 ≤ y) (h2 : y ≤ 20000) : Calls Tryd.prog 47 #[.int .i64 y] w fun e w' => e = .returned (.int .i64 (newY y)) ∧ w = w' := by
  obtain ⟨p, hp⟩ : ∃ p, p = y - 1 := ⟨_, rfl⟩
  have hw0 : IntKind.i64.wrap (y - 1) = p := by rw [hp]; exact i64_id _ (by omega) (by omega)
  have HN : Hid (newY y = 365 * p + p / 4 - p / 100 + p / 400) := Lib.hid (by unfold newY; rw [hp])
  have hp0 : 0 ≤ p := by omega
  have hp1 : p ≤ 20000 := by omega
  clear hp
  have hw1 : IntKind.i64.wrap (365 * p) = 365 * p := i64_id _ (by omega) (by omega)
  have hw2 : IntKind.i64.wrap (365 * p + p / 4) = 365 * p + p / 4 := i64_id _ (by omega) (by omega)
  have hw3 : IntKind.i64.wrap (365 * p + p / 4 - p / 100) = 365 * p + p / 4 - p / 100 := i64_id _ (by omega) (by omega)
  have hw4 : IntKind.i64.wrap (365 * p + p / 4 - p / 100 + p / 400) = 365 * p + p / 4 - p / 100 + p / 400 := i64_id _ (by omega) (by omega)
  go_enter Tryd.func47, Tryd.ntmps47
  go_wp2
  go_ret
  exact ⟨ret_intD (by rw [HN.out]), rfl⟩

set_option maxRecDepth 100000 in
theorem length_any (y m : Int) (w : World) (hT : Tabs w) : Calls Tryd.prog 30 #[.int .i64 y, .int .i64 m] w fun e w' => e = .returned (.int .i64 (lenD y m)) ∧ w = w' := by
  by_cases hm : m < 1
  · have HL : Hid (lenD y m = 0) := Lib.hid (len_bad y m (.inl hm))
    clear hT
    go_enter Tryd.func30, Tryd.ntmps30
    go_wp2
    go_ret
    exact ⟨ret_intD HL.out.symm, rfl⟩
  · by_cases hm2 : 12 < m
    · have HL : Hid (lenD y m = 0) := Lib.hid (len_bad y m (.inr hm2))
      clear hT
      go_enter Tryd.func30, Tryd.ntmps30
      go_wp2
      go_ret
      exact ⟨ret_intD HL.out.symm, rfl⟩
    · have hc : m = 1 ∨ m = 2 ∨ m = 3 ∨ m = 4 ∨ m = 5 ∨ m = 6 ∨ m = 7 ∨ m = 8 ∨ m = 9 ∨ m = 10 ∨ m = 11 ∨ m = 12 := by omega
      clear hm hm2
      rcases hc with rfl | rfl | rfl | rfl | rfl | rfl | rfl | rfl | rfl | rfl | rfl | rfl
      · have hc : w.cell? ⟨0, 0, none⟩ = some (.int .i64 31) := hT.at 0 (by omega)
        clear hT
        go_enter Tryd.func30, Tryd.ntmps30
        go_wp2
        go_ret
        exact ⟨ret_intD (by simp [lenD]), rfl⟩
      · have hc : w.cell? ⟨0, 1, none⟩ = some (.int .i64 28) := hT.at 1 (by omega)
        clear hT
        cases hl : leapB y
        · go_enter Tryd.func30, Tryd.ntmps30
          go_wp2_with (go_at_call 28; refine (leap_any y _).mono ?_; rintro e w1 ⟨rfl, rfl⟩)
          go_ret
          exact ⟨ret_intD (by simp [lenD, hl]), rfl⟩
        · go_enter Tryd.func30, Tryd.ntmps30
          go_wp2_with (go_at_call 28; refine (leap_any y _).mono ?_; rintro e w1 ⟨rfl, rfl⟩)
          go_ret
          exact ⟨ret_intD (by simp [lenD, hl]), rfl⟩
      · have hc : w.cell? ⟨0, 2, none⟩ = some (.int .i64 31) := hT.at 2 (by omega)
        clear hT
        go_enter Tryd.func30, Tryd.ntmps30
        go_wp2
        go_ret
        exact ⟨ret_intD (by simp [lenD]), rfl⟩
      · have hc : w.cell? ⟨0, 3, none⟩ = some (.int .i64 30) := hT.at 3 (by omega)
        clear hT
        go_enter Tryd.func30, Tryd.ntmps30
        go_wp2
        go_ret
        exact ⟨ret_intD (by simp [lenD]), rfl⟩
      · have hc : w.cell? ⟨0, 4, none⟩ = some (.int .i64 31) := hT.at 4 (by omega)
        clear hT
        go_enter Tryd.func30, Tryd.ntmps30
        go_wp2
        go_ret
        exact ⟨ret_intD (by simp [lenD]), rfl⟩
      · have hc : w.cell? ⟨0, 5, none⟩ = some (.int .i64 30) := hT.at 5 (by omega)
        clear hT
        go_enter Tryd.func30, Tryd.ntmps30
        go_wp2
        go_ret
        exact ⟨ret_intD (by simp [lenD]), rfl⟩
      · have hc : w.cell? ⟨0, 6, none⟩ = some (.int .i64 31) := hT.at 6 (by omega)
        clear hT
        go_enter Tryd.func30, Tryd.ntmps30
        go_wp2
        go_ret
        exact ⟨ret_intD (by simp [lenD]), rfl⟩
      · have hc : w.cell? ⟨0, 7, none⟩ = some (.int .i64 31) := hT.at 7 (by omega)
        clear hT
        go_enter Tryd.func30, Tryd.ntmps30
        go_wp2
        go_ret
        exact ⟨ret_intD (by simp [lenD]), rfl⟩
      · have hc : w.cell? ⟨0, 8, none⟩ = some (.int .i64 30) := hT.at 8 (by omega)
        clear hT
        go_enter Tryd.func30, Tryd.ntmps30
        go_wp2
        go_ret
        exact ⟨ret_intD (by simp [lenD]), rfl⟩
      · have hc : w.cell? ⟨0, 9, none⟩ = some (.int .i64 31) := hT.at 9 (by omega)
        clear hT
        go_enter Tryd.func30, Tryd.ntmps30
        go_wp2
        go_ret
        exact ⟨ret_intD (by simp [lenD]), rfl⟩
      · have hc : w.cell? ⟨0, 10, none⟩ = some (.int .i64 30) := hT.at 10 (by omega)
        clear hT
        go_enter Tryd.func30, Tryd.ntmps30
        go_wp2
        go_ret
        exact ⟨ret_intD (by simp [lenD]), rfl⟩
      · have hc : w.cell? ⟨0, 11, none⟩ = some (.int .i64 31) := hT.at 11 (by omega)
        clear hT
        go_enter Tryd.func30, Tryd.ntmps30
        go_wp2
        go_ret
        exact ⟨ret_intD (by simp [lenD]), rfl⟩
set_option maxRecDepth 100000 in
theorem refLength_any (y m : Int) (w : World) : Calls Tryd.prog 31 #[.int .i64 y, .int .i64 m] w fun e w' => e = .returned (.int .i64 (lenD y m)) ∧ w = w' := by
  by_cases hm : m < 1 ∨ 12 < m
  · have HL : Hid (lenD y m = 0) := Lib.hid (len_bad y m hm)
    have n1 : ¬ m = 1 := by omega
    have n2 : ¬ m = 2 := by omega
    have n3 : ¬ m = 3 := by omega
    have n4 : ¬ m = 4 := by omega
    have n5 : ¬ m = 5 := by omega
    have n6 : ¬ m = 6 := by omega
    have n7 : ¬ m = 7 := by omega
    have n8 : ¬ m = 8 := by omega
    have n9 : ¬ m = 9 := by omega
    have n10 : ¬ m = 10 := by omega
    have n11 : ¬ m = 11 := by omega
    have n12 : ¬ m = 12 := by omega
    clear hm
    go_enter Tryd.func31, Tryd.ntmps31
    go_wp2
    go_ret
    exact ⟨ret_intD HL.out.symm, rfl⟩
  · have hc : m = 1 ∨ m = 2 ∨ m = 3 ∨ m = 4 ∨ m = 5 ∨ m = 6 ∨ m = 7 ∨ m = 8 ∨ m = 9 ∨ m = 10 ∨ m = 11 ∨ m = 12 := by omega
    clear hm
    rcases hc with rfl | rfl | rfl | rfl | rfl | rfl | rfl | rfl | rfl | rfl | rfl | rfl
    · go_enter Tryd.func31, Tryd.ntmps31
      go_wp2
      go_ret
      exact ⟨ret_intD (by simp [lenD]), rfl⟩
    · cases hl : leapB y
      · go_enter Tryd.func31, Tryd.ntmps31
        go_wp2_with (go_at_call 29; refine (refLeap_any y _).mono ?_; rintro e w1 ⟨rfl, rfl⟩)
        go_ret
        exact ⟨ret_intD (by simp [lenD, hl]), rfl⟩
      · go_enter Tryd.func31, Tryd.ntmps31
        go_wp2_with (go_at_call 29; refine (refLeap_any y _).mono ?_; rintro e w1 ⟨rfl, rfl⟩)
        go_ret
        exact ⟨ret_intD (by simp [lenD, hl]), rfl⟩
    · go_enter Tryd.func31, Tryd.ntmps31
      go_wp2
      go_ret
      exact ⟨ret_intD (by simp [lenD]), rfl⟩
    · go_enter Tryd.func31, Tryd.ntmps31
      go_wp2
      go_ret
      exact ⟨ret_intD (by simp [lenD]), rfl⟩
    · go_enter Tryd.func31, Tryd.ntmps31
      go_wp2
      go_ret
      exact ⟨ret_intD (by simp [lenD]), rfl⟩
    · go_enter Tryd.func31, Tryd.ntmps31
      go_wp2
      go_ret
      exact ⟨ret_intD (by simp [lenD]), rfl⟩
    · go_enter Tryd.func31, Tryd.ntmps31
      go_wp2
      go_ret
      exact ⟨ret_intD (by simp [lenD]), rfl⟩
    · go_enter Tryd.func31, Tryd.ntmps31
      go_wp2
      go_ret
      exact ⟨ret_intD (by simp [lenD]), rfl⟩
    · go_enter Tryd.func31, Tryd.ntmps31
      go_wp2
      go_ret
      exact ⟨ret_intD (by simp [lenD]), rfl⟩
    · go_enter Tryd.func31, Tryd.ntmps31
      go_wp2
      go_ret
      exact ⟨ret_intD (by simp [lenD]), rfl⟩
    · go_enter Tryd.func31, Tryd.ntmps31
      go_wp2
      go_ret
      exact ⟨ret_intD (by simp [lenD]), rfl⟩
    · go_enter Tryd.func31, Tryd.ntmps31
      go_wp2
      go_ret
      exact ⟨ret_intD (by simp [lenD]), rfl⟩
theorem tmod_pos (a m : Int) (hm : 0 < m) : ((a.tmod m + m).tmod m) = a % m := by
  have h1 : -m < a.tmod m := Int.lt_tmod_of_pos a hm
  rw [Int.tmod_eq_emod_of_nonneg (by omega), Int.add_emod_right]
  have h2 := Int.dvd_sub_self_of_emod_eq (a := a.tmod m) (b := m) rfl
  have h3 : a.tmod m = a - m * a.tdiv m := by have := Int.tmod_add_mul_tdiv a m; omega
  rw [h3, Int.sub_mul_emod_self_left]
theorem remainder_any (a m : Int) (w : World) (h1 : -9223372036854775808 ≤ a) (h2 : a ≤ 9223372036854775807) (h3 : 0 < m) (h4 : m ≤ 1000) :
    Calls Tryd.prog 50 #[.int .i64 a, .int .i64 m] w fun e w' => e = .returned (.int .i64 (a % m)) ∧ w = w' := by
  have HE := Lib.hid (tmod_pos a m h3)
  have hb1 : -m < a.tmod m := Int.lt_tmod_of_pos a h3
  have hb2 : a.tmod m < m := Int.tmod_lt_of_pos a h3
  obtain ⟨r, hr⟩ : ∃ r, a.tmod m = r := ⟨_, rfl⟩
  rw [hr] at hb1 hb2
  have HE2 : Hid ((r + m) % m = a % m) := Lib.hid (by rw [← HE.out, hr, Int.tmod_eq_emod_of_nonneg (by omega)])
  have hm0 : ¬ m = 0 := by omega
  have hw1 : IntKind.i64.wrap r = r := i64_id _ (by omega) (by omega)
  have hw2 : IntKind.i64.wrap (r + m) = r + m := i64_id _ (by omega) (by omega)
  clear HE h1 h2
  go_enter Tryd.func50, Tryd.ntmps50
  go_wp2
  go_ret
  exact ⟨ret_intD HE2.out, rfl⟩
theorem weekday_any (n : Int) (w : World) (h1 : -9223372036854775808 ≤ n) (h2 : n ≤ 9223372036854775807) :
    Calls Tryd.prog 26 #[.int .i64 n] w fun e w' => e = .returned (.int .i64 (n % 7)) ∧ w = w' := by
  go_enter Tryd.func26, Tryd.ntmps26
  go_wp2_with (go_at_call 50; refine (remainder_any n 7 _ h1 h2 (by omega) (by omega)).mono ?_; rintro e w1 ⟨rfl, rfl⟩)
  go_ret
  exact ⟨rfl, rfl⟩
theorem refWeekday_any (n : Int) (w : World) (h1 : -9223372036854775808 ≤ n) (h2 : n ≤ 9223372036854775807) :
    Calls Tryd.prog 27 #[.int .i64 n] w fun e w' => e = .returned (.int .i64 (n % 7)) ∧ w = w' := by
  have hb1 : -7 < n.tmod 7 := Int.lt_tmod_of_pos n (by omega)
  have hb2 : n.tmod 7 < 7 := Int.tmod_lt_of_pos n (by omega)
  have h3 : n.tmod 7 = n - 7 * n.tdiv 7 := by have := Int.tmod_add_mul_tdiv n 7; omega
  obtain ⟨r, hr⟩ : ∃ r, n.tmod 7 = r := ⟨_, rfl⟩
  rw [hr] at hb1 hb2 h3
  have HR : Hid (n % 7 = if r < 0 then r + 7 else r) := Lib.hid (by split <;> omega)
  clear h3
  by_cases hn : r < 0
  · have hw2 : IntKind.i64.wrap (r + 7) = r + 7 := i64_id _ (by omega) (by omega)
    go_enter Tryd.func27, Tryd.ntmps27
    go_wp2
    go_ret
    exact ⟨ret_intD (by rw [HR.out, if_pos hn]), rfl⟩
  · go_enter Tryd.func27, Tryd.ntmps27
    go_wp2
    go_ret
    exact ⟨ret_intD (by rw [HR.out, if_neg (by omega)]), rfl⟩
/-- n modulo most, as the laws reckon it -/
def aroundD (n most : Int) : Int := if n < 0 then -(n + 1) % most else n % most
theorem aroundD_bd (n most : Int) (h : 0 < most) : 0 ≤ aroundD n most ∧ aroundD n most < most := by
  unfold aroundD
  split
  · exact ⟨Int.emod_nonneg _ (by omega), Int.emod_lt_of_pos _ h⟩
  · exact ⟨Int.emod_nonneg _ (by omega), Int.emod_lt_of_pos _ h⟩
theorem aroundD_any (n most : Int) (w : World) (h1 : -9223372036854775808 ≤ n) (h2 : n ≤ 9223372036854775807) (h3 : 0 < most) (h4 : most ≤ 9223372036854775807) :
    Calls Tryd.prog 15 #[.int .i64 n, .int .i64 most] w fun e w' => e = .returned (.int .i64 (aroundD n most)) ∧ w = w' := by
  by_cases hn : n < 0
  · have hw1 : IntKind.i64.wrap (n + 1) = n + 1 := i64_id _ (by omega) (by omega)
    have hw2 : IntKind.i64.wrap (-(n + 1)) = -(n + 1) := i64_id _ (by omega) (by omega)
    have HA : Hid (aroundD n most = -(n + 1) % most) := Lib.hid (by unfold aroundD; rw [if_pos hn])
    go_enter Tryd.func15, Tryd.ntmps15
    go_wp2
    go_ret
    have e : -(n + 1).tmod most = -(n + 1) % most := by rw [← Int.neg_tmod, Int.tmod_eq_emod_of_nonneg (by omega)]
    refine ⟨ret_intD ?_, rfl⟩
    rw [HA.out, ← e]
  · have HA : Hid (aroundD n most = n % most) := Lib.hid (by unfold aroundD; rw [if_neg hn])
    go_enter Tryd.func15, Tryd.ntmps15
    go_wp2
    go_ret
    exact ⟨ret_intD (by rw [HA.out]), rfl⟩
/-- the program's year of a day -/
theorem yearOf_any (n : Int) (w : World) (h0 : 0 ≤ n) (h1 : n ≤ 3652058) : Calls Tryd.prog 46 #[.int .i64 n] w fun e w' => e = .returned (.int .i64 (yearN n)) ∧ w = w' := by
  obtain ⟨p, hp⟩ : ∃ p, p = n * 400 / 146097 := ⟨_, rfl⟩
  have hp0 : 0 ≤ p ∧ p ≤ 10000 := by omega
  have HY : Hid (yearN n = if newY (1 + p + 1) ≤ n then 1 + p + 1 else 1 + p) := Lib.hid (by unfold yearN; rw [hp])
  have hw1 : IntKind.i64.wrap (n * 400) = n * 400 := i64_id _ (by omega) (by omega)
  have hw2 : (n * 400).tdiv 146097 = p := by rw [hp, Int.tdiv_eq_ediv_of_nonneg (by omega)]
  have hw2' : (n * 400) / 146097 = p := hp.symm
  have hw3 : IntKind.i64.wrap (1 + p) = 1 + p := i64_id _ (by omega) (by omega)
  have hw4 : IntKind.i64.wrap (1 + p + 1) = 1 + p + 1 := i64_id _ (by omega) (by omega)
  have hw5 : IntKind.i64.wrap p = p := i64_id _ (by omega) (by omega)
  have HC := Lib.hid (newYear_any (1 + p + 1) w (by omega) (by omega))
  clear hp
  by_cases hn : newY (1 + p + 1) ≤ n
  · go_enter Tryd.func46, Tryd.ntmps46
    go_wp2_with (go_at_call 43; refine HC.out.mono ?_; rintro e w1 ⟨rfl, rfl⟩)
    go_ret
    exact ⟨ret_intD (by rw [HY.out, if_pos hn]), rfl⟩
  · go_enter Tryd.func46, Tryd.ntmps46
    go_wp2_with (go_at_call 43; refine HC.out.mono ?_; rintro e w1 ⟨rfl, rfl⟩)
    go_ret
    exact ⟨ret_intD (by rw [HY.out, if_neg (by omega)]), rfl⟩
end Go.Proofs.YtcoijmggfkjcjaaDoor
namespace Go.Proofs.YtcoijmggfkjcjaaDoor
open Go.RowKit
set_option linter.unusedSimpArgs false
set_option linter.unusedVariables false
theorem below_al_drewN (w : World) (o : Obj) (n : Nat) : Below w.heap.size w ((w.alloc o).drewN n) := below_drewN ((Below.refl _ w).alloc (Nat.le_refl _) o) n
/-- what Check returns -/
def chk (y m d : Int) : Int := if validD y m d then 0 else 5

set_option maxRecDepth 100000 in
set_option maxHeartbeats 1000000 in
theorem check_any (y m d : Int) (w : World) (hT : Tabs w) : Calls Tryd.prog 18 #[.agg #[.int .i64 y, .int .i64 m, .int .i64 d]] w fun e w' => e = .returned (.int .i64 (chk y m d)) ∧ Below w.heap.size w w' := by
  obtain ⟨l, hl⟩ : ∃ l, l = lenD y m := ⟨_, rfl⟩
  have HC : Hid (∀ n o, Calls Tryd.prog 30 #[.int .i64 y, .int .i64 m] ((w.alloc o).drewN n) fun e w' => e = .returned (.int .i64 l) ∧ w' = (w.alloc o).drewN n) := Lib.hid (fun n o => by rw [hl]; exact (length_any y m _ (hT.below (below_al_drewN _ _ _))).mono fun e w' h => ⟨h.1, h.2.symm⟩)
  clear hT
  by_cases hy1 : y < 1
  · skip
    have HV : Hid (chk y m d = 5) := Lib.hid (by unfold chk; rw [if_neg]; rintro ⟨h1, h2, h3, h4⟩; omega)
    clear HC
    go_enter Tryd.func18, Tryd.ntmps18
    go_wp2_with fail
    go_quiet (fail)
    go_wp2
    go_ret
    rw [HV.out]
    exact ⟨rfl, below_al_drewN _ _ _⟩
  by_cases hy2 : 9999 < y
  · skip
    have e0 : decide (y < 1) = false := decide_eq_false (by omega)
    have HV : Hid (chk y m d = 5) := Lib.hid (by unfold chk; rw [if_neg]; rintro ⟨h1, h2, h3, h4⟩; omega)
    clear HC
    go_enter Tryd.func18, Tryd.ntmps18
    go_wp2_with fail
    go_quiet (fail)
    go_wp2
    go_ret
    rw [HV.out]
    exact ⟨rfl, below_al_drewN _ _ _⟩
  by_cases hd1 : d < 1
  · skip
    have e0 : decide (y < 1) = false := decide_eq_false (by omega)
    have e1 : decide (9999 < y) = false := decide_eq_false (by omega)
    have HV : Hid (chk y m d = 5) := Lib.hid (by unfold chk; rw [if_neg]; rintro ⟨h1, h2, h3, h4⟩; omega)
    clear HC
    go_enter Tryd.func18, Tryd.ntmps18
    go_wp2_with fail
    go_quiet (fail)
    go_wp2
    go_ret
    rw [HV.out]
    exact ⟨rfl, below_al_drewN _ _ _⟩
  by_cases hd2 : l < d
  · skip
    have e0 : decide (y < 1) = false := decide_eq_false (by omega)
    have e1 : decide (9999 < y) = false := decide_eq_false (by omega)
    have e2 : decide (d < 1) = false := decide_eq_false (by omega)
    have HV : Hid (chk y m d = 5) := Lib.hid (by unfold chk; rw [if_neg]; rintro ⟨h1, h2, h3, h4⟩; omega)
    skip
    go_enter Tryd.func18, Tryd.ntmps18
    go_wp2_with fail
    go_quiet ((go_at_call 30; exact Calls.quiet_of_same (HC.out _ _)))
    go_wp2
    go_ret
    rw [HV.out]
    exact ⟨rfl, below_al_drewN _ _ _⟩
  · skip
    have e0 : decide (y < 1) = false := decide_eq_false (by omega)
    have e1 : decide (9999 < y) = false := decide_eq_false (by omega)
    have e2 : decide (d < 1) = false := decide_eq_false (by omega)
    have e3 : decide (l < d) = false := decide_eq_false (by omega)
    have HV : Hid (chk y m d = 0) := Lib.hid (by unfold chk; rw [if_pos]; exact ⟨by omega, by omega, by omega, by omega⟩)
    skip
    go_enter Tryd.func18, Tryd.ntmps18
    go_wp2_with fail
    go_quiet ((go_at_call 30; exact Calls.quiet_of_same (HC.out _ _)))
    go_wp2
    go_ret
    rw [HV.out]
    exact ⟨rfl, below_al_drewN _ _ _⟩

set_option maxRecDepth 100000 in
set_option maxHeartbeats 1000000 in
theorem refCheck_any (y m d : Int) (w : World) (hT : Tabs w) : Calls Tryd.prog 44 #[.agg #[.int .i64 y, .int .i64 m, .int .i64 d]] w fun e w' => e = .returned (.int .i64 (chk y m d)) ∧ Below w.heap.size w w' := by
  obtain ⟨l, hl⟩ : ∃ l, l = lenD y m := ⟨_, rfl⟩
  have HC : Hid (∀ n o, Calls Tryd.prog 31 #[.int .i64 y, .int .i64 m] ((w.alloc o).drewN n) fun e w' => e = .returned (.int .i64 l) ∧ w' = (w.alloc o).drewN n) := Lib.hid (fun n o => by rw [hl]; exact (refLength_any y m _).mono fun e w' h => ⟨h.1, h.2.symm⟩)
  clear hT
  by_cases hy1 : y < 1
  · skip
    have HV : Hid (chk y m d = 5) := Lib.hid (by unfold chk; rw [if_neg]; rintro ⟨h1, h2, h3, h4⟩; omega)
    clear HC
    go_enter Tryd.func44, Tryd.ntmps44
    go_wp2_with fail
    go_quiet (fail)
    go_wp2
    go_ret
    rw [HV.out]
    exact ⟨rfl, below_al_drewN _ _ _⟩
  by_cases hy2 : 9999 < y
  · skip
    have e0 : decide (y < 1) = false := decide_eq_false (by omega)
    have HV : Hid (chk y m d = 5) := Lib.hid (by unfold chk; rw [if_neg]; rintro ⟨h1, h2, h3, h4⟩; omega)
    clear HC
    go_enter Tryd.func44, Tryd.ntmps44
    go_wp2_with fail
    go_quiet (fail)
    go_wp2
    go_ret
    rw [HV.out]
    exact ⟨rfl, below_al_drewN _ _ _⟩
  by_cases hm1 : m < 1
  · skip
    have e0 : decide (y < 1) = false := decide_eq_false (by omega)
    have e1 : decide (9999 < y) = false := decide_eq_false (by omega)
    have HV : Hid (chk y m d = 5) := Lib.hid (by unfold chk; have h0 := len_bad y m (by omega); rw [if_neg]; rintro ⟨h1, h2, h3, h4⟩; omega)
    clear HC
    go_enter Tryd.func44, Tryd.ntmps44
    go_wp2_with fail
    go_quiet (fail)
    go_wp2
    go_ret
    rw [HV.out]
    exact ⟨rfl, below_al_drewN _ _ _⟩
  by_cases hm2 : 12 < m
  · skip
    have e0 : decide (y < 1) = false := decide_eq_false (by omega)
    have e1 : decide (9999 < y) = false := decide_eq_false (by omega)
    have e2 : decide (m < 1) = false := decide_eq_false (by omega)
    have HV : Hid (chk y m d = 5) := Lib.hid (by unfold chk; have h0 := len_bad y m (by omega); rw [if_neg]; rintro ⟨h1, h2, h3, h4⟩; omega)
    clear HC
    go_enter Tryd.func44, Tryd.ntmps44
    go_wp2_with fail
    go_quiet (fail)
    go_wp2
    go_ret
    rw [HV.out]
    exact ⟨rfl, below_al_drewN _ _ _⟩
  by_cases hd1 : d < 1
  · skip
    have e0 : decide (y < 1) = false := decide_eq_false (by omega)
    have e1 : decide (9999 < y) = false := decide_eq_false (by omega)
    have e2 : decide (m < 1) = false := decide_eq_false (by omega)
    have e3 : decide (12 < m) = false := decide_eq_false (by omega)
    have HV : Hid (chk y m d = 5) := Lib.hid (by unfold chk; rw [if_neg]; rintro ⟨h1, h2, h3, h4⟩; omega)
    clear HC
    go_enter Tryd.func44, Tryd.ntmps44
    go_wp2_with fail
    go_quiet (fail)
    go_wp2
    go_ret
    rw [HV.out]
    exact ⟨rfl, below_al_drewN _ _ _⟩
  by_cases hd2 : l < d
  · skip
    have e0 : decide (y < 1) = false := decide_eq_false (by omega)
    have e1 : decide (9999 < y) = false := decide_eq_false (by omega)
    have e2 : decide (m < 1) = false := decide_eq_false (by omega)
    have e3 : decide (12 < m) = false := decide_eq_false (by omega)
    have e4 : decide (d < 1) = false := decide_eq_false (by omega)
    have HV : Hid (chk y m d = 5) := Lib.hid (by unfold chk; rw [if_neg]; rintro ⟨h1, h2, h3, h4⟩; omega)
    skip
    go_enter Tryd.func44, Tryd.ntmps44
    go_wp2_with fail
    go_quiet ((go_at_call 31; exact Calls.quiet_of_same (HC.out _ _)))
    go_wp2
    go_ret
    rw [HV.out]
    exact ⟨rfl, below_al_drewN _ _ _⟩
  · skip
    have e0 : decide (y < 1) = false := decide_eq_false (by omega)
    have e1 : decide (9999 < y) = false := decide_eq_false (by omega)
    have e2 : decide (m < 1) = false := decide_eq_false (by omega)
    have e3 : decide (12 < m) = false := decide_eq_false (by omega)
    have e4 : decide (d < 1) = false := decide_eq_false (by omega)
    have e5 : decide (l < d) = false := decide_eq_false (by omega)
    have HV : Hid (chk y m d = 0) := Lib.hid (by unfold chk; rw [if_pos]; exact ⟨by omega, by omega, by omega, by omega⟩)
    skip
    go_enter Tryd.func44, Tryd.ntmps44
    go_wp2_with fail
    go_quiet ((go_at_call 31; exact Calls.quiet_of_same (HC.out _ _)))
    go_wp2
    go_ret
    rw [HV.out]
    exact ⟨rfl, below_al_drewN _ _ _⟩

end Go.Proofs.YtcoijmggfkjcjaaDoor
namespace Go.Proofs.YtcoijmggfkjcjaaDoor
open Go.RowKit
set_option linter.unusedSimpArgs false
set_option linter.unusedVariables false
theorem valid_sm {y m d : Int} (h : validD y m d) : 1 ≤ y ∧ y ≤ 9999 ∧ 1 ≤ m ∧ m ≤ 12 ∧ 1 ≤ d ∧ d ≤ 31 := by
  have hm := valid_m h
  have := (len_pos y m hm.1 hm.2).2
  obtain ⟨h1, h2, h3, h4⟩ := h
  omega
theorem new_rng {y : Int} (h1 : 1 ≤ y) (h2 : y ≤ 10000) : 0 ≤ newY y ∧ newY y ≤ 3652059 := by
  have a := new_le h1
  have b := new_le h2
  have e1 : newY 1 = 0 := by decide
  have e2 : newY 10000 = 3652059 := by decide
  omega
theorem cum_rng (y : Int) (k : Nat) (h : k ≤ 13) : 0 ≤ cumD y k ∧ cumD y k ≤ 366 := by
  have a := cum_le y (show 0 ≤ k by omega)
  have b := cum_le y h
  have e : cumD y 0 = 0 := rfl
  have e2 := cum_13 y
  split at e2 <;> omega
theorem cum_one (y : Int) : cumD y 1 = 0 := by rw [cum_eq y 1 (by omega) (by omega)]; simp
def dayR (y m d : Int) : Int := if validD y m d then dayN y m d else 0
theorem chk_ok {y m d : Int} (h : validD y m d) : chk y m d = 0 := by unfold chk; rw [if_pos h]
theorem chk_no {y m d : Int} (h : ¬ validD y m d) : chk y m d = 5 := by unfold chk; rw [if_neg h]
/-- the sums of the loop, and their bounds -/
theorem sums {y m d : Int} (h : validD y m d) : ∃ F : Nat → Int, F 1 = newY y + d - 1 ∧ (∀ k : Nat, F (k + 1) = F k + lenD y k) ∧ (∀ k : Nat, k ≤ 13 → 0 ≤ F k ∧ F k ≤ 4000000) ∧ F m.toNat = dayN y m d := by
  have hs := valid_sm h
  have hn := new_rng (y := y) (by omega) (by omega)
  refine ⟨fun k => newY y + d - 1 + cumD y k, ?_, fun k => ?_, fun k hk => ?_, rfl⟩
  · simp only [cum_one]; omega
  · show newY y + d - 1 + (cumD y k + lenD y (k : Int)) = newY y + d - 1 + cumD y k + lenD y (k : Int); omega
  · have := cum_rng y k hk
    show 0 ≤ newY y + d - 1 + cumD y k ∧ newY y + d - 1 + cumD y k ≤ 4000000
    omega

set_option maxRecDepth 100000 in
set_option maxHeartbeats 1000000 in
theorem day_any (y m d : Int) (w : World) (hT : Tabs w) : Calls Tryd.prog 16 #[.agg #[.int .i64 y, .int .i64 m, .int .i64 d]] w fun e w' => e = .returned (.tuple #[.int .i64 (dayR y m d), .int .i64 (chk y m d)]) ∧ Below w.heap.size w w' := by
  have HK : Hid (∀ o, Calls Tryd.prog 18 #[.agg #[.int .i64 y, .int .i64 m, .int .i64 d]] (w.alloc o) fun e w' => e = .returned (.int .i64 (chk y m d)) ∧ Below (w.alloc o).heap.size (w.alloc o) w') :=
    Lib.hid (fun o => check_any y m d _ (hT.below ((Below.refl _ w).alloc (Nat.le_refl _) o)))
  by_cases hv : validD y m d
  · rw [chk_ok hv] at HK ⊢
    have HR : Hid (dayR y m d = dayN y m d) := Lib.hid (by unfold dayR; rw [if_pos hv])
    have hs := valid_sm hv
    obtain ⟨F, hF1, hFs, hFb, hFm⟩ := sums hv
    have HF1 := Lib.hid hF1
    have HFs := Lib.hid hFs
    have HFb := Lib.hid hFb
    have HFM := Lib.hid hFm
    have hny := new_rng (y := y) (by omega) (by omega)
    obtain ⟨Y, hY⟩ : ∃ Y, Y = newY y := ⟨_, rfl⟩
    rw [← hY] at hny
    have HY := Lib.hid hY
    have HF1' : Hid (F 1 = Y + d - 1) := Lib.hid (by rw [hF1, HY.out])
    clear HF1
    have HF1 := HF1'
    clear HF1' hF1 hFs hFb hFm hY
    have hw1 : IntKind.i64.wrap (Y + d) = Y + d := i64_id _ (by omega) (by omega)
    have hw2 : IntKind.i64.wrap (Y + d - 1) = Y + d - 1 := i64_id _ (by omega) (by omega)
    have HT := Lib.hid hT
    have HV := Lib.hid hv
    clear hv
    go_enter Tryd.func16, Tryd.ntmps16
    go_wp2_with (go_at_call 18; refine (HK.out _).mono ?_; rintro e w1 ⟨rfl, hb⟩; have HB := Lib.hid hb; have c0 : w1.cell? ⟨w.heap.size, 0, none⟩ = some (.int .i64 y) := (hb.cell (p := ⟨w.heap.size, 0, none⟩) (by simp)).trans (by simp); have c1 : w1.cell? ⟨w.heap.size, 1, none⟩ = some (.int .i64 m) := (hb.cell (p := ⟨w.heap.size, 1, none⟩) (by simp)).trans (by simp); have c2 : w1.cell? ⟨w.heap.size, 2, none⟩ = some (.int .i64 d) := (hb.cell (p := ⟨w.heap.size, 2, none⟩) (by simp)).trans (by simp); have HNY : Hid (∀ n, Calls Tryd.prog 43 #[.int .i64 y] (w1.drewN n) fun e w' => e = .returned (.int .i64 Y) ∧ w' = w1.drewN n) := Lib.hid (fun n => by rw [HY.out]; exact (newYear_any y _ (by omega) (by omega)).mono fun e w' h => ⟨h.1, h.2.symm⟩); have HLen : Hid (∀ (n : Nat) (k : Nat), Calls Tryd.prog 30 #[.int .i64 y, .int .i64 (k : Int)] (w1.drewN n) fun e w' => e = .returned (.int .i64 (lenD y k)) ∧ w1.drewN n = w') := Lib.hid (fun n k => length_any y k _ ((HT.out.below ((Below.refl _ w).alloc (Nat.le_refl _) _)).below (below_drewN hb n))); clear hb)
    go_quiet ((go_at_call 43; exact Calls.quiet_of_same (HNY.out _)))
    go_wp2
    go_loopw [5, 6] (fun s u wr => ∃ n k : Nat, wr = w1.drewN n ∧ 1 ≤ k ∧ (k : Int) ≤ m ∧ s = .int .i64 (F k) ∧ u = .int .i64 (k : Int)) (fun _ u _ => (m - intOf u).toNat)
    case atStart => exact ⟨_, 1, rfl, by omega, by omega, by rw [HF1.out], rfl⟩
    case round =>
      obtain ⟨nd, k, rfl, hk1, hk2, rfl, rfl⟩ := hrel
      by_cases hkm : (k : Int) < m
      · obtain ⟨l, hl⟩ : ∃ l, l = lenD y k := ⟨_, rfl⟩
        have HLe := Lib.hid (HLen.out nd k)
        rw [← hl] at HLe
        have hfk := HFb.out k (by omega)
        have hfk2 := HFb.out (k + 1) (by omega)
        have hS := HFs.out k
        rw [← hl] at hS
        obtain ⟨f, hf⟩ : ∃ f, f = F k := ⟨_, rfl⟩
        rw [← hf] at hfk hS
        have HF := Lib.hid hf
        have HS := Lib.hid hS
        rw [hS] at hfk2
        have hw5 : IntKind.i64.wrap (f + l) = f + l := i64_id _ (by omega) (by omega)
        have hw6 : IntKind.i64.wrap ((k : Int) + 1) = (k : Int) + 1 := i64_id _ (by omega) (by omega)
        rw [← hf]
        clear hl hS hf hfk2
        go_wp2_with (go_at_call 30; refine HLe.out.mono ?_; rintro e w4 ⟨rfl, rfl⟩)
        go_roundw
        case rel => exact ⟨_, k + 1, rfl, by omega, by omega, by rw [HS.out], by go_num⟩
        case measure => simp only [intOf]; omega
      · obtain rfl : (k : Int) = m := by omega
        go_wp2
        go_ret2
        have HFm := HFM.out
        rw [Int.toNat_natCast] at HFm
        exact ⟨by rw [HR.out, ← HFm]; rfl, below_drewN (((Below.refl _ w).alloc (Nat.le_refl _) _).trans (HB.out.mono (by simp))) _⟩
  · rw [chk_no hv] at HK ⊢
    have HR : Hid (dayR y m d = 0) := Lib.hid (by unfold dayR; rw [if_neg hv])
    clear hT hv
    go_enter Tryd.func16, Tryd.ntmps16
    go_wp2_with (go_at_call 18; refine (HK.out _).mono ?_; rintro e w1 ⟨rfl, hb⟩; have HB := Lib.hid hb; clear hb)
    go_ret2
    rw [HR.out]
    exact ⟨rfl, ((Below.refl _ w).alloc (Nat.le_refl _) _).trans (HB.out.mono (by simp))⟩

set_option maxRecDepth 100000 in
set_option maxHeartbeats 1000000 in
theorem number_any (y m d : Int) (w : World) (hv : validD y m d) : Calls Tryd.prog 45 #[.agg #[.int .i64 y, .int .i64 m, .int .i64 d]] w fun e w' => e = .returned (.int .i64 (dayN y m d)) ∧ Below w.heap.size w w' := by
  have hs := valid_sm hv
  obtain ⟨F, hF1, hFs, hFb, hFm⟩ := sums hv
  have HF1 := Lib.hid hF1
  have HFs := Lib.hid hFs
  have HFb := Lib.hid hFb
  have HFM := Lib.hid hFm
  have hny := new_rng (y := y) (by omega) (by omega)
  obtain ⟨Y, hY⟩ : ∃ Y, Y = newY y := ⟨_, rfl⟩
  rw [← hY] at hny
  have HY := Lib.hid hY
  have HF1' : Hid (F 1 = Y + d - 1) := Lib.hid (by rw [hF1, HY.out])
  clear HF1
  have HF1 := HF1'
  clear HF1' hF1 hFs hFb hFm hY
  have hw1 : IntKind.i64.wrap (Y + d) = Y + d := i64_id _ (by omega) (by omega)
  have hw2 : IntKind.i64.wrap (Y + d - 1) = Y + d - 1 := i64_id _ (by omega) (by omega)
  obtain ⟨o1, ho1⟩ : ∃ o1, o1 = Obj.cells #[.int .i64 y, .int .i64 m, .int .i64 d] 23 := ⟨_, rfl⟩
  have HNY : Hid (∀ n, Calls Tryd.prog 47 #[.int .i64 y] ((w.alloc o1).drewN n) fun e w' => e = .returned (.int .i64 Y) ∧ w' = (w.alloc o1).drewN n) := Lib.hid (fun n => by rw [HY.out]; exact (start_any y _ (by omega) (by omega)).mono fun e w' h => ⟨h.1, h.2.symm⟩)
  have HLen : Hid (∀ (n : Nat) (k : Nat), Calls Tryd.prog 31 #[.int .i64 y, .int .i64 (k : Int)] ((w.alloc o1).drewN n) fun e w' => e = .returned (.int .i64 (lenD y k)) ∧ (w.alloc o1).drewN n = w') := Lib.hid (fun n k => refLength_any y k _)
  rw [ho1] at HNY HLen
  clear hv ho1
  go_enter Tryd.func45, Tryd.ntmps45
  go_wp2_with fail
  go_quiet ((go_at_call 47; exact Calls.quiet_of_same (HNY.out _)))
  go_wp2
  go_loopw [3, 4] (fun s u wr => ∃ n k : Nat, wr = (w.alloc (Obj.cells #[.int .i64 y, .int .i64 m, .int .i64 d] 23)).drewN n ∧ 1 ≤ k ∧ (k : Int) ≤ m ∧ s = .int .i64 (F k) ∧ u = .int .i64 (k : Int)) (fun _ u _ => (m - intOf u).toNat)
  case atStart => exact ⟨_, 1, rfl, by omega, by omega, by rw [HF1.out], rfl⟩
  case round =>
    obtain ⟨nd, k, rfl, hk1, hk2, rfl, rfl⟩ := hrel
    by_cases hkm : (k : Int) < m
    · obtain ⟨l, hl⟩ : ∃ l, l = lenD y k := ⟨_, rfl⟩
      have HLe := Lib.hid (HLen.out nd k)
      rw [← hl] at HLe
      have hfk := HFb.out k (by omega)
      have hfk2 := HFb.out (k + 1) (by omega)
      have hS := HFs.out k
      rw [← hl] at hS
      obtain ⟨f, hf⟩ : ∃ f, f = F k := ⟨_, rfl⟩
      rw [← hf] at hfk hS
      have HF := Lib.hid hf
      have HS := Lib.hid hS
      rw [hS] at hfk2
      have hw5 : IntKind.i64.wrap (f + l) = f + l := i64_id _ (by omega) (by omega)
      have hw6 : IntKind.i64.wrap ((k : Int) + 1) = (k : Int) + 1 := i64_id _ (by omega) (by omega)
      rw [← hf]
      clear hl hS hf hfk2
      go_wp2_with (go_at_call 31; refine HLe.out.mono ?_; rintro e w4 ⟨rfl, rfl⟩)
      go_roundw
      case rel => exact ⟨_, k + 1, rfl, by omega, by omega, by rw [HS.out], by go_num⟩
      case measure => simp only [intOf]; omega
    · obtain rfl : (k : Int) = m := by omega
      go_wp2
      go_ret
      have HFm := HFM.out
      rw [Int.toNat_natCast] at HFm
      exact ⟨by rw [← HFm]; rfl, below_al_drewN _ _ _⟩

set_option maxRecDepth 100000 in
set_option maxHeartbeats 1000000 in
theorem refDay_any (y m d : Int) (w : World) (hT : Tabs w) : Calls Tryd.prog 17 #[.agg #[.int .i64 y, .int .i64 m, .int .i64 d]] w fun e w' => e = .returned (.tuple #[.int .i64 (dayR y m d), .int .i64 (chk y m d)]) ∧ Below w.heap.size w w' := by
  have HK : Hid (∀ o, Calls Tryd.prog 44 #[.agg #[.int .i64 y, .int .i64 m, .int .i64 d]] (w.alloc o) fun e w' => e = .returned (.int .i64 (chk y m d)) ∧ Below (w.alloc o).heap.size (w.alloc o) w') :=
    Lib.hid (fun o => refCheck_any y m d _ (hT.below ((Below.refl _ w).alloc (Nat.le_refl _) o)))
  by_cases hv : validD y m d
  · rw [chk_ok hv] at HK ⊢
    have HR : Hid (dayR y m d = dayN y m d) := Lib.hid (by unfold dayR; rw [if_pos hv])
    have HN : Hid (∀ u, Calls Tryd.prog 45 #[.agg #[.int .i64 y, .int .i64 m, .int .i64 d]] u fun e w' => e = .returned (.int .i64 (dayN y m d)) ∧ Below u.heap.size u w') := Lib.hid (fun u => number_any y m d u hv)
    clear hv hT
    go_enter Tryd.func17, Tryd.ntmps17
    go_wp2_with (first
      | (go_at_call 44; refine (HK.out _).mono ?_; rintro e w1 ⟨rfl, hb⟩; have HB := Lib.hid hb; have c0 : w1.cell? ⟨w.heap.size, 0, none⟩ = some (.int .i64 y) := (hb.cell (p := ⟨w.heap.size, 0, none⟩) (by simp)).trans (by simp); have c1 : w1.cell? ⟨w.heap.size, 1, none⟩ = some (.int .i64 m) := (hb.cell (p := ⟨w.heap.size, 1, none⟩) (by simp)).trans (by simp); have c2 : w1.cell? ⟨w.heap.size, 2, none⟩ = some (.int .i64 d) := (hb.cell (p := ⟨w.heap.size, 2, none⟩) (by simp)).trans (by simp); clear hb)
      | (go_at_call 45; refine (HN.out _).mono ?_; rintro e w2 ⟨rfl, hb⟩; have HB2 := Lib.hid hb; clear hb))
    go_ret2
    rw [HR.out]
    exact ⟨rfl, (((Below.refl _ w).alloc (Nat.le_refl _) _).trans (HB.out.mono (by simp))).trans (HB2.out.mono (by have := HB.out.size; simp at this; omega))⟩
  · rw [chk_no hv] at HK ⊢
    have HR : Hid (dayR y m d = 0) := Lib.hid (by unfold dayR; rw [if_neg hv])
    clear hT hv
    go_enter Tryd.func17, Tryd.ntmps17
    go_wp2_with (go_at_call 44; refine (HK.out _).mono ?_; rintro e w1 ⟨rfl, hb⟩; have HB := Lib.hid hb; clear hb)
    go_ret2
    rw [HR.out]
    exact ⟨rfl, ((Below.refl _ w).alloc (Nat.le_refl _) _).trans (HB.out.mono (by simp))⟩

end Go.Proofs.YtcoijmggfkjcjaaDoor
namespace Go.Proofs.YtcoijmggfkjcjaaDoor
open Go.RowKit
set_option linter.unusedSimpArgs false
set_option linter.unusedVariables false
def dc (y m d : Int) : Array Value := #[.int .i64 y, .int .i64 m, .int .i64 d]
theorem dc_info : (Tryd.prog.info? 23).map (·.size) = some 3 := by kernel_rfl
/-- a block that holds a date -/
def DB (w : World) (g : Nat) : Prop := ∃ y m d : Int, w.heap[g]? = some (.cells (dc y m d) 23 (0, 0))
def storeDateA (v x : Value) : Sem Next := do Instr.storeAt 23 v x; pure .skip
theorem exec_storeDate (ρ : Operand → Value) (d : Option Tmp) (x y : Operand) (ty : TypeId) (pos : String) (af : Array Edge) (gd : Option (Nat × Bool)) :
    execOp ρ { dst := d, op := .store 23 x y, type := ty, pos := pos, after := af, guard := gd } = storeDateA (ρ x) (ρ y) := rfl
theorem run_storeDate (w : World) (g : Nat) (y m d : Int) (h : DB w g) : (storeDateA (.pointer (some ⟨g, 0, none⟩)) (.agg #[.int .i64 y, .int .i64 m, .int .i64 d])).run Tryd.prog w = .ok .skip (w.setRow g #[.int .i64 y, .int .i64 m, .int .i64 d]) := by
  obtain ⟨y0, m0, d0, hg⟩ := h
  unfold storeDateA
  simp only [Instr.storeAt, Instr.sureAddr, Sem.run_bind, Sem.run_pure, Result.andThen_ok, run_storeVar_row w g 23 23 _ #[.int .i64 y, .int .i64 m, .int .i64 d] hg dc_info rfl (by simp [Value.oneCell'])]

theorem results_date_Of (tmps : Array Value) (w : World) (g : Nat) (x y z b : Int) (hp : tmps.getD 2 undef = .pointer (some ⟨g, 0, none⟩)) (hb : tmps.getD 3 undef = .int .i64 b) (hg : w.heap[g]? = some (.cells (dc x y z) 23 (0, 0))) :
    (results Tryd.f22 tmps).run Tryd.prog w = .ok (.tuple #[.agg #[.int .i64 x, .int .i64 y, .int .i64 z], .int .i64 b]) w := by
  rw [results_cell_tmp (p := 2) (u := 3) (ty := 23) rfl, hp, hb]
  simp only [asAddr, Sem.run_pure, Result.andThen_ok]
  rw [run_loadVar_row w g 23 23 (dc x y z) (0, 0) _ hg Tryd.underlying23 rfl dc_info]
  rfl

theorem results_rollbookref08_Of (tmps : Array Value) (w : World) (g : Nat) (x y z b : Int) (hp : tmps.getD 2 undef = .pointer (some ⟨g, 0, none⟩)) (hb : tmps.getD 3 undef = .int .i64 b) (hg : w.heap[g]? = some (.cells (dc x y z) 23 (0, 0))) :
    (results Tryd.f23 tmps).run Tryd.prog w = .ok (.tuple #[.agg #[.int .i64 x, .int .i64 y, .int .i64 z], .int .i64 b]) w := by
  rw [results_cell_tmp (p := 2) (u := 3) (ty := 23) rfl, hp, hb]
  simp only [asAddr, Sem.run_pure, Result.andThen_ok]
  rw [run_loadVar_row w g 23 23 (dc x y z) (0, 0) _ hg Tryd.underlying23 rfl dc_info]
  rfl

attribute [local go_sem ↓] exec_storeDate
attribute [local go_sem] run_storeDate
def cellI (w : World) (g i : Nat) : Int := match w.cell? ⟨g, i, none⟩ with | some (.int _ k) => k | _ => 0
theorem cellI_of {w : World} {g i : Nat} {k : IntKind} {n : Int} (h : w.cell? ⟨g, i, none⟩ = some (.int k n)) : cellI w g i = n := by unfold cellI; rw [h]
def okN (n : Int) : Prop := 0 ≤ n ∧ n ≤ 3652058
instance (n : Int) : Decidable (okN n) := inferInstanceAs (Decidable (_ ∧ _))
def ofY (n : Int) : Int := if okN n then yearN n else 0
def ofM (n : Int) : Int := if okN n then monthN n else 0
def ofD (n : Int) : Int := if okN n then mdayN n else 0
def ofE (n : Int) : Int := if okN n then 0 else 5
theorem of_no {n : Int} (h : ¬ okN n) : ofY n = 0 ∧ ofM n = 0 ∧ ofD n = 0 ∧ ofE n = 5 := by unfold ofY ofM ofD ofE; simp only [if_neg h]; exact ⟨trivial, trivial, trivial, trivial⟩
theorem of_yes {n : Int} (h : okN n) : ofY n = yearN n ∧ ofM n = monthN n ∧ ofD n = mdayN n ∧ ofE n = 0 := by unfold ofY ofM ofD ofE; simp only [if_pos h]; exact ⟨trivial, trivial, trivial, trivial⟩
theorem heap_new0 {w : World} {o : Obj} : (w.alloc o).heap[w.heap.size]? = some o := by rw [heap_alloc_if, if_pos rfl]
/-- the months of a day: what is left before each of them -/
theorem rests {n : Int} (h : okN n) : ∃ (G : Nat → Int) (M : Nat), G 1 = n - newY (yearN n) ∧ 1 ≤ M ∧ M ≤ 12 ∧ (∀ k : Nat, G (k + 1) = G k - lenD (yearN n) k) ∧ (∀ k : Nat, 1 ≤ k → k ≤ M → 0 ≤ G k ∧ G k ≤ 400) ∧
    (∀ k : Nat, 1 ≤ k → k < M → lenD (yearN n) k ≤ G k) ∧ G M < lenD (yearN n) M ∧ monthN n = M ∧ mdayN n = G M + 1 := by
  obtain ⟨h0, h1⟩ := h
  have hy := year_ok n h0
  have hs := new_succ (yearN n)
  have hm := mon_ok (yearN n) (n - newY (yearN n)) (by omega) (by omega)
  have h13 := cum_rng (yearN n) 13 (by omega)
  obtain ⟨M, hM⟩ : ∃ M, M = monN (yearN n) (n - newY (yearN n)) := ⟨_, rfl⟩
  have e1 : monthN n = (M : Int) := by rw [hM]; rfl
  have e2 : mdayN n = n - newY (yearN n) - cumD (yearN n) M + 1 := by rw [hM]; rfl
  rw [← hM] at hm
  clear hM
  refine ⟨fun k => n - newY (yearN n) - cumD (yearN n) k, M, ?_, hm.1, hm.2.1, fun k => ?_, fun k hk1 hk2 => ?_, fun k hk1 hk2 => ?_, ?_, e1, e2⟩
  · simp only [cum_one]; omega
  · show n - newY (yearN n) - (cumD (yearN n) k + lenD (yearN n) (k : Int)) = n - newY (yearN n) - cumD (yearN n) k - lenD (yearN n) (k : Int); omega
  · have a := cum_le (yearN n) hk2
    have b := cum_rng (yearN n) k (by omega)
    show 0 ≤ n - newY (yearN n) - cumD (yearN n) k ∧ n - newY (yearN n) - cumD (yearN n) k ≤ 400
    omega
  · have a := cum_le (yearN n) (show k + 1 ≤ M by omega)
    have e : cumD (yearN n) (k + 1) = cumD (yearN n) k + lenD (yearN n) (k : Int) := rfl
    show lenD (yearN n) (k : Int) ≤ n - newY (yearN n) - cumD (yearN n) k
    omega
  · have e : cumD (yearN n) (M + 1) = cumD (yearN n) M + lenD (yearN n) (M : Int) := rfl
    show n - newY (yearN n) - cumD (yearN n) M < lenD (yearN n) (M : Int)
    omega

set_option maxRecDepth 100000 in
set_option maxHeartbeats 1000000 in
theorem of_any (n : Int) (w : World) (hT : Tabs w) : Calls Tryd.prog 22 #[.int .i64 n] w fun e w' => e = .returned (.tuple #[.agg #[.int .i64 (ofY n), .int .i64 (ofM n), .int .i64 (ofD n)], .int .i64 (ofE n)]) ∧ Below w.heap.size w w' := by
  by_cases hn : okN n
  · obtain ⟨e1, e2, e3, e4⟩ := of_yes hn
    rw [e1, e2, e3, e4]
    clear e1 e2 e3 e4
    obtain ⟨G, M, hG1, hM1, hM12, hGs, hGb, hGlt, hGM, eM, eD⟩ := rests hn
    rw [eM, eD]
    clear eM eD
    obtain ⟨h0, h1⟩ := hn
    have hy := year_ok n h0
    have hy2 := year_le n h0 h1
    have hnr := new_rng (y := yearN n) hy.2.2 (by omega)
    have HYO := Lib.hid hy
    obtain ⟨y, hY⟩ : ∃ y, y = yearN n := ⟨_, rfl⟩
    have HYR : Hid (∀ u, Calls Tryd.prog 46 #[.int .i64 n] u fun e w' => e = .returned (.int .i64 y) ∧ u = w') := Lib.hid (fun u => by rw [hY]; exact yearOf_any n u h0 h1)
    rw [← hY] at hG1 hGs hGlt hGM hy hnr hy2 HYO ⊢
    obtain ⟨Y, hYY⟩ : ∃ Y, Y = newY y := ⟨_, rfl⟩
    have HNY : Hid (∀ u, Calls Tryd.prog 43 #[.int .i64 y] u fun e w' => e = .returned (.int .i64 Y) ∧ u = w') := Lib.hid (fun u => by rw [hYY]; exact newYear_any y u hy.2.2 (by omega))
    have HST : Hid (∀ u, Calls Tryd.prog 47 #[.int .i64 y] u fun e w' => e = .returned (.int .i64 Y) ∧ u = w') := Lib.hid (fun u => by rw [hYY]; exact start_any y u hy.2.2 (by omega))
    rw [← hYY] at hG1 hnr
    have HG1 := Lib.hid hG1
    have HGs := Lib.hid hGs
    have HGb := Lib.hid hGb
    have HGl := Lib.hid hGlt
    have HGM := Lib.hid hGM
    have hw1 : IntKind.i64.wrap (n - Y) = n - Y := i64_id _ (by omega) (by omega)
    clear hG1 hGs hGb hGlt hGM hy hY hYY
    have HT := Lib.hid hT
    clear hT
    go_enter Tryd.func22, Tryd.ntmps22
    go_upto_region 1 with fail
    obtain ⟨w1, hw⟩ : ∃ w1, w1 = w.alloc (.cells #[.int .i64 0, .int .i64 0, .int .i64 0] 23) := ⟨_, rfl⟩
    have hrow : w1.heap[w.heap.size]? = some (.cells (dc 0 0 0) 23 (0, 0)) := by rw [hw]; exact heap_new0
    have hb : Below w.heap.size w w1 := by rw [hw]; exact (Below.refl _ w).alloc (Nat.le_refl _) _
    rw [← hw]
    have p1 : DB w1 w.heap.size := ⟨0, 0, 0, hrow⟩
    have HROW := Lib.hid hrow
    have HB := Lib.hid hb
    have HLen : Hid (∀ (k : Nat), Calls Tryd.prog 30 #[.int .i64 y, .int .i64 (k : Int)] w1 fun e w' => e = .returned (.int .i64 (lenD y k)) ∧ w1 = w') := Lib.hid (fun k => length_any y k _ (HT.out.below HB.out))
    clear hw hrow hb
    go_wp2_with (first
      | (go_at_call 46; refine (HYR.out _).mono ?_; rintro e w3 ⟨rfl, rfl⟩)
      | (go_at_call 43; refine (HNY.out _).mono ?_; rintro e w3 ⟨rfl, rfl⟩))
    go_loopw [5, 6] (fun s u wr => wr = w1 ∧ ∃ k : Nat, 1 ≤ k ∧ k ≤ M ∧ s = .int .i64 (k : Int) ∧ u = .int .i64 (G k)) (fun s _ _ => ((M : Int) - intOf s).toNat)
    case atStart => exact ⟨rfl, 1, by omega, by omega, rfl, by rw [HG1.out]⟩
    case round =>
      obtain ⟨rfl, k, hk1, hk2, rfl, rfl⟩ := hrel
      obtain ⟨l, hl⟩ : ∃ l, l = lenD y k := ⟨_, rfl⟩
      have hgb := HGb.out k hk1 hk2
      have HLe := Lib.hid (HLen.out k)
      obtain ⟨gk, hgk⟩ : ∃ gk, gk = G k := ⟨_, rfl⟩
      rw [← hl] at HLe
      rw [← hgk] at hgb ⊢
      by_cases hkm : k < M
      · have hle := HGl.out k hk1 hkm
        rw [← hl, ← hgk] at hle
        have HS : Hid (G (k + 1) = gk - l) := Lib.hid (by rw [HGs.out, hgk, hl])
        have hw5 : IntKind.i64.wrap (gk - l) = gk - l := i64_id _ (by omega) (by have := (HGb.out (k + 1) (by omega) (by omega)); rw [HS.out] at this; omega)
        have hw6 : IntKind.i64.wrap ((k : Int) + 1) = (k : Int) + 1 := i64_id _ (by omega) (by omega)
        clear hgk hl
        go_wp2_with (go_at_call 30; refine HLe.out.mono ?_; rintro e w4 ⟨rfl, rfl⟩)
        go_roundw
        case rel => exact ⟨trivial, k + 1, by omega, by omega, by go_num, by rw [HS.out]⟩
        case measure => simp only [intOf]; omega
      · obtain rfl : k = M := by omega
        have hlt := HGM.out
        rw [← hl, ← hgk] at hlt
        have HGK := Lib.hid hgk
        have hw5 : IntKind.i64.wrap (gk + 1) = gk + 1 := i64_id _ (by omega) (by omega)
        clear hgk hl
        go_wp2_with (go_at_call 30; refine HLe.out.mono ?_; rintro e w4 ⟨rfl, rfl⟩)
        exact bodyPost_ret (results_date_Of _ _ w.heap.size y k (gk + 1) 0 rfl rfl (setRow_heap _ _ _ _ _ _ HROW.out)) rfl ⟨by rw [HGK.out], ((Kept.of_below (fun _ => False) HB.out).setRow (fun h => by omega) _).below (Nat.le_refl _) (fun _ _ h => h)⟩
  · obtain ⟨e1, e2, e3, e4⟩ := of_no hn
    rw [e1, e2, e3, e4]
    clear e1 e2 e3 e4 hT
    by_cases h0 : n < 0
    · clear hn
      go_enter Tryd.func22, Tryd.ntmps22
      go_upto_region 1 with fail
      have p1 : DB (w.alloc (.cells #[.int .i64 0, .int .i64 0, .int .i64 0] 23)) w.heap.size := ⟨0, 0, 0, heap_new0⟩
      go_wp2_with fail
      exact bodyPost_ret (results_date_Of _ _ w.heap.size 0 0 0 5 rfl rfl (setRow_heap _ _ _ _ _ _ heap_new0)) rfl ⟨rfl, (((Kept.refl (fun _ => False) w).alloc _).setRow (fun h => by omega) _).below (Nat.le_refl _) (fun _ _ h => h)⟩
    · have h1 : 3652058 < n := by unfold okN at hn; omega
      clear hn
      go_enter Tryd.func22, Tryd.ntmps22
      go_upto_region 1 with fail
      have p1 : DB (w.alloc (.cells #[.int .i64 0, .int .i64 0, .int .i64 0] 23)) w.heap.size := ⟨0, 0, 0, heap_new0⟩
      go_wp2_with fail
      exact bodyPost_ret (results_date_Of _ _ w.heap.size 0 0 0 5 rfl rfl (setRow_heap _ _ _ _ _ _ heap_new0)) rfl ⟨rfl, (((Kept.refl (fun _ => False) w).alloc _).setRow (fun h => by omega) _).below (Nat.le_refl _) (fun _ _ h => h)⟩

theorem year_lo {n y : Int} (h0 : 0 ≤ n) (h2 : n < newY (y + 1)) : n / 366 + 1 ≤ y := by
  rcases Int.lt_or_le y (n / 366 + 1) with hl | hl
  · exfalso
    have h := new_le (show y + 1 ≤ n / 366 + 1 by omega)
    have e : newY (n / 366 + 1) = 365 * (n / 366) + (n / 366) / 4 - (n / 366) / 100 + (n / 366) / 400 := by unfold newY; rw [show n / 366 + 1 - 1 = n / 366 by omega]
    omega
  · exact hl

set_option maxRecDepth 100000 in
set_option maxHeartbeats 1000000 in
theorem refOf_any (n : Int) (w : World) (hT : Tabs w) : Calls Tryd.prog 23 #[.int .i64 n] w fun e w' => e = .returned (.tuple #[.agg #[.int .i64 (ofY n), .int .i64 (ofM n), .int .i64 (ofD n)], .int .i64 (ofE n)]) ∧ Below w.heap.size w w' := by
  by_cases hn : okN n
  · obtain ⟨e1, e2, e3, e4⟩ := of_yes hn
    rw [e1, e2, e3, e4]
    clear e1 e2 e3 e4
    obtain ⟨G, M, hG1, hM1, hM12, hGs, hGb, hGlt, hGM, eM, eD⟩ := rests hn
    rw [eM, eD]
    clear eM eD
    obtain ⟨h0, h1⟩ := hn
    have hy := year_ok n h0
    have hy2 := year_le n h0 h1
    have hnr := new_rng (y := yearN n) hy.2.2 (by omega)
    have HYO := Lib.hid hy
    obtain ⟨y, hY⟩ : ∃ y, y = yearN n := ⟨_, rfl⟩
    have HYR : Hid (∀ u, Calls Tryd.prog 46 #[.int .i64 n] u fun e w' => e = .returned (.int .i64 y) ∧ u = w') := Lib.hid (fun u => by rw [hY]; exact yearOf_any n u h0 h1)
    rw [← hY] at hG1 hGs hGlt hGM hy hnr hy2 HYO ⊢
    obtain ⟨Y, hYY⟩ : ∃ Y, Y = newY y := ⟨_, rfl⟩
    have HNY : Hid (∀ u, Calls Tryd.prog 43 #[.int .i64 y] u fun e w' => e = .returned (.int .i64 Y) ∧ u = w') := Lib.hid (fun u => by rw [hYY]; exact newYear_any y u hy.2.2 (by omega))
    have HST : Hid (∀ u, Calls Tryd.prog 47 #[.int .i64 y] u fun e w' => e = .returned (.int .i64 Y) ∧ u = w') := Lib.hid (fun u => by rw [hYY]; exact start_any y u hy.2.2 (by omega))
    rw [← hYY] at hG1 hnr
    have HG1 := Lib.hid hG1
    have HGs := Lib.hid hGs
    have HGb := Lib.hid hGb
    have HGl := Lib.hid hGlt
    have HGM := Lib.hid hGM
    have hw1 : IntKind.i64.wrap (n - Y) = n - Y := i64_id _ (by omega) (by omega)
    have HYLO := Lib.hid (year_lo h0 hy.2.1)
    have hlo := year_lo h0 hy.2.1
    obtain ⟨q, hq⟩ : ∃ q, q = n / 366 := ⟨_, rfl⟩
    have hq0 : 0 ≤ q := by omega
    rw [← hq] at hlo HYLO
    have hwq : IntKind.i64.wrap (q + 1) = q + 1 := i64_id _ (by omega) (by omega)
    have hdq : n / 366 = q := hq.symm
    clear hG1 hGs hGb hGlt hGM hy hY hq hT HYR HNY HST
    subst hYY
    have HSA : Hid (∀ (z : Int) u, 1 ≤ z → z ≤ 20000 → Calls Tryd.prog 47 #[.int .i64 z] u fun e w' => e = .returned (.int .i64 (newY z)) ∧ u = w') := Lib.hid (fun z u h1 h2 => start_any z u h1 h2)
    go_enter Tryd.func23, Tryd.ntmps23
    have p4 : DB ((w.alloc (.cells #[.int .i64 0, .int .i64 0, .int .i64 0] 23)).alloc (.cells #[.int .i64 0, .int .i64 0, .int .i64 0] 23)) (w.heap.size + 1) := ⟨0, 0, 0, heap_alloc2_new _ _ _⟩
    go_upto_block 0 with fail
    clear hdq
    obtain ⟨w1, hw⟩ : ∃ w1, w1 = ((w.alloc (.cells #[.int .i64 0, .int .i64 0, .int .i64 0] 23)).alloc (.cells #[.int .i64 0, .int .i64 0, .int .i64 0] 23)).setRow (w.heap.size + 1) #[.int .i64 (q + 1), .int .i64 1, .int .i64 0] := ⟨_, rfl⟩
    obtain ⟨g2, hg2⟩ : ∃ g2, g2 = w.heap.size := ⟨_, rfl⟩
    obtain ⟨g4, hg4⟩ : ∃ g4, g4 = g2 + 1 := ⟨_, rfl⟩
    have h2 : w1.heap[g2]? = some (.cells (dc 0 0 0) 23 (0, 0)) := by rw [hw, hg2]; exact (setRow_other _ _ _ _ (by omega)).trans (heap_alloc2_old _ _ _)
    have h4 : w1.heap[g4]? = some (.cells (dc (q + 1) 1 0) 23 (0, 0)) := by rw [hw, hg4, hg2]; exact setRow_heap _ _ _ _ _ _ (heap_alloc2_new _ _ _)
    have hb : Below w.heap.size w w1 := by rw [hw]; exact ((((Kept.refl (fun _ => False) w).alloc _).alloc _).setRow (fun h => by omega) _).below (Nat.le_refl _) (fun _ _ h => h)
    have HZ : Hid (w.heap.size ≤ g2 ∧ w.heap.size ≤ g4 ∧ g2 ≠ g4) := Lib.hid (by omega)
    rw [← hw]
    clear p4
    rw [← hg2, ← hg4]
    have H2 := Lib.hid h2
    have H4 := Lib.hid h4
    have HB := Lib.hid hb
    clear hw hg2 hg4 h2 h4 hb
    go_wp2_with fail
    go_loopw [17] (fun _ wr => ∃ yy : Int, 1 ≤ yy ∧ yy ≤ y ∧ wr.heap[g2]? = some (.cells (dc 0 0 0) 23 (0, 0)) ∧ wr.heap[g4]? = some (.cells (dc yy 1 0) 23 (0, 0)) ∧ Below w.heap.size w wr) (fun _ wr => (y - cellI wr g4 0).toNat)
    case atStart => exact ⟨q + 1, by omega, by omega, H2.out, H4.out, HB.out⟩
    case round =>
      clear H2 H4 HB
      obtain ⟨yy, hyy1, hyy2, h2, h4, hb⟩ := hrel
      have c0 : wr.cell? ⟨g4, 0, none⟩ = some (.int .i64 yy) := cell_of_row wr g4 0 _ _ _ h4
      have f0 : wr.frozen? ⟨g4, 0, none⟩ = false := frozen_of_row wr g4 0 _ _ h4
      have H2 := Lib.hid h2
      have H4 := Lib.hid h4
      have HB := Lib.hid hb
      clear h2 h4 hb
      have hw2 : IntKind.i64.wrap (yy + 1) = yy + 1 := i64_id _ (by omega) (by omega)
      by_cases hlt : yy < y
      · have hle : newY (yy + 1) ≤ n := by have a := new_le (show yy + 1 ≤ y by omega); have b := HYO.out.1; omega
        go_wp2_with (go_at_call 47; refine (HSA.out _ _ (by omega) (by omega)).mono ?_; rintro e w3 ⟨rfl, rfl⟩)
        go_roundw
        case rel => exact ⟨yy + 1, by omega, by omega, (heap_setCell_other _ _ _ _ HZ.out.2.2).trans H2.out, (heap_setCell_same _ _ _ _ _ _ H4.out), ((Kept.of_below (fun _ => False) HB.out).setCell (fun h => absurd (show g4 < w.heap.size from h) (by have := HZ.out; omega)) _).below (Nat.le_refl _) (fun _ _ h => h)⟩
        case measure =>
          have e1 : (wr.setCell ⟨g4, 0, none⟩ (.int .i64 (yy + 1))).cell? ⟨g4, 0, none⟩ = some (.int .i64 (yy + 1)) := cell_of_row _ g4 0 _ _ _ (heap_setCell_same _ _ _ _ _ _ H4.out)
          rw [cellI_of e1, cellI_of c0]
          omega
      · obtain rfl : yy = y := by omega
        have hgt : n < newY (yy + 1) := by have b := HYO.out.2.1; omega
        have c1 : wr.cell? ⟨g4, 1, none⟩ = some (.int .i64 1) := cell_of_row wr g4 1 _ _ _ H4.out
        go_wp2_with (go_at_call 47; refine (HSA.out _ _ (by omega) (by omega)).mono ?_; rintro e w3 ⟨rfl, rfl⟩)
        go_loopw [5] (fun r wr => ∃ k : Nat, r = .int .i64 (G k) ∧ 1 ≤ k ∧ k ≤ M ∧ wr.heap[g2]? = some (.cells (dc 0 0 0) 23 (0, 0)) ∧ wr.heap[g4]? = some (.cells (dc yy (k : Int) 0) 23 (0, 0)) ∧ Below w.heap.size w wr) (fun _ wr => ((M : Int) - cellI wr g4 1).toNat)
        case atStart => exact ⟨1, by rw [HG1.out], by omega, by omega, H2.out, H4.out, HB.out⟩
        case round =>
          clear H2 H4 HB c0 f0 c1
          obtain ⟨k, rfl, hk1, hk2, h2, h4, hb⟩ := hrel
          have c0 : wr.cell? ⟨g4, 0, none⟩ = some (.int .i64 yy) := cell_of_row wr g4 0 _ _ _ h4
          have c1 : wr.cell? ⟨g4, 1, none⟩ = some (.int .i64 (k : Int)) := cell_of_row wr g4 1 _ _ _ h4
          have c2 : wr.cell? ⟨g4, 2, none⟩ = some (.int .i64 0) := cell_of_row wr g4 2 _ _ _ h4
          have f1 : wr.frozen? ⟨g4, 1, none⟩ = false := frozen_of_row wr g4 1 _ _ h4
          have f2 : wr.frozen? ⟨g4, 2, none⟩ = false := frozen_of_row wr g4 2 _ _ h4
          have H2 := Lib.hid h2
          have H4 := Lib.hid h4
          have HB := Lib.hid hb
          clear h2 h4 hb
          have HLen : Hid (∀ (k : Nat), Calls Tryd.prog 31 #[.int .i64 yy, .int .i64 (k : Int)] wr fun e w' => e = .returned (.int .i64 (lenD yy k)) ∧ wr = w') := Lib.hid (fun k => refLength_any yy k _)
          obtain ⟨l, hl⟩ : ∃ l, l = lenD yy k := ⟨_, rfl⟩
          have hgb := HGb.out k hk1 hk2
          have HLe := Lib.hid (HLen.out k)
          obtain ⟨gk, hgk⟩ : ∃ gk, gk = G k := ⟨_, rfl⟩
          rw [← hl] at HLe
          rw [← hgk] at hgb ⊢
          by_cases hkm : k < M
          · have hle := HGl.out k hk1 hkm
            rw [← hl, ← hgk] at hle
            have HS : Hid (G (k + 1) = gk - l) := Lib.hid (by rw [HGs.out, hgk, hl])
            have hw5 : IntKind.i64.wrap (gk - l) = gk - l := i64_id _ (by omega) (by have := (HGb.out (k + 1) (by omega) (by omega)); rw [HS.out] at this; omega)
            have hw6 : IntKind.i64.wrap ((k : Int) + 1) = (k : Int) + 1 := i64_id _ (by omega) (by omega)
            clear hgk hl
            go_wp2_with (go_at_call 31; refine HLe.out.mono ?_; rintro e w4 ⟨rfl, rfl⟩)
            go_roundw
            case rel => exact ⟨k + 1, by rw [HS.out], by omega, by omega, (heap_setCell_other _ _ _ _ HZ.out.2.2).trans H2.out, (heap_setCell_same _ _ _ _ _ _ H4.out), ((Kept.of_below (fun _ => False) HB.out).setCell (fun h => absurd (show g4 < w.heap.size from h) (by have := HZ.out; omega)) _).below (Nat.le_refl _) (fun _ _ h => h)⟩
            case measure =>
              have e1 : (wr.setCell ⟨g4, 1, none⟩ (.int .i64 ((k : Int) + 1))).cell? ⟨g4, 1, none⟩ = some (.int .i64 ((k : Int) + 1)) := cell_of_row _ g4 1 _ _ _ (heap_setCell_same _ _ _ _ _ _ H4.out)
              rw [cellI_of e1, cellI_of c1]
              omega
          · obtain rfl : k = M := by omega
            have hlt := HGM.out
            rw [← hl, ← hgk] at hlt
            have HGK := Lib.hid hgk
            have hw5 : IntKind.i64.wrap (gk + 1) = gk + 1 := i64_id _ (by omega) (by omega)
            have p2 : ∀ v, DB (wr.setCell ⟨g4, 2, none⟩ v) g2 := fun v => ⟨0, 0, 0, (heap_setCell_other _ _ _ _ HZ.out.2.2).trans H2.out⟩
            clear hgk hl
            go_wp2_with (go_at_call 31; refine HLe.out.mono ?_; rintro e w4 ⟨rfl, rfl⟩)
            exact bodyPost_ret (results_rollbookref08_Of _ _ g2 yy k (gk + 1) 0 rfl rfl (setRow_heap _ _ _ _ _ _ ((heap_setCell_other _ _ _ _ HZ.out.2.2).trans H2.out))) rfl ⟨by rw [HGK.out], (((Kept.of_below (fun _ => False) HB.out).setCell (fun h => absurd (show g4 < w.heap.size from h) (by have := HZ.out; omega)) _).setRow (fun h => by have := HZ.out; omega) _).below (Nat.le_refl _) (fun _ _ h => h)⟩
  · obtain ⟨e1, e2, e3, e4⟩ := of_no hn
    rw [e1, e2, e3, e4]
    clear e1 e2 e3 e4 hT
    by_cases h0 : n < 0
    · clear hn
      go_enter Tryd.func23, Tryd.ntmps23
      go_upto_region 1 with fail
      have p1 : DB (w.alloc (.cells #[.int .i64 0, .int .i64 0, .int .i64 0] 23)) w.heap.size := ⟨0, 0, 0, heap_new0⟩
      go_wp2_with fail
      exact bodyPost_ret (results_rollbookref08_Of _ _ w.heap.size 0 0 0 5 rfl rfl (setRow_heap _ _ _ _ _ _ heap_new0)) rfl ⟨rfl, (((Kept.refl (fun _ => False) w).alloc _).setRow (fun h => by omega) _).below (Nat.le_refl _) (fun _ _ h => h)⟩
    · have h1 : 3652058 < n := by unfold okN at hn; omega
      clear hn
      go_enter Tryd.func23, Tryd.ntmps23
      go_upto_region 1 with fail
      have p1 : DB (w.alloc (.cells #[.int .i64 0, .int .i64 0, .int .i64 0] 23)) w.heap.size := ⟨0, 0, 0, heap_new0⟩
      go_wp2_with fail
      exact bodyPost_ret (results_rollbookref08_Of _ _ w.heap.size 0 0 0 5 rfl rfl (setRow_heap _ _ _ _ _ _ heap_new0)) rfl ⟨rfl, (((Kept.refl (fun _ => False) w).alloc _).setRow (fun h => by omega) _).below (Nat.le_refl _) (fun _ _ h => h)⟩

end Go.Proofs.YtcoijmggfkjcjaaDoor
namespace Go.Proofs.YtcoijmggfkjcjaaDoor
open Go.Shelf
set_option linter.unusedVariables false
def sh_laysM171_ren : Go.Shelf.Ren := ⟨fun | 171 => 62 | 243 => 76 | 246 => 92 | 283 => 109 | 284 => 110 | 285 => 111 | 286 => 112 | 129 => 122 | 317 => 121 | 318 => 123 | 319 => 124 | 320 => 125 | 337 => 126 | 338 => 127 | n => n, fun | 3 => 3 | 9 => 9 | 2 => 2 | 4 => 4 | 171 => 121 | 0 => 0 | 53 => 112 | 37 => 41 | 5 => 5 | 173 => 124 | 212 => 137 | 51 => 109 | 20 => 20 | 213 => 138 | 46 => 89 | 232 => 141 | 233 => 142 | n => n, fun | 17 => 2 | 18 => 3 | 19 => 4 | n => n⟩
theorem sh_laysM171 : Go.Proofs.LaysM.n171 Tryd.prog sh_laysM171_ren := {
  mixed := by kernel_rfl
  f129 := Tryd.func122.trans (congrArg some (by kernel_rfl))
  f171 := Tryd.func62.trans (congrArg some (by kernel_rfl))
  f243 := Tryd.func76.trans (congrArg some (by kernel_rfl))
  f246 := Tryd.func92.trans (congrArg some (by kernel_rfl))
  f283 := Tryd.func109.trans (congrArg some (by kernel_rfl))
  f284 := Tryd.func110.trans (congrArg some (by kernel_rfl))
  f285 := Tryd.func111.trans (congrArg some (by kernel_rfl))
  f286 := Tryd.func112.trans (congrArg some (by kernel_rfl))
  f317 := Tryd.func121.trans (congrArg some (by kernel_rfl))
  f318 := Tryd.func123.trans (congrArg some (by kernel_rfl))
  f319 := Tryd.func124.trans (congrArg some (by kernel_rfl))
  f320 := Tryd.func125.trans (congrArg some (by kernel_rfl))
  f337 := Tryd.func126.trans (congrArg some (by kernel_rfl))
  f338 := Tryd.func127.trans (congrArg some (by kernel_rfl))
  t0 := Tryd.underlying0
  a0 := Tryd.isAgg0
  z0 := Tryd.sizeOf0
  v0 := Tryd.zeroValue0
  t2 := Tryd.underlying2
  a2 := Tryd.isAgg2
  z2 := Tryd.sizeOf2
  v2 := Tryd.zeroValue2
  t3 := Tryd.underlying3
  a3 := Tryd.isAgg3
  z3 := Tryd.sizeOf3
  v3 := Tryd.zeroValue3
  t4 := Tryd.underlying4
  a4 := Tryd.isAgg4
  z4 := Tryd.sizeOf4
  v4 := Tryd.zeroValue4
  t5 := Tryd.underlying5
  a5 := Tryd.isAgg5
  z5 := Tryd.sizeOf5
  v5 := Tryd.zeroValue5
  t9 := Tryd.underlying9
  a9 := Tryd.isAgg9
  z9 := Tryd.sizeOf9
  v9 := Tryd.zeroValue9
  t20 := Tryd.underlying20
  a20 := Tryd.isAgg20
  z20 := Tryd.sizeOf20
  v20 := Tryd.zeroValue20
  t37 := Tryd.underlying41
  a37 := Tryd.isAgg41
  z37 := Tryd.sizeOf41
  v37 := Tryd.zeroValue41
  t46 := Tryd.underlying89
  a46 := Tryd.isAgg89
  z46 := Tryd.sizeOf89
  v46 := Tryd.zeroValue89
  t51 := Tryd.underlying109
  a51 := Tryd.isAgg109
  z51 := Tryd.sizeOf109
  v51 := Tryd.zeroValue109
  t53 := Tryd.underlying112
  a53 := Tryd.isAgg112
  z53 := Tryd.sizeOf112
  v53 := Tryd.zeroValue112
  t171 := Tryd.underlying121
  a171 := Tryd.isAgg121
  z171 := Tryd.sizeOf121
  v171 := Tryd.zeroValue121
  t173 := Tryd.underlying124
  a173 := Tryd.isAgg124
  z173 := Tryd.sizeOf124
  v173 := Tryd.zeroValue124
  t212 := Tryd.underlying137
  a212 := Tryd.isAgg137
  z212 := Tryd.sizeOf137
  v212 := Tryd.zeroValue137
  t213 := Tryd.underlying138
  a213 := Tryd.isAgg138
  z213 := Tryd.sizeOf138
  t232 := Tryd.underlying141
  a232 := Tryd.isAgg141
  z232 := Tryd.sizeOf141
  v232 := Tryd.zeroValue141
  t233 := Tryd.underlying142
  a233 := Tryd.isAgg142
  z233 := Tryd.sizeOf142
  v233 := Tryd.zeroValue142
  g17 := by kernel_rfl
  g18 := by kernel_rfl
  g19 := by kernel_rfl
  i0 := by kernel_rfl
  i2 := by kernel_rfl
  i3 := by kernel_rfl
  i4 := by kernel_rfl
  i5 := by kernel_rfl
  i9 := by kernel_rfl
  i20 := by kernel_rfl
  i37 := by kernel_rfl
  i46 := by kernel_rfl
  i51 := by kernel_rfl
  i53 := by kernel_rfl
  i171 := by kernel_rfl
  i173 := by kernel_rfl
  i212 := by kernel_rfl
  i232 := by kernel_rfl
  i233 := by kernel_rfl
  m17 := by kernel_rfl
  m18 := by kernel_rfl
  m19 := by kernel_rfl }
open Go.RowKit Go.Sort Go.Lib in
theorem sh_strconv_Itoa (n : Int) (h0 : -9223372036854775808 ≤ n) (h1 : n ≤ 9223372036854775807) (w : World) (htab : Lib.TabIs Tryd.prog w "internal/strconv.uint64pow10" .u64 Lib.pow10Tab) :
    Calls Tryd.prog 62 #[.int .i64 n] w fun e w' => e = .returned (.string ⟨(Lib.itoa n).toArray⟩) ∧ ∃ k os, w' = grow (w.drewN k) os := Any.strconv_Itoa sh_laysM171 n h0 h1 w htab
def sh_lays105_ren : Go.Shelf.Ren := ⟨fun | 105 => 63 | 212 => 77 | 99 => 78 | 165 => 79 | 166 => 80 | 170 => 81 | 169 => 82 | 263 => 93 | 264 => 94 | 206 => 95 | 240 => 96 | 241 => 97 | 276 => 113 | 277 => 114 | n => n, fun | 9 => 9 | 3 => 3 | 4 => 4 | 20 => 20 | 0 => 0 | 46 => 89 | 109 => 90 | 5 => 5 | 72 => 95 | 76 => 98 | 51 => 109 | 146 => 110 | 53 => 112 | 148 => 113 | 70 => 93 | 37 => 41 | 75 => 97 | 127 => 115 | 164 => 126 | 80 => 101 | n => n, fun | n => n⟩
theorem sh_lays105 : Go.Proofs.Lays.n105 Tryd.prog sh_lays105_ren := {
  mixed := by kernel_rfl
  f99 := Tryd.func78.trans (congrArg some (by kernel_rfl))
  f105 := Tryd.func63.trans (congrArg some (by kernel_rfl))
  f165 := Tryd.func79.trans (congrArg some (by kernel_rfl))
  f166 := Tryd.func80.trans (congrArg some (by kernel_rfl))
  f169 := Tryd.func82.trans (congrArg some (by kernel_rfl))
  f170 := Tryd.func81.trans (congrArg some (by kernel_rfl))
  f206 := Tryd.func95.trans (congrArg some (by kernel_rfl))
  f212 := Tryd.func77.trans (congrArg some (by kernel_rfl))
  f240 := Tryd.func96.trans (congrArg some (by kernel_rfl))
  f241 := Tryd.func97.trans (congrArg some (by kernel_rfl))
  f263 := Tryd.func93.trans (congrArg some (by kernel_rfl))
  f264 := Tryd.func94.trans (congrArg some (by kernel_rfl))
  f276 := Tryd.func113.trans (congrArg some (by kernel_rfl))
  f277 := Tryd.func114.trans (congrArg some (by kernel_rfl))
  t0 := Tryd.underlying0
  a0 := Tryd.isAgg0
  z0 := Tryd.sizeOf0
  v0 := Tryd.zeroValue0
  t3 := Tryd.underlying3
  a3 := Tryd.isAgg3
  z3 := Tryd.sizeOf3
  v3 := Tryd.zeroValue3
  t4 := Tryd.underlying4
  a4 := Tryd.isAgg4
  z4 := Tryd.sizeOf4
  v4 := Tryd.zeroValue4
  t5 := Tryd.underlying5
  a5 := Tryd.isAgg5
  z5 := Tryd.sizeOf5
  v5 := Tryd.zeroValue5
  t9 := Tryd.underlying9
  a9 := Tryd.isAgg9
  z9 := Tryd.sizeOf9
  v9 := Tryd.zeroValue9
  t20 := Tryd.underlying20
  a20 := Tryd.isAgg20
  z20 := Tryd.sizeOf20
  v20 := Tryd.zeroValue20
  t37 := Tryd.underlying41
  a37 := Tryd.isAgg41
  z37 := Tryd.sizeOf41
  v37 := Tryd.zeroValue41
  t46 := Tryd.underlying89
  a46 := Tryd.isAgg89
  z46 := Tryd.sizeOf89
  v46 := Tryd.zeroValue89
  t51 := Tryd.underlying109
  a51 := Tryd.isAgg109
  z51 := Tryd.sizeOf109
  v51 := Tryd.zeroValue109
  t53 := Tryd.underlying112
  a53 := Tryd.isAgg112
  z53 := Tryd.sizeOf112
  v53 := Tryd.zeroValue112
  t70 := Tryd.underlying93
  a70 := Tryd.isAgg93
  z70 := Tryd.sizeOf93
  v70 := Tryd.zeroValue93
  t72 := Tryd.underlying95
  a72 := Tryd.isAgg95
  z72 := Tryd.sizeOf95
  v72 := Tryd.zeroValue95
  t75 := Tryd.underlying97
  a75 := Tryd.isAgg97
  z75 := Tryd.sizeOf97
  v75 := Tryd.zeroValue97
  t76 := Tryd.underlying98
  a76 := Tryd.isAgg98
  z76 := Tryd.sizeOf98
  v76 := Tryd.zeroValue98
  t109 := Tryd.underlying90
  a109 := Tryd.isAgg90
  z109 := Tryd.sizeOf90
  v109 := Tryd.zeroValue90
  t127 := Tryd.underlying115
  a127 := Tryd.isAgg115
  z127 := Tryd.sizeOf115
  v127 := Tryd.zeroValue115
  t146 := Tryd.underlying110
  a146 := Tryd.isAgg110
  z146 := Tryd.sizeOf110
  v146 := Tryd.zeroValue110
  t148 := Tryd.underlying113
  a148 := Tryd.isAgg113
  z148 := Tryd.sizeOf113
  v148 := Tryd.zeroValue113
  t164 := Tryd.underlying126
  a164 := Tryd.isAgg126
  z164 := Tryd.sizeOf126
  v164 := Tryd.zeroValue126 }
theorem sh_Builder_Extra_105 : Builder.Extra Tryd.prog sh_lays105_ren := {
  sizeBuilder := by kernel_rfl
  liesBuilder := by kernel_rfl
  t5 := Tryd.underlying5
  a5 := Tryd.isAgg5
  z5 := Tryd.sizeOf5
  v5 := Tryd.zeroValue5
  infoByte := by kernel_rfl
  cellsByte := by kernel_rfl
  sizeByte := by kernel_rfl
  neB5 := by decide }
open Go.RowKit Go.Lib in
theorem sh_strings_Repeat (s : ByteArray) (c : Nat) (w : World) (hc : c ≤ 9223372036854775807) (hlen : s.size * c ≤ 140737488355328) :
    Calls Tryd.prog 63 #[.string s, .int .i64 c] w fun e w' => e = .returned (.string ⟨(Lib.repeatL s.data.toList c).toArray⟩) ∧ Below w.heap.size w w' := Any.strings_Repeat sh_lays105 sh_Builder_Extra_105 s c w hc hlen
end Go.Proofs.YtcoijmggfkjcjaaDoor
namespace Go.Proofs.YtcoijmggfkjcjaaDoor
open Go.RowKit
set_option linter.unusedSimpArgs false
set_option linter.unusedVariables false
theorem itoa_nat (n : Nat) : Lib.itoa (n : Int) = Lib.decDigits n := by
  unfold Lib.itoa
  rw [if_neg (by omega), Int.toNat_natCast]
theorem size_mk (l : List UInt8) : (⟨l.toArray⟩ : ByteArray).size = l.length := by simp [ByteArray.size]
theorem app_mk (a b : List UInt8) : (⟨a.toArray⟩ : ByteArray) ++ ⟨b.toArray⟩ = ⟨(a ++ b).toArray⟩ := by
  apply ByteArray.ext
  simp
set_option maxRecDepth 100000 in
set_option maxHeartbeats 1000000 in
theorem padded_gen (n k : Nat) (hn : n ≤ 1000000) (hk : k ≤ 100) (hl : (Lib.decDigits n).length ≤ k) (w : World) (hT : Tabs w) :
    Calls Tryd.prog 48 #[.int .i64 (n : Int), .int .i64 (k : Int)] w fun e w' => e = .returned (.string ⟨(Lib.repeatL [48] (k - (Lib.decDigits n).length) ++ Lib.decDigits n).toArray⟩) ∧ Below w.heap.size w w' := by
  have HI := Lib.hid (sh_strconv_Itoa n (by omega) (by omega) w hT.pow)
  rw [itoa_nat] at HI
  obtain ⟨l, hlL⟩ : ∃ l, l = Lib.decDigits n := ⟨_, rfl⟩
  rw [← hlL] at HI hl ⊢
  obtain ⟨s, hs⟩ : ∃ s : ByteArray, s = ⟨l.toArray⟩ := ⟨_, rfl⟩
  rw [← hs] at HI
  have hsz : s.size = l.length := by rw [hs, size_mk]
  obtain ⟨r, hr⟩ : ∃ r : ByteArray, r = ⟨(Lib.repeatL [48] (k - l.length)).toArray⟩ := ⟨_, rfl⟩
  have HREP : Hid (∀ u, Calls Tryd.prog 63 #[.string ⟨#[48]⟩, .int .i64 ((k : Int) - (s.size : Int))] u fun e w' => e = .returned (.string r) ∧ Below u.heap.size u w') := Lib.hid (fun u => by
    have h := sh_strings_Repeat ⟨#[48]⟩ (k - l.length) u (by omega) (by show 1 * _ ≤ _; omega)
    rw [show ((k - l.length : Nat) : Int) = (k : Int) - (s.size : Int) by omega] at h
    rw [hr]
    exact h)
  have hrs : r.size = k - s.size := by rw [hr, size_mk, Lib.repeatL_length, hsz]; simp
  have HF : Hid (r ++ s = ⟨(Lib.repeatL [48] (k - l.length) ++ l).toArray⟩) := Lib.hid (by rw [hr, hs, app_mk])
  have hsk : s.size ≤ k := by omega
  have hw1 : IntKind.i64.wrap ((k : Int) - (s.size : Int)) = (k : Int) - (s.size : Int) := i64_id _ (by omega) (by omega)
  have hrk : r.size ≤ 100 := by omega
  have hsk2 : s.size ≤ 100 := by omega
  have hadd : r.size + s.size ≤ 9223372036854775807 := by omega
  have hadd2 : (r ++ s).size ≤ 9223372036854775807 := by rw [ByteArray.size_append]; omega
  clear hr hs hlL hsz hrs hl hT hsk
  go_enter Tryd.func48, Tryd.ntmps48
  go_wp2_with (first
    | (go_at_call 62; refine HI.out.mono ?_; rintro e w1 ⟨rfl, q, os, hq⟩; have HB := Lib.hid (by rw [hq]; exact Lib.below_grow _ w (Nat.le_refl _) q os : Below w.heap.size w w1); clear hq)
    | (go_at_call 63; refine (HREP.out _).mono ?_; rintro e w2 ⟨rfl, hb⟩; have HB2 := Lib.hid hb; clear hb))
  go_ret
  rw [← HF.out]
  exact ⟨rfl, HB.out.trans (HB2.out.mono HB.out.size)⟩
def DGS : ByteArray := ⟨#[48, 49, 50, 51, 52, 53, 54, 55, 56, 57]⟩
theorem dgs_ext (d : Nat) (h : d ≤ 9) : DGS.extract d (d + 1) = ⟨#[dgt d]⟩ := by
  have : d = 0 ∨ d = 1 ∨ d = 2 ∨ d = 3 ∨ d = 4 ∨ d = 5 ∨ d = 6 ∨ d = 7 ∨ d = 8 ∨ d = 9 := by omega
  rcases this with rfl | rfl | rfl | rfl | rfl | rfl | rfl | rfl | rfl | rfl <;> rfl
/-- the digits of what is left of a number -/
def leftD (u : Nat) : List UInt8 := if u = 0 then [] else Lib.decDigits u
theorem leftD_step (u : Nat) (h : u ≠ 0) : leftD u = leftD (u / 10) ++ [dgt (u % 10)] := by
  unfold leftD
  rw [if_neg h]
  by_cases h1 : u < 10
  · rw [if_pos (by omega), dec1 u h1, Nat.mod_eq_of_lt h1]; rfl
  · rw [if_neg (by omega), decS u h1]
theorem dec_len (n : Nat) (h : n < 10000) : (Lib.decDigits n).length ≤ 4 := (pad4 n h).1
set_option maxRecDepth 100000 in
set_option maxHeartbeats 1000000 in
theorem decimal_any (n : Nat) (hn : n < 10000) (w : World) : Calls Tryd.prog 64 #[.int .i64 (n : Int)] w fun e w' => e = .returned (.string ⟨(Lib.decDigits n).toArray⟩) ∧ w = w' := by
  by_cases h0 : n = 0
  · subst h0
    have HD : Hid (Lib.decDigits 0 = [48]) := Lib.hid (by rw [dec1 0 (by omega)]; rfl)
    go_enter Tryd.func64, Tryd.ntmps64
    go_wp2
    go_ret
    rw [HD.out]
    exact ⟨rfl, rfl⟩
  · have hn0 : ¬ (n : Int) = 0 := by omega
    have hnn : ¬ (n : Int) < 0 := by omega
    have HD : Hid (Lib.decDigits n = leftD n) := Lib.hid (by unfold leftD; rw [if_neg h0])
    have hlen := dec_len n hn
    have HLN := Lib.hid hlen
    go_enter Tryd.func64, Tryd.ntmps64
    go_wp2
    go_loopw [4, 5] (fun s u wr => wr = w ∧ ∃ (k : Nat) (l : List UInt8), u = .int .i64 (k : Int) ∧ k < 10000 ∧ s = .string ⟨l.toArray⟩ ∧ Lib.decDigits n = leftD k ++ l) (fun _ u _ => (intOf u).toNat)
    case atStart => exact ⟨rfl, n, [], rfl, hn, rfl, by rw [HD.out]; simp⟩
    case round =>
      obtain ⟨rfl, k, l, rfl, hk, rfl, hl⟩ := hrel
      by_cases hk0 : k = 0
      · subst hk0
        have HX : Hid (Lib.decDigits n = l) := Lib.hid (by rw [hl]; rfl)
        clear hl
        go_wp2
        go_ret
        rw [HX.out]
        exact ⟨rfl, rfl⟩
      · have hk1 : ¬ (k : Int) = 0 := by omega
        obtain ⟨q, hq⟩ : ∃ q, q = k / 10 := ⟨_, rfl⟩
        obtain ⟨d, hd⟩ : ∃ d, d = k % 10 := ⟨_, rfl⟩
        have HX : Hid (Lib.decDigits n = leftD q ++ dgt d :: l) := Lib.hid (by rw [hl, leftD_step k hk0, hq, hd]; simp)
        have HB : Hid (l.length ≤ 4) := Lib.hid (by have := HLN.out; rw [hl] at this; simp at this; omega)
        have h2 : (k : Int) % 10 = (d : Int) := by omega
        have h4 : (k : Int) / 10 = (q : Int) := by omega
        have hd9 : d ≤ 9 := by omega
        have h5 : (d : Int) + 1 ≤ 10 := by omega
        have h6 : IntKind.i64.wrap ((d : Int) + 1) = (d : Int) + 1 := i64_id _ (by omega) (by omega)
        have h7 : ¬ (d : Int) < 0 := by omega
        have hq2 : q < k := by omega
        obtain ⟨s, hs⟩ : ∃ s : ByteArray, s = ⟨l.toArray⟩ := ⟨_, rfl⟩
        have hss : s.size ≤ 4 := by rw [hs, size_mk]; exact HB.out
        have HC : Hid ((⟨#[dgt d]⟩ : ByteArray) ++ s = ⟨(dgt d :: l).toArray⟩) := Lib.hid (by rw [hs]; exact app_mk [dgt d] l)
        have hx : (⟨#[48, 49, 50, 51, 52, 53, 54, 55, 56, 57]⟩ : ByteArray).extract d (d + 1) = ⟨#[dgt d]⟩ := dgs_ext d hd9
        have hz : (⟨#[dgt d]⟩ : ByteArray).size = 1 := rfl
        have HQ := Lib.hid hq
        rw [← hs]
        clear hl hq hd hs
        go_wp2
        go_roundw
        case rel => exact ⟨trivial, q, dgt d :: l, rfl, by omega, by rw [HC.out], HX.out⟩
        case measure => simp only [intOf]; omega
set_option maxRecDepth 100000 in
set_option maxHeartbeats 1000000 in
theorem refPadded_gen (n k : Nat) (hn : n < 10000) (hk : k ≤ 100) (hl : (Lib.decDigits n).length ≤ k) (w : World) :
    Calls Tryd.prog 49 #[.int .i64 (n : Int), .int .i64 (k : Int)] w fun e w' => e = .returned (.string ⟨(Lib.repeatL [48] (k - (Lib.decDigits n).length) ++ Lib.decDigits n).toArray⟩) ∧ w = w' := by
  have HI := Lib.hid (decimal_any n hn w)
  obtain ⟨l, hlL⟩ : ∃ l, l = Lib.decDigits n := ⟨_, rfl⟩
  rw [← hlL] at HI hl ⊢
  have HLL := Lib.hid hl
  clear hlL hl
  go_enter Tryd.func49, Tryd.ntmps49
  go_wp2_with (go_at_call 64; refine HI.out.mono ?_; rintro e w1 ⟨rfl, rfl⟩)
  go_loopw [5] (fun s wr => wr = w ∧ ∃ j : Nat, j + l.length ≤ k ∧ s = .string ⟨(Lib.repeatL [48] j ++ l).toArray⟩) (fun s _ => match s with | .string b => k - b.size | _ => 0)
  case atStart => exact ⟨rfl, 0, by have := HLL.out; omega, rfl⟩
  case round =>
    obtain ⟨rfl, j, hj, rfl⟩ := hrel
    obtain ⟨s, hs⟩ : ∃ s : ByteArray, s = ⟨(Lib.repeatL [48] j ++ l).toArray⟩ := ⟨_, rfl⟩
    have hsz : s.size = j + l.length := by rw [hs, size_mk, List.length_append, Lib.repeatL_length]; simp
    rw [← hs]
    by_cases hjk : j + l.length < k
    · have h1 : (s.size : Int) < (k : Int) := by omega
      have HC : Hid ((⟨#[48]⟩ : ByteArray) ++ s = ⟨(Lib.repeatL [48] (j + 1) ++ l).toArray⟩) := Lib.hid (by rw [hs]; exact app_mk [48] _)
      have HZ : Hid (((⟨#[48]⟩ : ByteArray) ++ s).size = s.size + 1) := Lib.hid (by rw [ByteArray.size_append, Nat.add_comm]; rfl)
      have hz : (⟨#[48]⟩ : ByteArray).size = 1 := rfl
      have hs100 : s.size ≤ 100 := by omega
      have HJ := Lib.hid hsz
      clear hs hsz
      go_wp2
      go_roundw
      case rel => exact ⟨trivial, j + 1, by omega, by rw [HC.out]⟩
      case measure => have := HZ.out; have := HJ.out; simp only [this]; omega
    · have h1 : ¬ (s.size : Int) < (k : Int) := by omega
      obtain rfl : j = k - l.length := by omega
      have HS := Lib.hid hs
      clear hs hsz
      go_wp2
      go_ret
      rw [HS.out]
      exact ⟨rfl, rfl⟩
end Go.Proofs.YtcoijmggfkjcjaaDoor

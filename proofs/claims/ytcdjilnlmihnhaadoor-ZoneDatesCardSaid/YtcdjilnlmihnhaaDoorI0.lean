/-
  Days of the Gregorian calendar, as mathematics: lengths, the day of a date, the date of a day.
-/
import Derived.Lib.ItoaNum
namespace Go.Proofs.YtcdjilnlmihnhaaDoor
set_option linter.unusedSimpArgs false
set_option linter.unusedVariables false
def leapB (y : Int) : Bool := (y % 4 == 0 && !(y % 100 == 0)) || y % 400 == 0
def lenD (y m : Int) : Int :=
  if m < 1 ∨ 12 < m then 0 else if m = 2 then (if leapB y then 29 else 28) else if m = 4 ∨ m = 6 ∨ m = 9 ∨ m = 11 then 30 else 31
def newY (y : Int) : Int := 365 * (y - 1) + (y - 1) / 4 - (y - 1) / 100 + (y - 1) / 400
/-- the days of the months before month m -/
def cumD (y : Int) : Nat → Int
  | 0 => 0
  | k + 1 => cumD y k + lenD y (k : Int)
def dayN (y m d : Int) : Int := newY y + d - 1 + cumD y m.toNat
def validD (y m d : Int) : Prop := 1 ≤ y ∧ y ≤ 9999 ∧ 1 ≤ d ∧ d ≤ lenD y m
instance (y m d : Int) : Decidable (validD y m d) := inferInstanceAs (Decidable (_ ∧ _ ∧ _ ∧ _))
theorem leap_iff (y : Int) : leapB y = true ↔ (y % 4 = 0 ∧ y % 100 ≠ 0) ∨ y % 400 = 0 := by simp [leapB]
theorem cum_eq (y : Int) (m : Nat) (h1 : 1 ≤ m) (h2 : m ≤ 13) :
    cumD y m = (if m = 1 then 0 else if m = 2 then 31 else if m = 3 then 59 else if m = 4 then 90 else if m = 5 then 120 else if m = 6 then 151 else if m = 7 then 181 else if m = 8 then 212 else if m = 9 then 243 else if m = 10 then 273 else if m = 11 then 304 else if m = 12 then 334 else 365) + (if 3 ≤ m ∧ leapB y = true then 1 else 0) := by
  have : m = 1 ∨ m = 2 ∨ m = 3 ∨ m = 4 ∨ m = 5 ∨ m = 6 ∨ m = 7 ∨ m = 8 ∨ m = 9 ∨ m = 10 ∨ m = 11 ∨ m = 12 ∨ m = 13 := by omega
  rcases this with rfl | rfl | rfl | rfl | rfl | rfl | rfl | rfl | rfl | rfl | rfl | rfl | rfl <;> (cases h : leapB y <;> simp [cumD, lenD, h])
theorem len_pos (y m : Int) (h1 : 1 ≤ m) (h2 : m ≤ 12) : 28 ≤ lenD y m ∧ lenD y m ≤ 31 := by
  unfold lenD
  rw [if_neg (by omega)]
  split
  · split <;> omega
  · split <;> omega
theorem len_bad (y m : Int) (h : m < 1 ∨ 12 < m) : lenD y m = 0 := by unfold lenD; rw [if_pos h]
theorem valid_m {y m d : Int} (h : validD y m d) : 1 ≤ m ∧ m ≤ 12 := by
  obtain ⟨_, _, h3, h4⟩ := h
  by_cases hm : m < 1 ∨ 12 < m
  · rw [len_bad y m hm] at h4; omega
  · omega
theorem cum_13 (y : Int) : cumD y 13 = 365 + (if leapB y = true then 1 else 0) := by
  rw [cum_eq y 13 (by omega) (by omega)]
  simp
theorem new_succ (y : Int) : newY (y + 1) = newY y + cumD y 13 := by
  rw [cum_13]
  unfold newY
  have : (if leapB y = true then (1 : Int) else 0) = y / 4 - (y - 1) / 4 - (y / 100 - (y - 1) / 100) + (y / 400 - (y - 1) / 400) := by
    by_cases h : leapB y = true
    · rw [if_pos h]; rw [leap_iff] at h; omega
    · rw [if_neg h]; rw [leap_iff] at h; omega
  rw [this]
  have e : y + 1 - 1 = y := by omega
  rw [e]
  omega
theorem cum_mono (y : Int) : ∀ (a k : Nat), cumD y a ≤ cumD y (a + k)
  | a, 0 => Int.le_refl _
  | a, k + 1 => by
    have h := cum_mono y a k
    have h2 : 0 ≤ lenD y ((a + k : Nat) : Int) := by
      by_cases hb : ((a + k : Nat) : Int) < 1 ∨ 12 < ((a + k : Nat) : Int)
      · rw [len_bad y _ hb]; omega
      · have := (len_pos y ((a + k : Nat) : Int) (by omega) (by omega)).1; omega
    show cumD y a ≤ cumD y (a + k) + lenD y ((a + k : Nat) : Int)
    omega
theorem cum_le (y : Int) {a b : Nat} (h : a ≤ b) : cumD y a ≤ cumD y b := by
  obtain ⟨k, rfl⟩ := Nat.exists_eq_add_of_le h
  exact cum_mono y a k
theorem new_lt (y : Int) : ∀ k : Nat, newY y + 365 * (k : Int) ≤ newY (y + k)
  | 0 => by simp
  | k + 1 => by
    have h := new_lt y k
    have h2 := new_succ (y + k)
    have h3 := cum_13 (y + k)
    have e : y + ((k + 1 : Nat) : Int) = y + k + 1 := by omega
    rw [e, h2, h3]
    split <;> omega
theorem new_le {a b : Int} (h : a ≤ b) : newY a + 365 * (b - a) ≤ newY b := by
  have := new_lt a (b - a).toNat
  have e : ((b - a).toNat : Int) = b - a := by omega
  rw [e] at this
  have e2 : a + (b - a) = b := by omega
  rwa [e2] at this
/-- what a valid date's day is between -/
theorem day_in {y m d : Int} (h : validD y m d) : newY y + cumD y m.toNat ≤ dayN y m d ∧ dayN y m d < newY y + cumD y (m.toNat + 1) ∧ cumD y (m.toNat + 1) ≤ cumD y 13 ∧ 0 ≤ cumD y m.toNat := by
  obtain ⟨hm1, hm2⟩ := valid_m h
  obtain ⟨h1, h2, h3, h4⟩ := h
  have e : cumD y (m.toNat + 1) = cumD y m.toNat + lenD y m := by
    show cumD y m.toNat + lenD y (m.toNat : Int) = _
    rw [show (m.toNat : Int) = m by omega]
  have h5 := cum_le y (show m.toNat + 1 ≤ 13 by omega)
  have h6 := cum_le y (show 0 ≤ m.toNat by omega)
  have h7 : cumD y 0 = 0 := rfl
  unfold dayN
  omega
theorem day_rng {y m d : Int} (h : validD y m d) : 0 ≤ dayN y m d ∧ dayN y m d ≤ 3652058 := by
  have h1 := day_in h
  have h2 := new_le (show (1 : Int) ≤ y from h.1)
  have h3 := new_succ y
  have h4 := new_le (show y + 1 ≤ 10000 by have := h.2.1; omega)
  have e1 : newY 1 = 0 := by decide
  have e2 : newY 10000 = 3652059 := by decide
  have := h.1
  have := h.2.1
  omega
/-- a date is determined by its day -/
theorem day_inj {y m d y' m' d' : Int} (h : validD y m d) (h' : validD y' m' d') (he : dayN y m d = dayN y' m' d') : y = y' ∧ m = m' ∧ d = d' := by
  have a := day_in h
  have b := day_in h'
  have hm := valid_m h
  have hm' := valid_m h'
  have ey : y = y' := by
    rcases Int.lt_trichotomy y y' with hl | rfl | hl
    · have h1 := new_le (show y + 1 ≤ y' by omega)
      have h2 := new_succ y
      omega
    · rfl
    · have h1 := new_le (show y' + 1 ≤ y by omega)
      have h2 := new_succ y'
      omega
  subst ey
  have em : m = m' := by
    rcases Int.lt_trichotomy m m' with hl | rfl | hl
    · have := cum_le y (show m.toNat + 1 ≤ m'.toNat by omega)
      omega
    · rfl
    · have := cum_le y (show m'.toNat + 1 ≤ m.toNat by omega)
      omega
  subst em
  refine ⟨rfl, rfl, ?_⟩
  unfold dayN at he
  omega
/-- the year of a day -/
def yearN (n : Int) : Int := if newY (1 + n * 400 / 146097 + 1) ≤ n then 1 + n * 400 / 146097 + 1 else 1 + n * 400 / 146097
theorem frac_fin : ∀ b : Fin 400, (((b.val / 4 : Nat) : Int) - ((b.val / 100 : Nat) : Int)) * 400 ≤ 97 * (b.val : Int) + 399 ∧ 97 * (b.val : Int) - 799 ≤ (((b.val / 4 : Nat) : Int) - ((b.val / 100 : Nat) : Int)) * 400 := by decide +kernel
theorem new_near (p : Int) (hp : 0 ≤ p) : 400 * newY (p + 1) ≤ 146097 * p + 399 ∧ 146097 * p - 799 ≤ 400 * newY (p + 1) := by
  have hb : (p % 400).toNat < 400 := by omega
  have h := frac_fin ⟨(p % 400).toNat, hb⟩
  simp only at h
  unfold newY
  have e : p + 1 - 1 = p := by omega
  rw [e]
  have e1 : p / 4 = 100 * (p / 400) + (p % 400) / 4 := by omega
  have e2 : p / 100 = 4 * (p / 400) + (p % 400) / 100 := by omega
  have e3 : (((p % 400).toNat / 4 : Nat) : Int) = (p % 400) / 4 := by omega
  have e4 : (((p % 400).toNat / 100 : Nat) : Int) = (p % 400) / 100 := by omega
  have e5 : (((p % 400).toNat : Nat) : Int) = p % 400 := by omega
  rw [e3, e4, e5] at h
  have e6 : p = 400 * (p / 400) + p % 400 := by omega
  rw [e1, e2]
  generalize p / 400 = q at *
  generalize (p % 400) / 4 = a at *
  generalize (p % 400) / 100 = b at *
  generalize p % 400 = r at *
  omega
theorem year_ok (n : Int) (h0 : 0 ≤ n) : newY (yearN n) ≤ n ∧ n < newY (yearN n + 1) ∧ 1 ≤ yearN n := by
  obtain ⟨p, hp⟩ : ∃ p, p = n * 400 / 146097 := ⟨_, rfl⟩
  have hp0 : 0 ≤ p := by omega
  have h1 : 146097 * p ≤ n * 400 := by omega
  have h2 : n * 400 < 146097 * (p + 1) := by omega
  have a := new_near p hp0
  have b := new_near (p + 1) (by omega)
  have c := new_le (show p + 1 + 1 ≤ p + 1 + 1 + 1 by omega)
  unfold yearN
  rw [← hp]
  have e : 1 + p + 1 = p + 1 + 1 := by omega
  have e2 : 1 + p = p + 1 := by omega
  rw [e, e2]
  split
  · omega
  · omega
theorem year_le (n : Int) (h0 : 0 ≤ n) (h1 : n ≤ 3652058) : yearN n ≤ 9999 := by
  have h := year_ok n h0
  rcases Int.lt_or_le 9999 (yearN n) with hl | hl
  · have h2 := new_le (show (10000 : Int) ≤ yearN n by omega)
    have e2 : newY 10000 = 3652059 := by decide
    omega
  · exact hl
def monF (y rest : Int) : Nat → Nat → Nat
  | 0, m => m
  | k + 1, m => if rest < cumD y (m + 1) then m else monF y rest k (m + 1)
def monN (y rest : Int) : Nat := monF y rest 11 1
theorem monF_ok (y rest : Int) : ∀ (k m : Nat), cumD y m ≤ rest → rest < cumD y (m + k + 1) → m ≤ monF y rest k m ∧ monF y rest k m ≤ m + k ∧ cumD y (monF y rest k m) ≤ rest ∧ rest < cumD y (monF y rest k m + 1)
  | 0, m, h1, h2 => ⟨Nat.le_refl _, Nat.le_refl _, h1, h2⟩
  | k + 1, m, h1, h2 => by
    unfold monF
    by_cases h : rest < cumD y (m + 1)
    · rw [if_pos h]; exact ⟨Nat.le_refl _, by omega, h1, h⟩
    · rw [if_neg h]
      have := monF_ok y rest k (m + 1) (by omega) (by rw [show m + 1 + k + 1 = m + (k + 1) + 1 by omega]; exact h2)
      omega
theorem mon_ok (y rest : Int) (h0 : 0 ≤ rest) (h1 : rest < cumD y 13) : 1 ≤ monN y rest ∧ monN y rest ≤ 12 ∧ cumD y (monN y rest) ≤ rest ∧ rest < cumD y (monN y rest + 1) := by
  have e : cumD y 1 = 0 := by rw [cum_eq y 1 (by omega) (by omega)]; simp
  have := monF_ok y rest 11 1 (by rw [e]; exact h0) h1
  exact ⟨this.1, this.2.1, this.2.2⟩
/-- the month, and the day of the month, of a day -/
def monthN (n : Int) : Int := (monN (yearN n) (n - newY (yearN n)) : Int)
def mdayN (n : Int) : Int := n - newY (yearN n) - cumD (yearN n) (monN (yearN n) (n - newY (yearN n))) + 1
theorem of_ok (n : Int) (h0 : 0 ≤ n) (h1 : n ≤ 3652058) : validD (yearN n) (monthN n) (mdayN n) ∧ dayN (yearN n) (monthN n) (mdayN n) = n := by
  have hy := year_ok n h0
  have hy2 := year_le n h0 h1
  have hs := new_succ (yearN n)
  have hm := mon_ok (yearN n) (n - newY (yearN n)) (by omega) (by omega)
  have e : cumD (yearN n) (monN (yearN n) (n - newY (yearN n)) + 1) = cumD (yearN n) (monN (yearN n) (n - newY (yearN n))) + lenD (yearN n) (monthN n) := rfl
  refine ⟨⟨hy.2.2, hy2, ?_, ?_⟩, ?_⟩
  · unfold mdayN; omega
  · unfold mdayN; omega
  · unfold dayN mdayN monthN
    rw [Int.toNat_natCast]
    omega
theorem of_day {y m d : Int} (h : validD y m d) : yearN (dayN y m d) = y ∧ monthN (dayN y m d) = m ∧ mdayN (dayN y m d) = d := by
  have hr := day_rng h
  have ho := of_ok (dayN y m d) hr.1 hr.2
  exact day_inj ho.1 h ho.2
end Go.Proofs.YtcdjilnlmihnhaaDoor

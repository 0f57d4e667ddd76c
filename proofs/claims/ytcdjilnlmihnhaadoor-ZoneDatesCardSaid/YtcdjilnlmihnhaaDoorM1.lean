/-
  The mathematics of the encoding: groups of seven bits, written and read.
-/
import GoSem.Claim
namespace Go.Proofs.YtcdjilnlmihnhaaDoor
/-- the groups of 7 bits of an unsigned number -/
def encU (n : Nat) : List UInt8 := if h : n < 128 then [UInt8.ofNat n] else UInt8.ofNat (128 + n % 128) :: encU (n / 128)
termination_by n
decreasing_by omega
theorem encU_small {n : Nat} (h : n < 128) : encU n = [UInt8.ofNat n] := by rw [encU, dif_pos h]
theorem encU_big {n : Nat} (h : ¬ n < 128) : encU n = UInt8.ofNat (128 + n % 128) :: encU (n / 128) := by rw [encU, dif_neg h]
theorem encU_len_pos (n : Nat) : 0 < (encU n).length := by
  by_cases h : n < 128
  · rw [encU_small h]; simp
  · rw [encU_big h]; simp
theorem encU_len (i : Nat) : ∀ n : Nat, n < 128 ^ (i + 1) → (encU n).length ≤ i + 1 := by
  induction i with
  | zero => intro n h; rw [encU_small (by simpa using h)]; simp
  | succ i ih =>
    intro n h
    by_cases hn : n < 128
    · rw [encU_small hn]; simp
    · rw [encU_big hn, List.length_cons]
      have := ih (n / 128) (by rw [Nat.div_lt_iff_lt_mul (by omega)]; rw [Nat.pow_succ] at h; exact h)
      omega
theorem encU_len10 (n : Nat) (h : n < 18446744073709551616) : (encU n).length ≤ 10 := encU_len 9 n (Nat.lt_of_lt_of_le h (by decide))
/-- what reading a number from some bytes gives, i groups having been read with the value acc: the value, the size, the error -/
def fnum : List UInt8 → Nat → Nat → Nat × Nat × Nat
  | [], _, _ => (0, 0, 6)
  | b :: r, i, acc =>
    if i = 9 ∧ 1 < b.toNat then (0, 0, 7)
    else if 128 ≤ b.toNat then fnum r (i + 1) (acc + b.toNat % 128 * 128 ^ i)
    else if b.toNat = 0 ∧ 0 < i then (0, 0, 7)
    else (acc + b.toNat % 128 * 128 ^ i, i + 1, 0)
theorem toNat_ofNat (n : Nat) (h : n < 256) : (UInt8.ofNat n).toNat = n := by simp; omega
theorem pow_le_pow128 {i j : Nat} (h : i ≤ j) : 128 ^ i ≤ 128 ^ j := Nat.pow_le_pow_right (by omega) h
theorem pow9 : 128 ^ 9 = 9223372036854775808 := by decide
theorem fnum_enc : ∀ (n : Nat) (r : List UInt8) (i acc : Nat), n * 128 ^ i < 18446744073709551616 → (0 < i → 0 < n) → i ≤ 9 → fnum (encU n ++ r) i acc = (acc + n * 128 ^ i, i + (encU n).length, 0) := by
  intro n
  induction n using Nat.strongRecOn with
  | _ n ih =>
    intro r i acc hb hp hi
    by_cases hn : n < 128
    · rw [encU_small hn, List.singleton_append, fnum, toNat_ofNat n (by omega)]
      have h1 : ¬ (i = 9 ∧ 1 < n) := by
        rintro ⟨rfl, h⟩
        rw [pow9] at hb
        omega
      rw [if_neg h1, if_neg (by omega), if_neg (by omega), Nat.mod_eq_of_lt hn]
      rfl
    · rw [encU_big hn, List.cons_append, fnum, toNat_ofNat _ (by omega)]
      have h1 : ¬ (i = 9 ∧ 1 < 128 + n % 128) := by
        rintro ⟨rfl, h⟩
        rw [pow9] at hb
        omega
      have e : n / 128 * 128 ^ (i + 1) + n % 128 * 128 ^ i = n * 128 ^ i := by
        rw [Nat.pow_succ, ← Nat.mul_assoc, Nat.mul_right_comm, ← Nat.add_mul, Nat.div_add_mod']
      have hi2 : i + 1 ≤ 9 := by
        rcases Nat.lt_or_ge i 9 with h | h
        · exact h
        · exfalso
          have := pow_le_pow128 h
          rw [pow9] at this
          have : 128 * 9223372036854775808 ≤ n * 128 ^ i := Nat.mul_le_mul (by omega) this
          omega
      have h2 : (128 + n % 128) % 128 = n % 128 := by omega
      rw [if_neg h1, if_pos (by omega), h2, ih (n / 128) (by omega) r (i + 1) _ (by omega) (fun _ => by omega) hi2]
      rw [List.length_cons, Nat.add_assoc acc, Nat.add_comm (n % 128 * 128 ^ i), e, Nat.add_right_comm i, Nat.add_assoc i]
/-- what is read without an error is an encoding -/
theorem fnum_ok : ∀ (l : List UInt8) (i acc v k : Nat), fnum l i acc = (v, k, 0) → i ≤ 9 → ∃ n r, l = encU n ++ r ∧ v = acc + n * 128 ^ i ∧ k = i + (encU n).length ∧ n * 128 ^ i < 18446744073709551616 ∧ (0 < i → 0 < n) := by
  intro l
  induction l with
  | nil => intro i acc v k h; simp [fnum] at h
  | cons b r ih =>
    intro i acc v k h hi
    rw [fnum] at h
    have hb := b.toNat_lt
    by_cases h1 : i = 9 ∧ 1 < b.toNat
    · rw [if_pos h1] at h; simp at h
    rw [if_neg h1] at h
    by_cases h2 : 128 ≤ b.toNat
    · rw [if_pos h2] at h
      have hi2 : i + 1 ≤ 9 := by omega
      obtain ⟨n, r', rfl, rfl, rfl, hn, hp⟩ := ih (i + 1) _ v k h hi2
      have hp' := hp (by omega)
      have e : (b.toNat % 128 + n * 128) * 128 ^ i = b.toNat % 128 * 128 ^ i + n * 128 ^ (i + 1) := by
        rw [Nat.add_mul, Nat.pow_succ, Nat.mul_assoc, Nat.mul_comm 128]
      refine ⟨b.toNat % 128 + n * 128, r', ?_, ?_, ?_, ?_, fun _ => by omega⟩
      · rw [encU_big (n := b.toNat % 128 + n * 128) (by omega), show (b.toNat % 128 + n * 128) / 128 = n by omega, show 128 + (b.toNat % 128 + n * 128) % 128 = b.toNat by omega]
        simp
      · rw [e, Nat.add_assoc]
      · rw [encU_big (n := b.toNat % 128 + n * 128) (by omega), show (b.toNat % 128 + n * 128) / 128 = n by omega, List.length_cons]
        omega
      · have hm : b.toNat % 128 * 128 ^ i < 128 ^ (i + 1) := by
          rw [Nat.pow_succ, Nat.mul_comm (128 ^ i)]
          exact Nat.mul_lt_mul_of_pos_right (by omega) (Nat.pow_pos (by omega))
        rw [e]
        have hd : (18446744073709551616 : Nat) = 2 ^ (64 - 7 * (i + 1)) * 128 ^ (i + 1) := by
          rw [show (128 : Nat) = 2 ^ 7 by rfl, ← Nat.pow_mul, ← Nat.pow_add, show 64 - 7 * (i + 1) + 7 * (i + 1) = 64 by omega]
        rw [hd] at hn ⊢
        have hn2 := Nat.lt_of_mul_lt_mul_right hn
        calc  b.toNat % 128 * 128 ^ i + n * 128 ^ (i + 1) < 128 ^ (i + 1) + n * 128 ^ (i + 1) := by omega
          _ = (n + 1) * 128 ^ (i + 1) := by rw [Nat.add_mul, Nat.one_mul, Nat.add_comm]
          _ ≤ 2 ^ (64 - 7 * (i + 1)) * 128 ^ (i + 1) := Nat.mul_le_mul_right _ hn2
    · rw [if_neg h2] at h
      by_cases h3 : b.toNat = 0 ∧ 0 < i
      · rw [if_pos h3] at h; simp at h
      rw [if_neg h3] at h
      simp only [Prod.mk.injEq, and_true] at h
      obtain ⟨rfl, rfl⟩ := h
      refine ⟨b.toNat, r, ?_, ?_, ?_, ?_, fun _ => by omega⟩
      · rw [encU_small (by omega)]; simp
      · rw [Nat.mod_eq_of_lt (by omega)]
      · rw [encU_small (by omega)]; rfl
      · rcases Nat.lt_or_ge i 9 with h | h
        · have h8 : 128 ^ i ≤ 128 ^ 8 := pow_le_pow128 (by omega)
          have : b.toNat * 128 ^ i ≤ 127 * 128 ^ 8 := Nat.mul_le_mul (by omega) h8
          have e8 : (127 : Nat) * 128 ^ 8 < 18446744073709551616 := by decide
          omega
        · obtain rfl : i = 9 := by omega
          rw [pow9]
          omega
/-- of a proper prefix of an encoding nothing is read -/
theorem fnum_cut : ∀ (n : Nat) (p : List UInt8) (i acc : Nat), n * 128 ^ i < 18446744073709551616 → i ≤ 9 → (∃ q, q ≠ [] ∧ encU n = p ++ q) → fnum p i acc = (0, 0, 6) := by
  intro n
  induction n using Nat.strongRecOn with
  | _ n ih =>
    intro p i acc hb hi hq
    obtain ⟨q, hq, he⟩ := hq
    cases p with
    | nil => rfl
    | cons x p =>
      by_cases hn : n < 128
      · rw [encU_small hn] at he
        simp at he
        exact (hq he.2.2).elim
      · rw [encU_big hn] at he
        simp only [List.cons_append, List.cons.injEq] at he
        obtain ⟨rfl, he⟩ := he
        have hi2 : i + 1 ≤ 9 := by
          rcases Nat.lt_or_ge i 9 with h | h
          · exact h
          · exfalso
            have := pow_le_pow128 h
            rw [pow9] at this
            have : 128 * 9223372036854775808 ≤ n * 128 ^ i := Nat.mul_le_mul (by omega) this
            omega
        have e : n / 128 * 128 ^ (i + 1) ≤ n * 128 ^ i := by
          rw [Nat.pow_succ, ← Nat.mul_assoc, Nat.mul_right_comm]
          exact Nat.mul_le_mul_right _ (by omega)
        rw [fnum, toNat_ofNat _ (by omega), if_neg (by omega), if_pos (by omega)]
        exact ih (n / 128) (by omega) p (i + 1) _ (by omega) hi2 ⟨q, hq, he⟩
theorem fnum_err (l : List UInt8) : ∀ i acc : Nat, (fnum l i acc).2.2 = 0 ∨ (fnum l i acc = (0, 0, 6)) ∨ fnum l i acc = (0, 0, 7) := by
  induction l with
  | nil => intro i acc; exact .inr (.inl rfl)
  | cons b r ih =>
    intro i acc
    rw [fnum]
    split
    · exact .inr (.inr rfl)
    · split
      · exact ih _ _
      · split
        · exact .inr (.inr rfl)
        · exact .inl rfl
/-- the number for which an unsigned number stands, and back -/
def zig (n : Int) : Nat := if n < 0 then (2 * (-(n + 1)) + 1).toNat else (2 * n).toNat
def zag (u : Nat) : Int := if u % 2 = 0 then ((u / 2 : Nat) : Int) else -((u / 2 : Nat) : Int) - 1
theorem zag_zig (n : Int) : zag (zig n) = n := by unfold zag zig; split <;> split <;> omega
theorem zig_zag (u : Nat) : zig (zag u) = u := by unfold zag zig; split <;> split <;> omega
theorem zig_lt (n : Int) (h1 : -9223372036854775808 ≤ n) (h2 : n ≤ 9223372036854775807) : zig n < 18446744073709551616 := by unfold zig; split <;> omega
theorem zag_bd (u : Nat) (h : u < 18446744073709551616) : -9223372036854775808 ≤ zag u ∧ zag u ≤ 9223372036854775807 := by unfold zag; split <;> omega
def encI (n : Int) : List UInt8 := encU (zig n)
def encB (b : Bool) : List UInt8 := if b then [1] else [0]
def encT (s : List UInt8) : List UInt8 := encU s.length ++ s
def encL (l : List Int) : List UInt8 := encU l.length ++ l.flatMap encI
end Go.Proofs.YtcdjilnlmihnhaaDoor

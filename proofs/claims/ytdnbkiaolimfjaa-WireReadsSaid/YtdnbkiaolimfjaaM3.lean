/-
  Reading what was written.
-/
import Derived.Test.YtdnbkiaolimfjaaB3
namespace Go.Proofs.Ytdnbkiaolimfjaa
theorem rUint_enc (n : Nat) (r : List UInt8) (h : n < 18446744073709551616) : rUint ⟨encU n ++ r, 0⟩ = (n, ⟨r, 0⟩) := by
  rw [rUint_ok _ rfl]
  have := fnum_enc n r 0 0 (by simpa using h) (by omega) (by omega)
  simp only [this, Nat.zero_add, Nat.pow_zero, Nat.mul_one, List.drop_left]
theorem rInt_enc (n : Int) (r : List UInt8) (h1 : -9223372036854775808 ≤ n) (h2 : n ≤ 9223372036854775807) : rInt ⟨encI n ++ r, 0⟩ = (n, ⟨r, 0⟩) := by
  unfold rInt encI
  rw [rUint_enc _ _ (zig_lt n h1 h2)]
  simp only [zag_zig]
theorem rBool_enc (b : Bool) (r : List UInt8) : rBool ⟨encB b ++ r, 0⟩ = (b, ⟨r, 0⟩) := by cases b <;> rfl
theorem rLen_enc (n : Nat) (r : List UInt8) (most : Int) (h : n < 18446744073709551616) (hm : (n : Int) ≤ most) : rLen ⟨encU n ++ r, 0⟩ most = (n, ⟨r, 0⟩) := by
  unfold rLen
  rw [rUint_enc n r h, if_neg (by simp only; omega)]
theorem rText_enc (s r : List UInt8) (most : Int) (h : s.length < 18446744073709551616) (hm : (s.length : Int) ≤ most) : rText ⟨encT s ++ r, 0⟩ most = (s, ⟨r, 0⟩) := by
  unfold rText encT
  rw [List.append_assoc, rLen_enc _ _ most h hm, if_neg (by simp only [List.length_append]; omega)]
  simp only [List.take_left, List.drop_left]
theorem rIntsGo_enc (l : List Int) : ∀ (acc : List Int) (r : List UInt8), Ok64 l → rIntsGo l.length acc ⟨l.flatMap encI ++ r, 0⟩ = (acc ++ l, ⟨r, 0⟩) := by
  induction l with
  | nil => intro acc r _; simp [rIntsGo]
  | cons x t ih =>
    intro acc r h
    have hx := h x (by simp)
    have ht : Ok64 t := fun y hy => h y (by simp [hy])
    rw [List.flatMap_cons, List.length_cons, rIntsGo, List.append_assoc, rInt_enc x _ hx.1 hx.2, if_pos rfl, ih _ _ ht]
    simp
theorem rInts_enc (l : List Int) (r : List UInt8) (most : Int) (h : Ok64 l) (hl : l.length < 18446744073709551616) (hm : (l.length : Int) ≤ most) : rInts ⟨encL l ++ r, 0⟩ most = (l, ⟨r, 0⟩) := by
  unfold rInts encL
  rw [List.append_assoc, rLen_enc _ _ most hl hm]
  simpa using rIntsGo_enc l [] r h
/-- a Value's fields lie in their types' bounds; its string and its list are no longer than most -/
structure PFits (p : PV) (most : Nat) : Prop where
  u : p.u < 18446744073709551616
  n1 : -9223372036854775808 ≤ p.n
  n2 : p.n ≤ 9223372036854775807
  s : p.s.length ≤ most
  l : p.l.length ≤ most
  l64 : Ok64 p.l
/-- the field that a kind has, alone -/
def strip (k : Nat) (p : PV) : PV := if k % 5 = 0 then ⟨p.u, 0, false, [], []⟩ else if k % 5 = 1 then ⟨0, p.n, false, [], []⟩ else if k % 5 = 2 then ⟨0, 0, p.b, [], []⟩ else if k % 5 = 3 then ⟨0, 0, false, p.s, []⟩ else ⟨0, 0, false, [], p.l⟩
theorem psame_strip (k : Nat) (p : PV) : psame k p (strip k p) = true := by
  unfold psame strip
  by_cases h0 : k % 5 = 0
  · simp [h0]
  · by_cases h1 : k % 5 = 1
    · simp [h1]
    · by_cases h2 : k % 5 = 2
      · simp [h2]
      · by_cases h3 : k % 5 = 3
        · simp [h3]
        · simp [h0, h1, h2, h3]
theorem rVal_enc (k : Nat) (p : PV) (r : List UInt8) (most : Nat) (h : PFits p most) (hm : most ≤ 1000000) : rVal k ⟨encP k p ++ r, 0⟩ most = (strip k p, ⟨r, 0⟩) := by
  have hs := h.s
  have hl := h.l
  unfold rVal encP strip
  by_cases h0 : k % 5 = 0
  · simp only [if_pos h0, rUint_enc p.u r h.u]
  · by_cases h1 : k % 5 = 1
    · simp only [if_neg h0, if_pos h1, rInt_enc p.n r h.n1 h.n2]
    · by_cases h2 : k % 5 = 2
      · simp only [if_neg h0, if_neg h1, if_pos h2, rBool_enc p.b r]
      · by_cases h3 : k % 5 = 3
        · simp only [if_neg h0, if_neg h1, if_neg h2, if_pos h3, rText_enc p.s r most (by omega) (by omega)]
        · simp only [if_neg h0, if_neg h1, if_neg h2, if_neg h3, rInts_enc p.l r most h.l64 (by omega) (by omega)]
/-- what few leaves fits -/
theorem cut_fits {D : Nat → Prop} {w : Go.World} {m : VM} (h : VOk D w m) {x : Nat × PV} (hx : m.kp = cutkp x) : PFits m.pv 20 ∧ VShort m := by
  have hp : m.pv = x.2.cut := congrArg Prod.snd hx
  have hs : m.s.data.toList = x.2.s.take 20 := congrArg PV.s hp
  have hl : m.l = x.2.l.take 20 := congrArg PV.l hp
  have e1 : m.s.data.toList.length ≤ 20 := by rw [hs, List.length_take]; omega
  have e2 : m.l.length ≤ 20 := by rw [hl, List.length_take]; omega
  have e3 : m.s.size = m.s.data.toList.length := by rw [Array.length_toList]; rfl
  have e4 := h.l.1
  exact ⟨⟨h.u, h.n1, h.n2, e1, e2, h.l64⟩, by omega, by omega⟩
end Go.Proofs.Ytdnbkiaolimfjaa

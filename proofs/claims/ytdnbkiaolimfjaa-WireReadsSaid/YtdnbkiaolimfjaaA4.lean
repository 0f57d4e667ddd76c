/-
  A Value of the laws in memory; write; Done.
-/
import Derived.Test.YtdnbkiaolimfjaaA3
namespace Go.Proofs.Ytdnbkiaolimfjaa
open Go.RowKit
set_option linter.unusedSimpArgs false
set_option linter.unusedVariables false
/-- a Value: its fields; of the list where it lies and what it reads as -/
structure VM where
  k : Nat
  u : Nat
  n : Int
  b : Bool
  s : ByteArray
  a : Option Addr
  ln : Nat
  c : Nat
  l : List Int
def VM.cells (m : VM) : List Value := [.int .u8 (m.k : Int), .int .u64 (m.u : Int), .int .i64 m.n, .bool m.b, .string m.s, .slice m.a m.ln m.c]
def VM.val (m : VM) : Value := .agg #[.int .u8 (m.k : Int), .int .u64 (m.u : Int), .int .i64 m.n, .bool m.b, .string m.s, .slice m.a m.ln m.c]
structure VOk (D : Nat → Prop) (w : World) (m : VM) : Prop where
  k : m.k < 256
  u : m.u < 18446744073709551616
  n1 : -9223372036854775808 ≤ m.n
  n2 : m.n ≤ 9223372036854775807
  s : m.s.size ≤ 9223372036854775807
  l : Is D w m.a m.ln m.c m.l
  l64 : Ok64 m.l
/-- short strings and lists -/
def VShort (m : VM) : Prop := m.s.size ≤ 1000000 ∧ m.ln ≤ 1000000
/-- the encoding of a Value -/
def encV (m : VM) : List UInt8 := if m.k % 5 = 0 then encU m.u else if m.k % 5 = 1 then encI m.n else if m.k % 5 = 2 then encB m.b else if m.k % 5 = 3 then encT m.s.data.toList else encL m.l
theorem VOk.kept {D S : Nat → Prop} {w w' : World} {m : VM} (h : VOk D w m) (hk : Kept S w w') (hd : ∀ b, b < w.heap.size → D b → ¬ S b) : VOk D w' m := ⟨h.k, h.u, h.n1, h.n2, h.s, h.l.kept hk hd, h.l64⟩
theorem VOk.dom {D D' : Nat → Prop} {w : World} {m : VM} (h : VOk D w m) (hd : ∀ b, D b → D' b) : VOk D' w m := ⟨h.k, h.u, h.n1, h.n2, h.s, h.l.dom hd, h.l64⟩
theorem kind_of (k : Nat) : ((k : Int) % 5 == 0) = decide (k % 5 = 0) := by
  rw [Bool.eq_iff_iff]; simp; omega
set_option maxRecDepth 100000 in
set_option maxHeartbeats 800000 in
theorem write_any (g : Nat) (k : Option Nat) (l : List UInt8) (D : Nat → Prop) (m : VM) (w : World) (hW : Wr w g k l) (hl : l.length ≤ 100000000000) (hm : VOk D w m) (hs : VShort m) (hD : ∀ b, D b → b ≠ g ∧ k ≠ some b) :
    Calls Try.prog 12 #[.pointer (some ⟨g, 0, none⟩), m.val] w fun e w' => e = .returned (.tuple #[]) ∧ Wrote g k w (l ++ encV m) w' := by
  obtain ⟨mk, mu, mn, mb, ms, ma, ml, mc, mz⟩ := m
  simp only [VM.val]
  have HM := Lib.hid hm
  have HW := Lib.hid hW
  have HD := Lib.hid hD
  have HS := Lib.hid hs
  have k1 : mk < 256 := hm.k
  clear hm hW hD hs
  have W0 : ∀ o, Wr (w.alloc o) g k l := fun o => HW.out.kept ((Kept.refl (fun _ => False) w).alloc o) (fun h => h) (fun _ _ h => h)
  have L0 : ∀ o, Link g k w k (w.alloc o) := fun o => Link.of_below ((Below.refl _ _).alloc (Nat.le_refl _) o)
  have HW0 := Lib.hid W0
  have HL0 := Lib.hid L0
  clear W0 L0 HW
  have h5 : mk % 5 = 0 ∨ mk % 5 = 1 ∨ mk % 5 = 2 ∨ mk % 5 = 3 ∨ mk % 5 = 4 := by omega
  rcases h5 with h0 | h0 | h0 | h0 | h0
  · go_enter Try.func12, Try.ntmps12
    go_wp2_with (go_at_call 30; refine (wuint_any g k l mu _ _ (HW0.out _) (by omega) HM.out.u rfl).mono ?_; rintro e w2 ⟨rfl, hw2⟩; have H2 := Lib.hid hw2; clear hw2)
    go_end0
    refine ⟨rfl, ?_⟩
    have e : encV ⟨mk, mu, mn, mb, ms, ma, ml, mc, mz⟩ = encU mu := by simp [encV, h0]
    rw [e]
    exact H2.out.after (HL0.out _)
  · go_enter Try.func12, Try.ntmps12
    go_wp2_with (go_at_call 31; refine (wint_any g k l mn _ (HW0.out _) (by omega) HM.out.n1 HM.out.n2).mono ?_; rintro e w2 ⟨rfl, hw2⟩; have H2 := Lib.hid hw2; clear hw2)
    go_end0
    refine ⟨rfl, ?_⟩
    have e : encV ⟨mk, mu, mn, mb, ms, ma, ml, mc, mz⟩ = encI mn := by simp [encV, h0]
    rw [e]
    exact H2.out.after (HL0.out _)
  · go_enter Try.func12, Try.ntmps12
    go_wp2_with (go_at_call 32; refine (wbool_any g k l mb _ (HW0.out _) (by omega)).mono ?_; rintro e w2 ⟨rfl, hw2⟩; have H2 := Lib.hid hw2; clear hw2)
    go_end0
    refine ⟨rfl, ?_⟩
    have e : encV ⟨mk, mu, mn, mb, ms, ma, ml, mc, mz⟩ = encB mb := by simp [encV, h0]
    rw [e]
    exact H2.out.after (HL0.out _)
  · go_enter Try.func12, Try.ntmps12
    go_wp2_with (go_at_call 33; refine (wtext_any g k l ms _ (HW0.out _) (by omega) (by have := HS.out.1; simp only at this; omega)).mono ?_; rintro e w2 ⟨rfl, hw2⟩; have H2 := Lib.hid hw2; clear hw2)
    go_end0
    refine ⟨rfl, ?_⟩
    have e : encV ⟨mk, mu, mn, mb, ms, ma, ml, mc, mz⟩ = encT ms.data.toList := by simp [encV, h0]
    rw [e]
    exact H2.out.after (HL0.out _)
  · go_enter Try.func12, Try.ntmps12
    go_wp2_with (go_at_call 34; refine (wints_any g k l D ma ml mc mz _ (HW0.out _) (by omega) (HM.out.l.kept ((Kept.refl (fun _ => False) w).alloc _) (fun _ _ _ h => h)) HD.out HM.out.l64 (by have := HS.out.2; simp only at this; omega)).mono ?_; rintro e w2 ⟨rfl, hw2⟩; have H2 := Lib.hid hw2; clear hw2)
    go_end0
    refine ⟨rfl, ?_⟩
    have e : encV ⟨mk, mu, mn, mb, ms, ma, ml, mc, mz⟩ = encL mz := by simp [encV, h0]
    rw [e]
    exact H2.out.after (HL0.out _)
end Go.Proofs.Ytdnbkiaolimfjaa

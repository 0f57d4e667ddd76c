/-
  strings.Cut at a separator of one byte (written by gen_I9.py).
-/
import Derived.Test.YtcdjilnlmihnhaaDoorI5
import Derived.Lib.Bytealg
import Derived.Laws.StandIn
namespace Go.Proofs.YtcdjilnlmihnhaaDoor
open Go.RowKit
set_option linter.unusedSimpArgs false
set_option linter.unusedVariables false
theorem run_indexCall (s : ByteArray) (c : Int) (w : World) :
    (callFunc 57 #[.string s, .int .u8 c]).run Tryd.prog w = .ok (.value (.int .i64 (Go.Lib.indexByte s.data.toList c.toNat.toUInt8))) w := by
  rw [run_callFunc_indexByte Tryd.func57 (by kernel_rfl) (by kernel_rfl) (by kernel_rfl) (by kernel_rfl), Go.Lib.run_indexByteString]
  rfl
attribute [local go_sem] run_indexCall
theorem str_beqD (a b : ByteArray) : (a.toList == b.toList) = decide (a = b) := by
  rw [ByteArray.toList_eq, ByteArray.toList_eq, Bool.eq_iff_iff]
  simp only [beq_iff_eq, decide_eq_true_eq]
  constructor
  · intro h
    obtain ⟨⟨la⟩⟩ := a
    obtain ⟨⟨lb⟩⟩ := b
    simp only at h
    rw [h]
  · intro h
    rw [h]
/-- where the first '-' is; -1: nowhere -/
def dashI (s : ByteArray) : Int := Go.Lib.indexByte s.data.toList 45
theorem idx_lt (l : List UInt8) (c : UInt8) : Go.Lib.indexByte l c < (l.length : Int) := by
  induction l with
  | nil => exact (by decide : (-1 : Int) < 0)
  | cons b l ih =>
    unfold Go.Lib.indexByte
    split
    · simp only [List.length_cons]; omega
    · split
      · simp only [List.length_cons]; omega
      · simp only [List.length_cons]; omega
theorem dashI_cases (s : ByteArray) : dashI s = -1 ∨ ∃ i : Nat, dashI s = (i : Int) ∧ i < s.size := by
  have h1 := Go.Lib.indexByte_ge s.data.toList 45
  have h2 := idx_lt s.data.toList 45
  have e : s.data.toList.length = s.size := by rw [Array.length_toList]; rfl
  unfold dashI
  rcases Int.lt_or_le (Go.Lib.indexByte s.data.toList 45) 0 with h | h
  · left; omega
  · right; exact ⟨(Go.Lib.indexByte s.data.toList 45).toNat, by omega, by omega⟩
def cutA (s : ByteArray) : ByteArray := if 0 ≤ dashI s then s.extract 0 (dashI s).toNat else s
def cutB (s : ByteArray) : ByteArray := if 0 ≤ dashI s then s.extract ((dashI s).toNat + 1) s.size else ⟨#[]⟩
def cutF (s : ByteArray) : Bool := decide (0 ≤ dashI s)
set_option maxRecDepth 100000 in
theorem slIndexByte_any (s : ByteArray) (w : World) :
    Calls Tryd.prog 47 #[.string s, .int .u8 45] w fun e w' => e = .returned (.int .i64 (dashI s)) ∧ w = w' := by
  go_enter Tryd.func47, Tryd.ntmps47
  go_wp2_with fail
  go_ret
  exact ⟨rfl, rfl⟩
set_option maxRecDepth 100000 in
theorem slIndex_any (s : ByteArray) (w : World) :
    Calls Tryd.prog 40 #[.string s, .string ⟨#[45]⟩] w fun e w' => e = .returned (.int .i64 (dashI s)) ∧ w = w' := by
  have HC := Lib.hid (slIndexByte_any s w)
  by_cases hd : s = ⟨#[45]⟩
  · subst hd
    have HD : Hid (dashI ⟨#[45]⟩ = 0) := Lib.hid (by decide)
    clear HC
    go_enter Tryd.func40, Tryd.ntmps40
    go_wp2_with fail
    go_ret
    rw [HD.out]
    exact ⟨rfl, rfl⟩
  have hk : ([45] == s.toList) = false := by
    have := str_beqD ⟨#[45]⟩ s
    rw [decide_eq_false (fun h => hd h.symm), ByteArray.toList_eq] at this
    exact this
  clear hd
  go_enter Tryd.func40, Tryd.ntmps40
  go_wp2_with (go_at_call 47; refine HC.out.mono ?_; rintro e w1 ⟨rfl, rfl⟩)
  go_ret
  exact ⟨rfl, rfl⟩
set_option maxRecDepth 100000 in
set_option maxHeartbeats 1000000 in
theorem slCut_any (s : ByteArray) (w : World) (hs : s.size ≤ 9223372036854775807) :
    Calls Tryd.prog 28 #[.string s, .string ⟨#[45]⟩] w fun e w' => e = .returned (.tuple #[.string (cutA s), .string (cutB s), .bool (cutF s)]) ∧ Below w.heap.size w w' := by
  have HC := Lib.hid (slIndex_any s w)
  rcases dashI_cases s with hi | ⟨i, hi, hlt⟩
  · have HR : Hid (cutA s = s ∧ cutB s = ⟨#[]⟩ ∧ cutF s = false) := Lib.hid (by unfold cutA cutB cutF; rw [hi]; simp)
    rw [hi] at HC
    clear hi
    go_enter Tryd.func28, Tryd.ntmps28
    go_wp2_with (go_at_call 40; refine HC.out.mono ?_; rintro e w1 ⟨rfl, rfl⟩)
    refine bodyPost_ret (results_tmp3 rfl _ _ _) rfl ?_
    rw [HR.out.1, HR.out.2.1, HR.out.2.2]
    exact ⟨rfl, Below.refl _ _⟩
  · have HR : Hid (cutA s = s.extract 0 i ∧ cutB s = s.extract (i + 1) s.size ∧ cutF s = true) := Lib.hid (by unfold cutA cutB cutF; rw [hi]; simp)
    rw [hi] at HC
    have h0 : (0 : Int) ≤ (i : Int) := by omega
    have h1 : (i : Int) ≤ (s.size : Int) := by omega
    have h2 : (i : Int) + 1 ≤ (s.size : Int) := by omega
    have h3 : IntKind.i64.wrap ((i : Int) + 1) = (i : Int) + 1 := i64_id _ (by omega) (by omega)
    have hz : (⟨#[45]⟩ : ByteArray).size = 1 := rfl
    clear hi
    go_enter Tryd.func28, Tryd.ntmps28
    go_wp2_with (go_at_call 40; refine HC.out.mono ?_; rintro e w1 ⟨rfl, rfl⟩)
    go_quiet (fail)
    go_wp2
    refine bodyPost_ret (results_tmp3 rfl _ _ _) rfl ?_
    rw [HR.out.1, HR.out.2.1, HR.out.2.2]
    exact ⟨rfl, below_drewN (Below.refl _ _) _⟩
set_option maxRecDepth 100000 in
set_option maxHeartbeats 1000000 in
theorem cut_any (s : ByteArray) (w : World) (hs : s.size ≤ 9223372036854775807) :
    Calls Tryd.prog 15 #[.string s, .string ⟨#[45]⟩] w fun e w' => e = .returned (.tuple #[.string (cutA s), .string (cutB s), .bool (cutF s)]) ∧ Below w.heap.size w w' := by
  have HC := Lib.hid (slCut_any s w hs)
  go_enter Tryd.func15, Tryd.ntmps15
  go_wp2_with (go_at_call 28; refine HC.out.mono ?_; rintro e w1 ⟨rfl, hb⟩; have HB := Lib.hid hb; clear hb)
  refine bodyPost_ret (results_tmp3 rfl _ _ _) rfl ?_
  exact ⟨rfl, HB.out⟩
end Go.Proofs.YtcdjilnlmihnhaaDoor

/-
  Copies of bytes: Clone, Done, NewReader; a slice of bytes as a string.
-/
import Derived.Laws.BytesString
import Derived.Laws.AppendOwnNone
import Derived.Test.YtbnodhcgdgcebaaW3
namespace Go.Proofs.Ytbnodhcgdgcebaa
open Go.RowKit
set_option linter.unusedSimpArgs false
set_option linter.unusedVariables false
theorem Own.empty (w : World) : Own (w.alloc (.cells #[] 5)) 5 1 (some w.heap.size) (.slice (some ⟨w.heap.size, 0, none⟩) 0 0) 0 [] := Own.made w 5 1 #[] 0 (Nat.zero_le _) rfl
set_option maxRecDepth 100000 in
set_option maxHeartbeats 400000 in
theorem clone_any (D : Nat → Prop) (a : Option Addr) (n c : Nat) (l : List UInt8) (w : World) (hB : Bs D w a n c l) (hn : n ≤ 100000000000000) :
    Calls Try.prog 59 #[.slice a n c] w fun e w' => ∃ v, e = .returned v ∧ Made w v l w' := by
  obtain ⟨i0, hi, hz0, hz1, hz2⟩ := info_parts info5
  cases a with
  | none =>
    have ke := fun (w : World) => Lib.run_eql_slice_nil (P := Try.prog) w 32 5 none n c 0 0 Try.underlying32
    have h0 := hB.2.2.2.2.1 rfl
    have h1 := hB.2.2.1
    subst h0
    obtain rfl : n = 0 := by omega
    obtain rfl : l = [] := List.eq_nil_of_length_eq_zero hB.1
    clear hB
    go_enter Try.func59, Try.ntmps59
    go_wp2
    go_ret
    exact ⟨_, rfl, none, Own.nil _ _ _, (fun _ h => by cases h), Below.refl _ _⟩
  | some ad =>
    have HB := Lib.hid hB
    have HL := Lib.hid hB.1
    have ke := fun (w : World) => Lib.run_eql_slice_nil (P := Try.prog) w 32 5 (some ad) n c 0 0 Try.underlying32
    clear hB
    go_enter Try.func59, Try.ntmps59
    go_wp2_with (at_builtin; refine wpList_append_any _ rfl (.tmp 5) (.tmp 6) 32 32 rfl 5 i0 (.int .u8 0) 1 1 Try.underlying32 hi hz0 hz1 hz2 rfl (some w.heap.size) _ 0 [] rfl (Own.empty w) n (vals l) ((HB.out.kept ((Kept.refl (fun _ => False) w).alloc _) (fun _ _ _ h => h)).src Try.underlying32) (by unfold maxLen; omega) (by omega) ?_)
    intro k' v' w' ho hf hK hn
    have R : Made w v' l w' := ⟨k', by rw [HL.out]; exact ho, fun j hj => by
      rcases hf j hj with h | h
      · cases h; exact Nat.le_refl _
      · omega, ((Below.refl w.heap.size w).alloc (Nat.le_refl _) _).trans (hK.below (by simp) (fun j hj h => by cases h; omega))⟩
    have HR := Lib.hid R
    clear R ho hf hK hn
    go_wp2
    go_ret
    exact ⟨_, rfl, HR.out⟩
set_option maxRecDepth 100000 in
set_option maxHeartbeats 400000 in
theorem copied_any (g : Nat) (k : Option Nat) (l : List UInt8) (w : World) (hW : Wr w g k l) (hl : l.length ≤ 100000000000000) :
    Calls Try.prog 58 #[.pointer (some ⟨g, 0, none⟩)] w fun e w' => ∃ v, e = .returned v ∧ Made w v l w' := by
  obtain ⟨v, hg, hO, hk⟩ := hW
  have h0 : w.cell? ⟨g, 0, none⟩ = some v := by rw [cell_of_row w g 0 _ _ _ hg]; rfl
  obtain ⟨a, c, rfl, hB⟩ := hO.bs
  have HB := Lib.hid hB
  clear hg hO hk hB
  go_enter Try.func58, Try.ntmps58
  go_wp2_with (go_at_call 59; refine (clone_any _ a _ c l _ HB.out hl).mono ?_; rintro e w2 ⟨v, rfl, hw2⟩; have H2 := Lib.hid hw2; clear hw2)
  go_ret
  exact ⟨_, rfl, H2.out⟩
set_option maxRecDepth 100000 in
set_option maxHeartbeats 400000 in
theorem done_any (g : Nat) (k : Option Nat) (l : List UInt8) (w : World) (hW : Wr w g k l) (hl : l.length ≤ 100000000000000) :
    Calls Try.prog 41 #[.pointer (some ⟨g, 0, none⟩)] w fun e w' => ∃ v, e = .returned v ∧ Made w v l w' := by
  have HW := Lib.hid hW
  clear hW
  go_enter Try.func41, Try.ntmps41
  go_wp2_with (go_at_call 58; refine (copied_any g k l _ HW.out hl).mono ?_; rintro e w2 ⟨v, rfl, hw2⟩; have H2 := Lib.hid hw2; clear hw2)
  go_ret
  exact ⟨_, rfl, H2.out⟩
/-- a reader in block g has the bytes l left, in block k, and the error e -/
def Rd (w : World) (g : Nat) (k : Option Nat) (l : List UInt8) (e : Nat) : Prop :=
  ∃ a c, w.heap[g]? = some (.cells #[.slice a l.length c, .int .i64 (e : Int)] 103 (0, 0)) ∧ Bs (fun b => k = some b) w a l.length c l ∧ k ≠ some g
theorem Rd.kept {S : Nat → Prop} {w w' : World} {g : Nat} {k : Option Nat} {l : List UInt8} {e : Nat} (h : Rd w g k l e) (hk : Kept S w w') (hg : ¬ S g) (hs : ∀ j, k = some j → ¬ S j) : Rd w' g k l e := by
  obtain ⟨a, c, h1, h2, h3⟩ := h
  exact ⟨a, c, hk.heap h1 hg, h2.kept hk (fun b _ hb => hs b hb), h3⟩
theorem Rd.lt {w : World} {g : Nat} {k : Option Nat} {l : List UInt8} {e : Nat} (h : Rd w g k l e) : g < w.heap.size := by
  obtain ⟨a, c, h1, h2⟩ := h
  exact heap_lt h1
/-- a new reader -/
def NewRd (w : World) (g : Nat) (l : List UInt8) (w' : World) : Prop :=
  ∃ k, Rd w' g k l 0 ∧ w.heap.size ≤ g ∧ (∀ j, k = some j → w.heap.size ≤ j ∧ j < w'.heap.size) ∧ Below w.heap.size w w'
set_option maxRecDepth 100000 in
set_option maxHeartbeats 400000 in
theorem newReader_any (D : Nat → Prop) (a : Option Addr) (n c : Nat) (l : List UInt8) (w : World) (hB : Bs D w a n c l) (hn : n ≤ 100000000000000) :
    Calls Try.prog 42 #[.slice a n c] w fun e w' => ∃ g, e = .returned (.pointer (some ⟨g, 0, none⟩)) ∧ NewRd w g l w' := by
  have HB := Lib.hid hB
  clear hB
  go_enter Try.func42, Try.ntmps42
  go_wp2_with (go_at_call 59; refine (clone_any _ a _ c l _ HB.out hn).mono ?_; rintro e w2 ⟨v, rfl, k, ho, hf, hb⟩; obtain ⟨a2, c2, rfl, hs⟩ := ho.bs; have HO := Lib.hid ho; have HS := Lib.hid hs; have HF := Lib.hid hf; have HBe := Lib.hid hb; clear ho hs hf hb)
  go_ret
  refine ⟨w2.heap.size, rfl, k, ⟨a2, c2, heap_new rfl, HS.out.kept ((Kept.refl (fun _ => False) w2).alloc _) (fun _ _ _ h => h), fun e => ?_⟩, HBe.out.size, fun j hj => ⟨HF.out j hj, by have := HO.out.lt j hj; rw [size_alloc1]; omega⟩, HBe.out.trans ((Below.refl _ _).alloc HBe.out.size _)⟩
  have := HO.out.lt _ e
  omega
end Go.Proofs.Ytbnodhcgdgcebaa

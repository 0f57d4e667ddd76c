/-
  Has: is a number in a slice of numbers?
-/
import Derived.Test.YtcoijmggfkjcjaaDoorI2
import Derived.Test.YtcoijmggfkjcjaaDoorK0
namespace Go.Proofs.YtcoijmggfkjcjaaDoor
open Go.RowKit
set_option linter.unusedSimpArgs false
set_option linter.unusedVariables false
def ints (ds : List Int) : List Value := ds.map fun d => .int .i64 d
theorem mem_take_succ {ds : List Int} {j : Nat} (hj : j < ds.length) {d : Int} (h : d ∉ ds.take j) (hne : ds[j] ≠ d) : d ∉ ds.take (j + 1) := by
  rw [List.take_succ_eq_append_getElem hj]
  intro hm
  rcases List.mem_append.1 hm with h1 | h1
  · exact h h1
  · exact hne (List.mem_singleton.1 h1).symm
set_option maxRecDepth 100000 in
set_option maxHeartbeats 1000000 in
theorem has_any {D : Nat → Prop} (ds : List Int) (a : Option Addr) (n c : Nat) (w : World) (hsl : Sl D w a n c (ints ds) 1) (d : Int) :
    Calls Tryd.prog 40 #[.slice a n c, .int .i64 d] w fun e w' => e = .returned (.bool (decide (d ∈ ds))) ∧ w = w' := by
  obtain ⟨h1, h2, h3, h4, h5⟩ := hsl
  have hlen : ds.length = n := by simpa [ints] using h1
  have hcm : c ≤ 9223372036854775807 := h3
  by_cases hn : n = 0
  · subst hn
    have hd : Hid (decide (d ∈ ds) = false) := Lib.hid (decide_eq_false (by rw [List.eq_nil_of_length_eq_zero hlen]; simp))
    clear h1 h2 h4 h5 hlen h3
    go_enter Tryd.func40, Tryd.ntmps40
    go_wp2
    go_loopw [5] (fun u wr => wr = w ∧ u = .int .i64 0) (fun _ _ => 0)
    case atStart => exact ⟨rfl, rfl⟩
    case round =>
      obtain ⟨rfl, rfl⟩ := hrel
      go_wp2
      go_ret
      rw [hd.out]
      exact ⟨rfl, rfl⟩
  · obtain ⟨b, off, -, rfl, hr⟩ := h5 (by omega)
    have HC : Hid (∀ j (hj : j < ds.length), w.cell? ⟨b, off + j, none⟩ = some (.int .i64 ds[j])) := Lib.hid (fun j hj => hr j _ (by simp [ints, hj]))
    have HLEN := Lib.hid hlen
    clear h1 h4 h5 hr hlen h3 hn
    go_enter Tryd.func40, Tryd.ntmps40
    go_wp2
    go_loopw [5] (fun u wr => wr = w ∧ ∃ j : Nat, j ≤ n ∧ u = .int .i64 (j : Int) ∧ d ∉ ds.take j) (fun u _ => ((n : Int) - intOf u).toNat)
    case atStart => exact ⟨rfl, 0, by omega, rfl, by simp⟩
    case round =>
      obtain ⟨rfl, j, hj, rfl, hnot⟩ := hrel
      have HNOT := Lib.hid hnot
      clear hnot
      by_cases hjn : j < n
      · have hji : (j : Int) < (n : Int) := by omega
        have hjl : j < ds.length := by rw [HLEN.out]; exact hjn
        have cj := HC.out j hjl
        have i1 : IntKind.i64.wrap ((j : Int) + 1) = (j : Int) + 1 := i64_id _ (by omega) (by omega)
        obtain ⟨x, hx⟩ : ∃ x, x = ds[j] := ⟨_, rfl⟩
        rw [← hx] at cj
        have HX := Lib.hid hx
        clear hx
        by_cases he : x = d
        · have HT : Hid (decide (d ∈ ds) = true) := Lib.hid (decide_eq_true (by rw [← he, HX.out]; exact List.getElem_mem _))
          go_wp2
          go_ret
          rw [HT.out]
          exact ⟨rfl, rfl⟩
        · have HN : Hid (d ∉ ds.take (j + 1)) := Lib.hid (mem_take_succ hjl HNOT.out (by rw [← HX.out]; exact he))
          go_wp2
          go_roundw
          case rel => exact ⟨trivial, j + 1, by omega, by go_num, HN.out⟩
          case measure => simp only [intOf]; omega
      · obtain rfl : j = n := by omega
        have HF : Hid (decide (d ∈ ds) = false) := Lib.hid (decide_eq_false (by
          have h := HNOT.out
          rw [List.take_of_length_le (by rw [HLEN.out]; exact Nat.le_refl _)] at h
          exact h))
        go_wp2
        go_ret
        rw [HF.out]
        exact ⟨rfl, rfl⟩
end Go.Proofs.YtcoijmggfkjcjaaDoor

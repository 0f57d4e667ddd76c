/-
  The law DigestDigits: its walk.
-/
import Derived.Test.YtdfpjhpkkhdpoaaDoorH3
import Derived.Test.YtdfpjhpkkhdpoaaDoorG3
namespace Go.Proofs.YtdfpjhpkkhdpoaaDoor
open Go.RowKit
set_option linter.unusedSimpArgs false
set_option linter.unusedVariables false
theorem parse_hex_any (x : List UInt8) (T : ByteArray) (hT : T = ⟨(hexOf x).toArray⟩) (w : World) (hx : x.length = 32) :
    Calls Tryd.prog 30 #[.string T] w fun e w' => e = .returned (.tuple #[.agg (bcells x), .int .i64 0]) ∧ Below w.heap.size w w' := by
  have hs : T.size = 64 := by
    rw [hT]
    show (hexOf x).toArray.size = 64
    rw [List.size_toArray, hexOf_len, hx]
  refine (parse_any T w hs).mono ?_
  have e : T.data.toList = hexOf x := by rw [hT]
  rw [e, parse_hexOf x hx]
  exact fun e w' h => h
attribute [local go_sem ↓] exec_load33 exec_load24
attribute [local go_sem] run_eq24 Hv_len eqg24
set_option maxRecDepth 100000 in
set_option maxHeartbeats 1000000 in
theorem digits_any (x : List UInt8) (w : World) (hT : Tabs w) (hx : x.length = 32) :
    Calls Tryd.prog 10 #[.agg (bcells x)] w fun e w' => e = .returned (.bool true) ∧ Below w.heap.size w w' := by
  have HT := Lib.hid hT
  have Hz := Lib.hid hT.2.2
  obtain ⟨T, hTT⟩ : ∃ T : ByteArray, T = ⟨(hexOf x).toArray⟩ := ⟨_, rfl⟩
  have HTT := Lib.hid hTT
  clear hT hTT
  go_enter Tryd.func10, Tryd.ntmps10
  go_upto_region 1 with (fail)
  have g0 : (w.alloc (.cells (bcells x) 24)).heap[w.heap.size]? = some (.cells (bcells x) 24 (0, 0)) := heap_new rfl
  have b0 : Below w.heap.size w (w.alloc (.cells (bcells x) 24)) := (Below.refl _ _).alloc (Nat.le_refl _) _
  generalize w.alloc (.cells (bcells x) 24) = q at *
  have N0 : Hid (Now w q [] [(w.heap.size, x)]) := Lib.hid ⟨HT.out.below b0 Hz.out, b0, by simp, by
    intro z hz
    simp only [List.mem_cons, List.not_mem_nil, or_false] at hz
    subst hz
    exact ⟨g0, hx⟩⟩
  clear g0 b0
  have lh0 := (N0.out.hb (w.heap.size, x) (by simp)).load
  simp only at lh0
  go_upto_region 2 with (go_at_call 29; refine (hex_any x _ hx).mono ?_; rw [← HTT.out]; rintro e w1 ⟨rfl, hb⟩; have N1 := Lib.hid (N0.out.step hb); clear hb)
  clear lh0
  go_upto_region 3 with (first
    | (go_at_call 30; refine (parse_hex_any x T HTT.out _ hx).mono ?_; rintro e w2 ⟨rfl, hb⟩; have N2 := Lib.hid (N1.out.step hb); clear hb)
    | (refine wpList_store_row rfl 24 (.tmp 4) (.tmp 11) rfl w2.heap.size _ rfl rfl 24 _ (heap_new rfl) (by rw [bcells_size, hx]; exact size32b) (by rw [bcells_size, hx]; rfl) (bcells_one _) ?_; obtain ⟨w3, hw3, hN, hz3⟩ := N2.out.put24 x hx; rw [hw3]; have N3 := Lib.hid hN; clear hw3 hN hz3))
  generalize w2.heap.size = g at *
  clear N0 N1 N2
  have lh3 := (N3.out.hb (w.heap.size, x) (by simp)).load
  simp only at lh3
  go_wp2_with (first
    | (go_at_call 31; refine (rhex_any x _ hx).mono ?_; rw [← HTT.out]; rintro e w4 ⟨rfl, hb⟩; have N4 := Lib.hid (N3.out.step hb); have lx := (N4.out.hb (w.heap.size, x) (by simp)).load; have ly := (N4.out.hb (g, x) (by simp)).load; (try simp only at lx); (try simp only at ly); clear hb)
    | (go_at_call 14; refine (lives_any _ N4.out.tabs).mono ?_; rintro e w5 ⟨rfl, hb⟩; have N5 := Lib.hid (N4.out.step hb); clear hb))
  go_ret
  exact ⟨rfl, N5.out.bel⟩
end Go.Proofs.YtdfpjhpkkhdpoaaDoor

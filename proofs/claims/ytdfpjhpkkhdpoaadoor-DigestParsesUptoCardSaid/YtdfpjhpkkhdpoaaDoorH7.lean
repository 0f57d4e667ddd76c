/-
  Parse of any text, by both; Hex of what was parsed.
-/
import Derived.Test.YtdfpjhpkkhdpoaaDoorH3
import Derived.Test.YtdfpjhpkkhdpoaaDoorH6
namespace Go.Proofs.YtdfpjhpkkhdpoaaDoor
open Go.RowKit
set_option linter.unusedSimpArgs false
set_option linter.unusedVariables false
attribute [local go_sem ↓] exec_build0
attribute [local go_sem] run_build0A
set_option maxRecDepth 100000 in
set_option maxHeartbeats 1000000 in
theorem rparse_short (s : ByteArray) (w : World) (hs : s.size ≠ 64) :
    Calls Tryd.prog 32 #[.string s] w fun e w' => e = .returned (.tuple #[.agg (bcells Z32), .int .i64 7]) ∧ Below w.heap.size w w' := by
  have hs2 : (s.size : Int) ≠ 64 := by omega
  clear hs
  go_enter Tryd.func32, Tryd.ntmps32
  go_upto_region 1 with (fail)
  rw [zeros32, show List.replicate 32 (0 : UInt8) = Z32 from rfl]
  have hg : (w.alloc (.cells (bcells Z32) 24)).heap[w.heap.size]? = some (.cells (bcells Z32) 24 (0, 0)) := heap_new rfl
  have hb : Below w.heap.size w (w.alloc (.cells (bcells Z32) 24)) := (Below.refl _ _).alloc (Nat.le_refl _) _
  generalize w.alloc (.cells (bcells Z32) 24) = w1 at *
  have Hb := Lib.hid hb
  have Hg := Lib.hid hg
  clear hb hg
  go_wp2_with (refine wpList_store_row rfl 24 (.tmp 2) (.tmp 11) rfl w.heap.size _ rfl rfl 24 _ Hg.out (by rw [bcells_size, Z32_len]; exact size32b) rfl (bcells_one _) ?_)
  refine bodyPost_ret (v := .tuple #[.agg (bcells Z32), .int .i64 7]) ?_ rfl ⟨rfl, Below_setRow Hb.out (Nat.le_refl _) _⟩
  have hld := run_loadVar_row (P := Tryd.prog) (w1.setRow w.heap.size (bcells Z32)) w.heap.size 24 24 (bcells Z32) (0, 0) _ (setRow_heap _ _ _ _ _ _ Hg.out) Tryd.underlying24 rfl (by rw [bcells_size, Z32_len]; exact size32b)
  rw [results_cell_tmp rfl]
  simp [asAddr, Result.andThen, hld]
/-- what both make of a text: the hash value, the number of the error -/
def PR (s : ByteArray) (x : List UInt8) (e : Int) : Prop := x.length = 32 ∧ (e = 0 ∨ e = 7) ∧ (e = 0 → s = ⟨(hexOf x).toArray⟩)
theorem dg_dv (b : UInt8) (h : 0 ≤ dv b) : dg (dv b).toNat = b := by
  have hh : ∀ n : Fin 256, 0 ≤ dv (UInt8.ofNat n.val) → dg (dv (UInt8.ofNat n.val)).toNat = UInt8.ofNat n.val := by decide +kernel
  have e : UInt8.ofNat b.toNat = b := by simp
  have := hh ⟨b.toNat, b.toNat_lt⟩
  simp only [e] at this
  exact this h
theorem hexOf_pv (l : List UInt8) (hl : l.length = 64) (hg : goodTo l 32) : hexOf (firstB (pv l) 32 32) = l := by
  rw [firstB_all]
  have hlen : (hexOf ((List.range 32).map (pv l))).length = 64 := by rw [hexOf_len]; simp
  have key : ∀ k, k < 32 → byteAt (hexOf ((List.range 32).map (pv l))) (2 * k) = byteAt l (2 * k) ∧ byteAt (hexOf ((List.range 32).map (pv l))) (2 * k + 1) = byteAt l (2 * k + 1) := by
    intro k hk
    obtain ⟨h1, h2⟩ := hex_at ((List.range 32).map (pv l)) k (by simpa using hk)
    have g1 := hg (2 * k) (by omega)
    have g2 := hg (2 * k + 1) (by omega)
    have b1 := dv_bd (byteAt l (2 * k))
    have b2 := dv_bd (byteAt l (2 * k + 1))
    have e : (((List.range 32).map (pv l))[k]'(by simpa using hk)).toNat = 16 * (dv (byteAt l (2 * k))).toNat + (dv (byteAt l (2 * k + 1))).toNat := by
      simp only [List.getElem_map, List.getElem_range, pv, UInt8.toNat_ofNat']
      omega
    rw [h1, h2, e]
    have f1 : (16 * (dv (byteAt l (2 * k))).toNat + (dv (byteAt l (2 * k + 1))).toNat) / 16 = (dv (byteAt l (2 * k))).toNat := by omega
    have f2 : (16 * (dv (byteAt l (2 * k))).toNat + (dv (byteAt l (2 * k + 1))).toNat) % 16 = (dv (byteAt l (2 * k + 1))).toNat := by omega
    rw [f1, f2]
    exact ⟨dg_dv _ g1, dg_dv _ g2⟩
  refine List.ext_getElem (by rw [hlen, hl]) fun i h1 h2 => ?_
  have hb : byteAt (hexOf ((List.range 32).map (pv l))) i = byteAt l i := by
    obtain ⟨k1, k2⟩ := key (i / 2) (by omega)
    by_cases hm : i % 2 = 0
    · rw [show i = 2 * (i / 2) by omega]; exact k1
    · rw [show i = 2 * (i / 2) + 1 by omega]; exact k2
  rw [byteAt_lt _ _ h1, byteAt_lt _ _ h2] at hb
  exact hb
theorem parse_two (s : ByteArray) : ∃ x e, PR s x e ∧
    (∀ w, Calls Tryd.prog 30 #[.string s] w fun r w' => r = .returned (.tuple #[.agg (bcells x), .int .i64 e]) ∧ Below w.heap.size w w') ∧
    (∀ w, Calls Tryd.prog 32 #[.string s] w fun r w' => r = .returned (.tuple #[.agg (bcells x), .int .i64 e]) ∧ Below w.heap.size w w') := by
  by_cases hs : s.size = 64
  · by_cases hg : goodTo s.data.toList 32
    · refine ⟨firstB (pv s.data.toList) 32 32, 0, ⟨firstB_len _ _ _, .inl rfl, fun _ => ?_⟩, fun w => ?_, fun w => ?_⟩
      · rw [hexOf_pv _ (by rw [Array.length_toList]; exact hs) hg]
      · have := parse_any s w hs
        rwa [parseOut_good hg] at this
      · have := rparse_any s w hs
        rwa [parseOut_good hg] at this
    · have hb : parseOut s.data.toList = .tuple #[.agg (bcells Z32), .int .i64 7] := if_neg hg
      refine ⟨Z32, 7, ⟨Z32_len, .inr rfl, fun h => by omega⟩, fun w => ?_, fun w => ?_⟩
      · have := parse_any s w hs
        rwa [hb] at this
      · have := rparse_any s w hs
        rwa [hb] at this
  · exact ⟨Z32, 7, ⟨Z32_len, .inr rfl, fun h => by omega⟩, fun w => parse_short s w hs, fun w => rparse_short s w hs⟩
end Go.Proofs.YtdfpjhpkkhdpoaaDoor

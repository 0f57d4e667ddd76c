/-
  The reference's Hex; what Parse makes of a text that Hex has written.
-/
import Derived.Test.YtdfpjhpkkhdpoaaDoorH2
namespace Go.Proofs.YtdfpjhpkkhdpoaaDoor
open Go.RowKit
set_option linter.unusedSimpArgs false
set_option linter.unusedVariables false
theorem hex_at (x : List UInt8) : ∀ k (hk : k < x.length), byteAt (hexOf x) (2 * k) = dg (x[k].toNat / 16) ∧ byteAt (hexOf x) (2 * k + 1) = dg (x[k].toNat % 16) := by
  induction x with
  | nil => intro k hk; simp at hk
  | cons b r ih =>
    intro k hk
    have e : hexOf (b :: r) = dg (b.toNat / 16) :: dg (b.toNat % 16) :: hexOf r := rfl
    cases k with
    | zero => rw [e]; exact ⟨rfl, rfl⟩
    | succ k =>
      have := ih k (by simpa using hk)
      rw [e, show 2 * (k + 1) = 2 * k + 1 + 1 by omega]
      exact this
theorem dv_dg (n : Nat) (h : n < 16) : dv (dg n) = (n : Int) := index_dg n h
theorem parse_hexOf (x : List UInt8) (hx : x.length = 32) : parseOut (hexOf x) = .tuple #[.agg (bcells x), .int .i64 0] := by
  have hg : goodTo (hexOf x) 32 := by
    intro i hi
    obtain ⟨h1, h2⟩ := hex_at x (i / 2) (by omega)
    have hb : (x[i / 2]'(by omega)).toNat < 256 := (x[i / 2]'(by omega)).toNat_lt
    by_cases hm : i % 2 = 0
    · rw [show i = 2 * (i / 2) by omega, h1, dv_dg _ (by omega)]; omega
    · rw [show i = 2 * (i / 2) + 1 by omega, h2, dv_dg _ (by omega)]; omega
  rw [parseOut_good hg, firstB_all]
  have e : (List.range 32).map (pv (hexOf x)) = x := by
    refine List.ext_getElem (by simp [hx]) fun i h1 h2 => ?_
    obtain ⟨a1, a2⟩ := hex_at x i h2
    have hb : x[i].toNat < 256 := x[i].toNat_lt
    simp only [List.getElem_map, List.getElem_range, pv]
    rw [a1, a2, dv_dg _ (by omega), dv_dg _ (by omega)]
    simp only [Int.toNat_natCast]
    rw [show 16 * (x[i].toNat / 16) + x[i].toNat % 16 = x[i].toNat by omega]
    simp
  rw [e]
theorem str3 (S : List UInt8) (a b : UInt8) : (ByteArray.mk S.toArray) ++ ByteArray.mk #[a] ++ ByteArray.mk #[b] = ByteArray.mk (S ++ [a, b]).toArray := by
  apply ByteArray.ext
  simp [ByteArray.data_append]
theorem dg_cut (n : Nat) (h : n < 16) : (ByteArray.mk #[48, 49, 50, 51, 52, 53, 54, 55, 56, 57, 97, 98, 99, 100, 101, 102]).extract n (n + 1) = ⟨#[dg n]⟩ := by
  have : ∀ n : Fin 16, (ByteArray.mk #[48, 49, 50, 51, 52, 53, 54, 55, 56, 57, 97, 98, 99, 100, 101, 102]).extract n.val (n.val + 1) = ⟨#[dg n.val]⟩ := by decide +kernel
  exact this ⟨n, h⟩
set_option maxRecDepth 100000 in
set_option maxHeartbeats 1000000 in
theorem rhex_any (x : List UInt8) (w : World) (hx : x.length = 32) :
    Calls Tryd.prog 31 #[.agg (bcells x)] w fun e w' => e = .returned (.string ⟨(hexOf x).toArray⟩) ∧ Below w.heap.size w w' := by
  have Hx := Lib.hid hx
  clear hx
  go_enter Tryd.func31, Tryd.ntmps31
  go_upto_region 1 with (fail)
  have g0 : (w.alloc (.cells (bcells x) 24)).heap[w.heap.size]? = some (.cells (bcells x) 24 (0, 0)) := heap_new rfl
  have b0 : Below w.heap.size w (w.alloc (.cells (bcells x) 24)) := (Below.refl _ _).alloc (Nat.le_refl _) _
  generalize w.alloc (.cells (bcells x) 24) = q at *
  have G0 := Lib.hid g0
  have B0 := Lib.hid b0
  clear g0 b0
  go_wp2
  go_loopw [4, 5] (fun s i wr => ∃ k : Nat, k ≤ 32 ∧ i = .int .i64 (k : Int) ∧ s = .string ⟨(hexTo x k).toArray⟩ ∧ wr.heap[w.heap.size]? = some (.cells (bcells x) 24 (0, 0)) ∧ Below w.heap.size w wr) (fun _ i _ => 32 - (intOf i).toNat)
  case atStart => exact ⟨0, by omega, rfl, rfl, G0.out, B0.out⟩
  case round =>
    clear G0 B0
    obtain ⟨k, hk, rfl, rfl, hg, hb⟩ := hrel
    have G := Lib.hid hg
    have B := Lib.hid hb
    clear hg hb
    by_cases hlt : k < 32
    · have dlt : decide ((k : Int) < 32) = true := by simp; omega
      have hc : wr.cell? ⟨w.heap.size, k, none⟩ = some (.int .u8 (bi (byteAt x k))) := cell_bytes G.out k (by rw [Hx.out]; exact hlt)
      have HX : Hid (hexTo x (k + 1) = hexTo x k ++ hx (byteAt x k)) := Lib.hid (hexTo_succ x k (by rw [Hx.out]; exact hlt))
      generalize byteAt x k = y at *
      have hy1 := bi_lt y
      have hy0 := bi_nonneg y
      obtain ⟨Y, hY⟩ := Int.eq_ofNat_of_zero_le hy0
      have hYy : Y = y.toNat := by unfold bi at hY; omega
      rw [hY] at hc hy1
      obtain ⟨H1, hH1⟩ : ∃ H1, H1 = Y / 16 := ⟨_, rfl⟩
      obtain ⟨L1, hL1⟩ : ∃ L1, L1 = Y % 16 := ⟨_, rfl⟩
      have a1 : (Y : Int) / 16 = (H1 : Int) := by omega
      have a2 : (Y : Int) % 16 = (L1 : Int) := by omega
      have a3 : IntKind.i64.wrap ((H1 : Int) + 1) = (H1 : Int) + 1 := i64_id _ (by omega) (by omega)
      have a4 : IntKind.i64.wrap ((L1 : Int) + 1) = (L1 : Int) + 1 := i64_id _ (by omega) (by omega)
      have a5 : (H1 : Int) + 1 ≤ 16 := by omega
      have a6 : (L1 : Int) + 1 ≤ 16 := by omega
      have HH := Lib.hid (And.intro hH1 (And.intro hL1 hYy))
      have a7 : (0 : Int) ≤ (H1 : Int) + 1 := by omega
      have a8 : (0 : Int) ≤ (L1 : Int) + 1 := by omega
      have a9 : (H1 : Int) ≤ (H1 : Int) + 1 := by omega
      have a10 : (L1 : Int) ≤ (L1 : Int) + 1 := by omega
      have x1 := dg_cut H1 (by omega)
      have x2 := dg_cut L1 (by omega)
      obtain ⟨SS, hSS⟩ : ∃ SS, SS = hexTo x k := ⟨_, rfl⟩
      have hS1 : SS.length ≤ 64 := by rw [hSS]; unfold hexTo; rw [hexOf_len, List.length_take]; omega
      rw [← hSS] at HX ⊢
      have HS := Lib.hid hSS
      clear hH1 hL1 hYy hY hy0 hSS
      go_upto_region 8 with (fail)
      go_region
      all_goals
        go_wp2_with fail
        go_roundw
        case rel =>
          refine ⟨k + 1, by omega, by go_num, ?_, G.out, B.out.drew⟩
          rw [str3, HX.out, hx, ← HH.out.2.2, ← HH.out.1, ← HH.out.2.1]
        case measure => simp [intOf]; omega
    · obtain rfl : k = 32 := by omega
      have dlt : decide ((32 : Int) < 32) = false := by simp
      go_wp2_with fail
      go_ret
      exact ⟨by unfold hexTo; rw [List.take_of_length_le (by rw [Hx.out]; omega)]; rfl, B.out⟩
end Go.Proofs.YtdfpjhpkkhdpoaaDoor

/-
  The number that digits are, as Parse reads it: the closure that keeps an error (written by gen_IA.py).
-/
import Derived.Test.YtcdjilnlmihnhaaDoorI1
import Derived.Test.YtcdjilnlmihnhaaDoorI9
namespace Go.Proofs.YtcdjilnlmihnhaaDoor
open Go.RowKit
set_option linter.unusedSimpArgs false
set_option linter.unusedVariables false
theorem numF_bd : ∀ (l : List UInt8) (n : Int), 0 ≤ n → 0 ≤ numF n l ∧ numF n l ≤ (n + 29) * 10 ^ l.length
  | [], n, h => by simp [numF]; omega
  | c :: l, n, h => by
    have hc := (c - 48).toNat_lt
    have h1 := numF_bd l (10 * n + ((c - 48).toNat : Int)) (by omega)
    have e : numF n (c :: l) = numF (10 * n + ((c - 48).toNat : Int)) l := rfl
    rw [e]
    refine ⟨h1.1, Int.le_trans h1.2 ?_⟩
    rw [List.length_cons, Int.pow_succ]
    have hp : (0 : Int) ≤ 10 ^ l.length := by
      have : (0 : Int) < 10 ^ l.length := Int.pow_pos (by decide)
      omega
    have h2 : 10 * n + ((c - 48).toNat : Int) + 29 ≤ (n + 29) * 10 := by omega
    have h3 := Int.mul_le_mul_of_nonneg_right h2 hp
    rw [Int.mul_assoc, Int.mul_comm 10 (10 ^ l.length)] at h3
    exact h3
theorem numL_bd (l : List UInt8) (h : l.length ≤ 4) : 0 ≤ numL l ∧ numL l ≤ 290000 := by
  have h1 := numF_bd l 0 (by omega)
  refine ⟨h1.1, Int.le_trans h1.2 ?_⟩
  have : l.length = 0 ∨ l.length = 1 ∨ l.length = 2 ∨ l.length = 3 ∨ l.length = 4 := by omega
  rcases this with h | h | h | h | h <;> (rw [h]; decide)
theorem numL_snoc (l : List UInt8) (c : UInt8) : numL (l ++ [c]) = 10 * numL l + ((c - 48).toNat : Int) := by simp [numL, numF, List.foldl_append]
theorem sub48 (c : UInt8) : IntKind.u8.wrap ((c.toNat : Int) - 48) = ((c - 48).toNat : Int) := by
  have h : ∀ n : Fin 256, IntKind.u8.wrap (((UInt8.ofNat n.val).toNat : Int) - 48) = (((UInt8.ofNat n.val) - 48).toNat : Int) := by decide +kernel
  have e : UInt8.ofNat c.toNat = c := by simp
  have := h ⟨c.toNat, c.toNat_lt⟩
  rw [e] at this
  exact this
theorem isD_yes (c : UInt8) (h1 : 48 ≤ c.toNat) (h2 : c.toNat ≤ 57) : [c].all isD = true := by simp [isD, h1, h2]
theorem isD_no (c : UInt8) (h : c.toNat < 48 ∨ 57 < c.toNat) : [c].all isD = false := by
  have : ¬ (48 ≤ c.toNat ∧ c.toNat ≤ 57) := by omega
  simp only [List.all_cons, List.all_nil, Bool.and_true, isD, decide_eq_false this]
/-- what the closure leaves in the error that it keeps -/
def errV (v : Int) (l : List UInt8) (k : Nat) : Int := if l.length = k ∧ l.all isD = true then v else 7
set_option maxRecDepth 100000 in
set_option maxHeartbeats 2000000 in
theorem number_clo (s : ByteArray) (k : Nat) (hk : k ≤ 4) (g : Nat) (v : Int) (w : World) (hrow : w.heap[g]? = some (.cells #[.int .i64 v] 31 (0, 0))) :
    Calls Tryd.prog 14 #[.string s, .int .i64 (k : Int), .pointer (some ⟨g, 0, none⟩)] w fun e w' => e = .returned (.int .i64 (if s.size = k then numL s.data.toList else 0)) ∧ w'.heap[g]? = some (.cells #[.int .i64 (errV v s.data.toList k)] 31 (0, 0)) ∧ Kept (fun b => b = g) w w' := by
  have hls : s.data.toList.length = s.size := by rw [Array.length_toList]; rfl
  have c0 : w.cell? ⟨g, 0, none⟩ = some (.int .i64 v) := cell_of_row w g 0 _ _ _ hrow
  have f0 : w.frozen? ⟨g, 0, none⟩ = false := frozen_of_row w g 0 _ _ hrow
  by_cases hz : s.size = k
  · have hz2 : ¬ (s.size : Int) = (k : Int) → False := fun h => h (by omega)
    have hz3 : (s.size : Int) = (k : Int) := by omega
    obtain ⟨l, hl⟩ : ∃ l, l = s.data.toList := ⟨_, rfl⟩
    rw [← hl] at hls
    rw [if_pos hz, ← hl]
    have HL := Lib.hid hl
    have HLS := Lib.hid hls
    have HROW0 := Lib.hid hrow
    have HZ := Lib.hid hz
    clear hrow hl hls c0 f0 hz hz2
    go_enter Tryd.func14, Tryd.ntmps14
    go_wp2
    go_loopw [6, 14] (fun n i wr => ∃ j : Nat, j ≤ k ∧ i = .int .i64 (j : Int) ∧ n = .int .i64 (numL (l.take j)) ∧ wr.heap[g]? = some (.cells #[.int .i64 (if (l.take j).all isD = true then v else 7)] 31 (0, 0)) ∧ Kept (fun b => b = g) w wr) (fun _ i _ => ((k : Int) - intOf i).toNat)
    case atStart => exact ⟨0, by omega, rfl, rfl, HROW0.out, Kept.refl _ _⟩
    case round =>
      obtain ⟨j, hj, rfl, rfl, hrow, hkept⟩ := hrel
      have HROW := Lib.hid hrow
      have HK := Lib.hid hkept
      have c0 : ∃ x, wr.cell? ⟨g, 0, none⟩ = some (.int .i64 x) := ⟨_, cell_of_row wr g 0 _ _ _ hrow⟩
      have f0 : wr.frozen? ⟨g, 0, none⟩ = false := frozen_of_row wr g 0 _ _ hrow
      obtain ⟨x0, c0⟩ := c0
      clear hrow hkept
      by_cases hjk : j < k
      · have hjs : j < s.size := by have := HZ.out; omega
        have hji : (j : Int) < (s.size : Int) := by omega
        have hjl : j < l.length := by have := HLS.out; omega
        obtain ⟨c, hc⟩ : ∃ c, s[j]'hjs = c := ⟨_, rfl⟩
        have hlc : l[j] = c := by
          have e : l[j] = s.data[j]'hjs := by simp only [HL.out]; simp
          rw [e]; exact hc
        have htk : l.take (j + 1) = l.take j ++ [c] := by rw [List.take_succ_eq_append_getElem hjl, hlc]
        obtain ⟨n0, hn0⟩ : ∃ n0, n0 = numL (l.take j) := ⟨_, rfl⟩
        obtain ⟨z, hz⟩ : ∃ z : Nat, z = (c - 48).toNat := ⟨_, rfl⟩
        have hzb : z < 256 := by rw [hz]; exact (c - 48).toNat_lt
        have hnb : 0 ≤ n0 ∧ n0 ≤ 290000 := by rw [hn0]; exact numL_bd _ (by rw [List.length_take]; omega)
        have HN : Hid (numL (l.take (j + 1)) = 10 * n0 + (z : Int)) := Lib.hid (by rw [htk, numL_snoc, hn0, hz])
        have hw1 : IntKind.u8.wrap ((c.toNat : Int) - 48) = (z : Int) := by rw [hz]; exact sub48 c
        have hw2 : IntKind.i64.wrap (10 * n0) = 10 * n0 := i64_id _ (by omega) (by omega)
        have hw3 : IntKind.i64.wrap (10 * n0 + (z : Int)) = 10 * n0 + (z : Int) := i64_id _ (by omega) (by omega)
        have hw4 : IntKind.i64.wrap (z : Int) = (z : Int) := i64_id _ (by omega) (by omega)
        have hw5 : IntKind.i64.wrap ((j : Int) + 1) = (j : Int) + 1 := i64_id _ (by omega) (by omega)
        have hcb := c.toNat_lt
        obtain ⟨X, hX⟩ : ∃ X : Nat, X = c.toNat := ⟨_, rfl⟩
        rw [← hX] at hw1
        have hX2 : c.toNat = X := hX.symm
        rw [← hn0]
        have HTK := Lib.hid htk
        clear hlc htk hn0 hz hX hcb
        by_cases hlo : (X : Int) < 48
        · have HV : Hid ((if (l.take (j + 1)).all isD = true then v else 7) = 7) := Lib.hid (by rw [HTK.out, List.all_append, isD_no c (by omega)]; simp)
          have HROWN : Hid ((wr.setCell ⟨g, 0, none⟩ (.int .i64 7)).heap[g]? = some (.cells #[.int .i64 7] 31 (0, 0))) := Lib.hid (heap_setCell_same _ _ _ _ _ _ HROW.out)
          go_wp2
          go_roundw
          case rel => exact ⟨j + 1, by omega, by go_num, by rw [HN.out], HROWN.out.trans (by rw [HV.out]), HK.out.setCell (fun _ => rfl) _⟩
          case measure => simp only [intOf]; omega
        · by_cases hhi : 57 < (X : Int)
          · have HV : Hid ((if (l.take (j + 1)).all isD = true then v else 7) = 7) := Lib.hid (by rw [HTK.out, List.all_append, isD_no c (by omega)]; simp)
            have HROWN : Hid ((wr.setCell ⟨g, 0, none⟩ (.int .i64 7)).heap[g]? = some (.cells #[.int .i64 7] 31 (0, 0))) := Lib.hid (heap_setCell_same _ _ _ _ _ _ HROW.out)
            go_wp2
            go_roundw
            case rel => exact ⟨j + 1, by omega, by go_num, by rw [HN.out], HROWN.out.trans (by rw [HV.out]), HK.out.setCell (fun _ => rfl) _⟩
            case measure => simp only [intOf]; omega
          · have HV : Hid ((if (l.take (j + 1)).all isD = true then v else 7) = (if (l.take j).all isD = true then v else 7)) := Lib.hid (by rw [HTK.out, List.all_append, isD_yes c (by omega) (by omega)]; simp)
            go_wp2
            go_roundw
            case rel => exact ⟨j + 1, by omega, by go_num, by rw [HN.out], HROW.out.trans (by rw [HV.out]), HK.out⟩
            case measure => simp only [intOf]; omega
      · obtain rfl : j = k := by omega
        have HT : Hid (l.take j = l) := Lib.hid (by rw [List.take_of_length_le]; have := HLS.out; have := HZ.out; omega)
        go_wp2
        go_ret
        have h := HROW.out
        rw [HT.out] at h ⊢
        refine ⟨rfl, ?_, HK.out⟩
        rw [h]
        unfold errV
        have hlk : l.length = j := by have := HLS.out; have := HZ.out; omega
        by_cases ha : l.all isD = true
        · rw [if_pos ha, if_pos ⟨hlk, ha⟩]
        · rw [if_neg ha, if_neg (fun h => ha h.2)]
  · have hz3 : ¬ (s.size : Int) = (k : Int) := by omega
    have HE : Hid (errV v s.data.toList k = 7) := Lib.hid (by unfold errV; rw [if_neg]; intro h; omega)
    rw [if_neg hz]
    have HR : Hid ((w.setCell ⟨g, 0, none⟩ (.int .i64 7)).heap[g]? = some (.cells #[.int .i64 7] 31 (0, 0))) := Lib.hid (heap_setCell_same _ _ _ _ _ _ hrow)
    clear hrow hls hz
    go_enter Tryd.func14, Tryd.ntmps14
    go_wp2
    go_ret
    rw [HE.out]
    exact ⟨rfl, HR.out, (Kept.refl (fun b => b = g) w).setCell (fun _ => rfl) _⟩
end Go.Proofs.YtcdjilnlmihnhaaDoor

/-
  Parse, the reference's (written by gen_IC.py).
-/
import Derived.Test.YtcoijmggfkjcjaaDoorIB
namespace Go.Proofs.YtcoijmggfkjcjaaDoor
open Go.RowKit
set_option linter.unusedSimpArgs false
set_option linter.unusedVariables false
attribute [local go_sem ↓] exec_storeDate
attribute [local go_sem] run_storeDate
def digV (l : List UInt8) : Int := if l.all isD = true then numL l else -1
theorem list_at {s : ByteArray} {l : List UInt8} (hl : l = s.data.toList) {i : Nat} (h : i < s.size) : ∃ h2 : i < l.length, l[i] = s[i]'h := by
  subst hl
  have h2 : i < s.data.toList.length := by rw [Array.length_toList]; exact h
  refine ⟨h2, ?_⟩
  have e : s.data.toList[i] = s.data[i]'h := by simp
  rw [e]
  rfl
set_option maxRecDepth 100000 in
set_option maxHeartbeats 2000000 in
theorem digits_any (s : ByteArray) (a k : Nat) (hk : k ≤ 4) (ha : a + k ≤ s.size) (hs : s.size ≤ 100) (w : World) :
    Calls Tryd.prog 55 #[.string s, .int .i64 (a : Int), .int .i64 ((a + k : Nat) : Int)] w fun e w' => e = .returned (.int .i64 (digV ((s.data.toList.drop a).take k))) ∧ w = w' := by
  obtain ⟨l, hl⟩ : ∃ l, l = s.data.toList := ⟨_, rfl⟩
  have hls : l.length = s.size := by rw [hl, Array.length_toList]; rfl
  rw [← hl]
  obtain ⟨b, hb⟩ : ∃ b, b = a + k := ⟨_, rfl⟩
  rw [← hb]
  have HL := Lib.hid hl
  have HLS := Lib.hid hls
  have HBB := Lib.hid hb
  clear hl hls hb
  go_enter Tryd.func55, Tryd.ntmps55
  go_wp2
  go_loopw [7, 8] (fun n i wr => wr = w ∧ ∃ j : Nat, j ≤ k ∧ i = .int .i64 ((a + j : Nat) : Int) ∧ n = .int .i64 (numL ((l.drop a).take j)) ∧ ((l.drop a).take j).all isD = true) (fun _ i _ => ((b : Int) - intOf i).toNat)
  case atStart => exact ⟨rfl, 0, by omega, rfl, rfl, rfl⟩
  case round =>
    obtain ⟨rfl, j, hj, rfl, rfl, hall⟩ := hrel
    obtain ⟨p, hp⟩ : ∃ p, p = a + j := ⟨_, rfl⟩
    rw [← hp]
    by_cases hjk : j < k
    · have hps : p < s.size := by omega
      have hpb : (p : Int) < (b : Int) := by have := HBB.out; omega
      have hpi : (p : Int) < (s.size : Int) := by omega
      obtain ⟨hpl, hlc⟩ := list_at HL.out hps
      obtain ⟨c, hc⟩ : ∃ c, s[p]'hps = c := ⟨_, rfl⟩
      rw [hc] at hlc
      have htk : (l.drop a).take (j + 1) = (l.drop a).take j ++ [c] := by
        rw [List.take_succ_eq_append_getElem (by rw [List.length_drop]; omega), List.getElem_drop, ← hlc]
        simp only [hp]
      obtain ⟨n0, hn0⟩ : ∃ n0, n0 = numL ((l.drop a).take j) := ⟨_, rfl⟩
      have hnb : 0 ≤ n0 ∧ n0 ≤ 290000 := by rw [hn0]; exact numL_bd _ (by rw [List.length_take]; omega)
      have hcb := c.toNat_lt
      obtain ⟨X, hX⟩ : ∃ X : Nat, X = c.toNat := ⟨_, rfl⟩
      have hX2 : c.toNat = X := hX.symm
      have HTK := Lib.hid htk
      have HALL := Lib.hid hall
      have HP := Lib.hid hp
      have hw5 : IntKind.i64.wrap ((p : Int) + 1) = (p : Int) + 1 := i64_id _ (by omega) (by omega)
      rw [← hn0]
      have HN0 := Lib.hid hn0
      clear hlc hpl htk hn0 hX hall hp
      have hbad : ((X : Int) < 48 ∨ 57 < (X : Int)) → Hid (digV ((l.drop a).take k) = -1) := fun h => Lib.hid (by
        unfold digV
        rw [if_neg]
        intro h2
        have e : (l.drop a).take (j + 1) = ((l.drop a).take k).take (j + 1) := by rw [List.take_take, Nat.min_eq_left (by omega)]
        have h3 : ((l.drop a).take (j + 1)).all isD = true := by
          rw [e, List.all_eq_true]
          intro x hx
          exact List.all_eq_true.1 h2 x (List.mem_of_mem_take hx)
        rw [HTK.out, List.all_append, isD_no c (by omega)] at h3
        simp at h3)
      by_cases hlo : (X : Int) < 48
      · have HR := hbad (.inl hlo)
        clear hbad hcb
        go_wp2
        go_ret
        rw [HR.out]
        exact ⟨rfl, rfl⟩
      · by_cases hhi : 57 < (X : Int)
        · have HR := hbad (.inr hhi)
          clear hbad hcb
          go_wp2
          go_ret
          rw [HR.out]
          exact ⟨rfl, rfl⟩
        · have hz : (((c - 48).toNat : Nat) : Int) = (X : Int) - 48 := by
            have h := sub48 c
            rw [hX2] at h
            rw [← h]
            show ((X : Int) - 48) % 256 = _
            omega
          have HN : Hid (numL ((l.drop a).take (j + 1)) = 10 * n0 + (X : Int) - 48) := Lib.hid (by rw [HTK.out, numL_snoc, ← HN0.out, hz]; omega)
          have HV : Hid (((l.drop a).take (j + 1)).all isD = true) := Lib.hid (by rw [HTK.out, List.all_append, HALL.out, isD_yes c (by omega) (by omega)]; rfl)
          have hw2 : IntKind.i64.wrap (10 * n0) = 10 * n0 := i64_id _ (by omega) (by omega)
          have hw3 : IntKind.i64.wrap (10 * n0 + (X : Int)) = 10 * n0 + (X : Int) := i64_id _ (by omega) (by omega)
          have hw6 : IntKind.i64.wrap (10 * n0 + (X : Int) - 48) = 10 * n0 + (X : Int) - 48 := i64_id _ (by omega) (by omega)
          have hw4 : IntKind.i64.wrap (X : Int) = (X : Int) := i64_id _ (by omega) (by omega)
          clear hbad hz
          go_wp2
          go_roundw
          case rel => exact ⟨trivial, j + 1, by omega, by have := HP.out; go_num, by rw [HN.out], HV.out⟩
          case measure => have := HBB.out; have := HP.out; simp only [intOf]; omega
    · obtain rfl : j = k := by omega
      have hpb : ¬ (p : Int) < (b : Int) := by have := HBB.out; omega
      have HR : Hid (digV ((l.drop a).take j) = numL ((l.drop a).take j)) := Lib.hid (by unfold digV; rw [if_pos hall])
      clear hall hp
      go_wp2
      go_ret
      rw [HR.out]
      exact ⟨rfl, rfl⟩
end Go.Proofs.YtcoijmggfkjcjaaDoor

/-
  Parse, the reference's (written by gen_ID.py).
-/
import Derived.Test.YtcoijmggfkjcjaaDoorIC
namespace Go.Proofs.YtcoijmggfkjcjaaDoor
open Go.RowKit
set_option linter.unusedSimpArgs false
set_option linter.unusedVariables false
attribute [local go_sem ↓] exec_storeDate
attribute [local go_sem] run_storeDate
theorem digV_neg {l : List UInt8} (h : l.length ≤ 4) : (digV l < 0 ↔ ¬ l.all isD = true) ∧ -1 ≤ digV l ∧ digV l ≤ 290000 ∧ (¬ digV l < 0 → digV l = numL l) := by
  have hb := numL_bd l h
  unfold digV
  by_cases ha : l.all isD = true
  · rw [if_pos ha]; exact ⟨⟨fun h => by omega, fun h => absurd ha h⟩, by omega, by omega, fun _ => rfl⟩
  · rw [if_neg ha]; exact ⟨⟨fun _ => ha, fun _ => by omega⟩, by omega, by omega, fun h => absurd (by omega) h⟩
theorem wellF_iff (l : List UInt8) (h : l.length = 10) : wellF l = true ↔ l.getD 4 0 = 45 ∧ l.getD 7 0 = 45 ∧ (l.take 4).all isD = true ∧ ((l.drop 5).take 2).all isD = true ∧ (l.drop 8).all isD = true := by
  unfold wellF
  rw [h]
  simp only [beq_self_eq_true, Bool.true_and, Bool.and_eq_true, beq_iff_eq]
  exact ⟨fun ⟨⟨⟨⟨a, b⟩, c⟩, d⟩, e⟩ => ⟨a, b, c, d, e⟩, fun ⟨a, b, c, d, e⟩ => ⟨⟨⟨⟨a, b⟩, c⟩, d⟩, e⟩⟩
theorem u8_45 (c : UInt8) : c = 45 ↔ (c.toNat : Int) = 45 := by
  constructor
  · rintro rfl; rfl
  · intro h
    have : c.toNat = 45 := by omega
    apply UInt8.toNat.inj
    rw [this]
    rfl
set_option maxRecDepth 100000 in
set_option maxHeartbeats 2000000 in
theorem refParse_any (s : ByteArray) (w : World) (hT : Tabs w) : Calls Tryd.prog 37 #[.string s] w fun e w' => e = .returned (.tuple #[.int .i64 (prsN s.data.toList), .int .i64 (prsE s.data.toList)]) ∧ Below w.heap.size w w' := by
  obtain ⟨l, hl⟩ : ∃ l, l = s.data.toList := ⟨_, rfl⟩
  have hls : l.length = s.size := by rw [hl, Array.length_toList]; rfl
  by_cases hz : s.size = 10
  · have hz2 : (s.size : Int) = 10 := by omega
    have h4 : 4 < s.size := by omega
    have h7 : 7 < s.size := by omega
    have h4i : (4 : Int) < (s.size : Int) := by omega
    have h7i : (7 : Int) < (s.size : Int) := by omega
    obtain ⟨hl4, e4⟩ := list_at hl h4
    obtain ⟨hl7, e7⟩ := list_at hl h7
    obtain ⟨c4, hc4⟩ : ∃ c, s[4]'h4 = c := ⟨_, rfl⟩
    obtain ⟨c7, hc7⟩ : ∃ c, s[7]'h7 = c := ⟨_, rfl⟩
    rw [hc4] at e4
    rw [hc7] at e7
    obtain ⟨X4, hX4⟩ : ∃ X : Nat, c4.toNat = X := ⟨_, rfl⟩
    obtain ⟨X7, hX7⟩ : ∃ X : Nat, c7.toNat = X := ⟨_, rfl⟩
    have hwf := wellF_iff l (by omega)
    have g4 : l.getD 4 0 = c4 := by rw [List.getD_eq_getElem?_getD, List.getElem?_eq_getElem hl4, e4]; rfl
    have g7 : l.getD 7 0 = c7 := by rw [List.getD_eq_getElem?_getD, List.getElem?_eq_getElem hl7, e7]; rfl
    rw [g4, g7, u8_45, u8_45, hX4, hX7] at hwf
    have hD1 := digits_any s 0 4 (by omega) (by omega) (by omega) w
    have hD2 := digits_any s 5 2 (by omega) (by omega) (by omega) w
    have hD3 := digits_any s 8 2 (by omega) (by omega) (by omega) w
    rw [← hl] at hD1 hD2 hD3
    have e0 : (l.drop 0).take 4 = l.take 4 := rfl
    have e8 : (l.drop 8).take 2 = l.drop 8 := by rw [List.take_of_length_le]; rw [List.length_drop]; omega
    rw [e0] at hD1
    rw [e8] at hD3
    have n1 := digV_neg (l := l.take 4) (by rw [List.length_take]; omega)
    have n2 := digV_neg (l := (l.drop 5).take 2) (by rw [List.length_take]; omega)
    have n3 := digV_neg (l := l.drop 8) (by rw [List.length_drop]; omega)
    obtain ⟨A, hA⟩ : ∃ A, A = digV (l.take 4) := ⟨_, rfl⟩
    obtain ⟨B, hB⟩ : ∃ B, B = digV ((l.drop 5).take 2) := ⟨_, rfl⟩
    obtain ⟨C, hC⟩ : ∃ C, C = digV (l.drop 8) := ⟨_, rfl⟩
    rw [← hA] at hD1 n1
    rw [← hB] at hD2 n2
    rw [← hC] at hD3 n3
    have HD1 : Hid (Calls Tryd.prog 55 #[.string s, .int .i64 0, .int .i64 4] w fun e w' => e = .returned (.int .i64 A) ∧ w = w') := Lib.hid hD1
    have HD2 : Hid (Calls Tryd.prog 55 #[.string s, .int .i64 5, .int .i64 7] w fun e w' => e = .returned (.int .i64 B) ∧ w = w') := Lib.hid hD2
    have HD3 : Hid (Calls Tryd.prog 55 #[.string s, .int .i64 8, .int .i64 10] w fun e w' => e = .returned (.int .i64 C) ∧ w = w') := Lib.hid hD3
    have HWF : Hid (wellF s.data.toList = true ↔ (X4 : Int) = 45 ∧ (X7 : Int) = 45 ∧ ¬ A < 0 ∧ ¬ B < 0 ∧ ¬ C < 0) := Lib.hid (by
      rw [← hl, hwf, n1.1, n2.1, n3.1]
      simp only [Classical.not_not])
    have hval : wellF s.data.toList = true → prsN s.data.toList = dayR A B C ∧ prsE s.data.toList = chk A B C := fun h => by
      have hw := HWF.out.1 h
      unfold prsN prsE
      rw [if_pos h, if_pos h, ← hl, ← n1.2.2.2 hw.2.2.1, ← n2.2.2.2 hw.2.2.2.1, ← n3.2.2.2 hw.2.2.2.2]
      exact ⟨rfl, rfl⟩
    have HVAL := Lib.hid hval
    have HT := Lib.hid hT
    have p6 : DB (w.alloc (.cells #[.int .i64 0, .int .i64 0, .int .i64 0] 23)) w.heap.size := ⟨0, 0, 0, heap_new0⟩
    clear hl hls hz hl4 e4 hl7 e7 hwf g4 g7 hD1 hD2 hD3 e0 e8 n1 n2 n3 hA hB hC hval hT
    go_enter Tryd.func37, Tryd.ntmps37
    go_upto_region 4 with (first
      | (go_at_call 55; refine (HD1.out).mono ?_; rintro e u ⟨rfl, rfl⟩; clear HD1)
      | (go_at_call 55; refine (HD2.out).mono ?_; rintro e u ⟨rfl, rfl⟩; clear HD2)
      | (go_at_call 55; refine (HD3.out).mono ?_; rintro e u ⟨rfl, rfl⟩; clear HD3))
    obtain ⟨w6, hw6⟩ : ∃ w6, w6 = (w.alloc (.cells #[.int .i64 0, .int .i64 0, .int .i64 0] 23)).setRow w.heap.size #[.int .i64 A, .int .i64 B, .int .i64 C] := ⟨_, rfl⟩
    obtain ⟨g4, hg4⟩ : ∃ g4, g4 = w.heap.size := ⟨_, rfl⟩
    have hrow : w6.heap[g4]? = some (.cells #[.int .i64 A, .int .i64 B, .int .i64 C] 23 (0, 0)) := by rw [hw6, hg4]; exact setRow_heap _ _ _ _ _ _ heap_new0
    have hb6 : Below w.heap.size w w6 := by rw [hw6]; exact (((Kept.refl (fun _ => False) w).alloc _).setRow (fun h => by omega) _).below (Nat.le_refl _) (fun _ _ h => h)
    have d0 : w6.cell? ⟨g4, 0, none⟩ = some (.int .i64 A) := cell_of_row w6 g4 0 _ _ _ hrow
    have d1 : w6.cell? ⟨g4, 1, none⟩ = some (.int .i64 B) := cell_of_row w6 g4 1 _ _ _ hrow
    have d2 : w6.cell? ⟨g4, 2, none⟩ = some (.int .i64 C) := cell_of_row w6 g4 2 _ _ _ hrow
    rw [← hw6]
    rw [← hg4]
    have HDAY := Lib.hid (refDay_any A B C w6 (HT.out.below hb6))
    have HB6 := Lib.hid hb6
    clear hw6 hg4 hrow hb6 p6
    by_cases k1 : (X4 : Int) = 45
    · by_cases k2 : (X7 : Int) = 45
      · by_cases k3 : A < 0
        · clear HVAL
          have HR : Hid (prsN s.data.toList = 0 ∧ prsE s.data.toList = 7) := Lib.hid (by
            have hn : ¬ wellF s.data.toList = true := fun h => by
              have hw := HWF.out.1 h
              have := hw.2.2.1; omega
            unfold prsN prsE
            rw [if_neg hn, if_neg hn]
            exact ⟨rfl, rfl⟩)
          clear HWF HDAY
          go_wp2_with fail
          go_ret2
          rw [HR.out.1, HR.out.2]
          exact ⟨rfl, HB6.out⟩
        · by_cases k4 : B < 0
          · clear HVAL
            have HR : Hid (prsN s.data.toList = 0 ∧ prsE s.data.toList = 7) := Lib.hid (by
              have hn : ¬ wellF s.data.toList = true := fun h => by
                have hw := HWF.out.1 h
                have := hw.2.2.2.1; omega
              unfold prsN prsE
              rw [if_neg hn, if_neg hn]
              exact ⟨rfl, rfl⟩)
            clear HWF HDAY
            go_wp2_with fail
            go_ret2
            rw [HR.out.1, HR.out.2]
            exact ⟨rfl, HB6.out⟩
          · by_cases k5 : C < 0
            · clear HVAL
              have HR : Hid (prsN s.data.toList = 0 ∧ prsE s.data.toList = 7) := Lib.hid (by
                have hn : ¬ wellF s.data.toList = true := fun h => by
                  have hw := HWF.out.1 h
                  have := hw.2.2.2.2; omega
                unfold prsN prsE
                rw [if_neg hn, if_neg hn]
                exact ⟨rfl, rfl⟩)
              clear HWF HDAY
              go_wp2_with fail
              go_ret2
              rw [HR.out.1, HR.out.2]
              exact ⟨rfl, HB6.out⟩
            · have HR := Lib.hid (HVAL.out (HWF.out.2 ⟨k1, k2, by omega, by omega, by omega⟩))
              clear HVAL HWF
              go_wp2_with (go_at_call 17; refine HDAY.out.mono ?_; rintro e w7 ⟨rfl, hb⟩; have HB7 := Lib.hid hb; clear hb)
              go_ret2
              rw [HR.out.1, HR.out.2]
              exact ⟨rfl, HB6.out.trans (HB7.out.mono HB6.out.size)⟩
      · clear HVAL
        have HR : Hid (prsN s.data.toList = 0 ∧ prsE s.data.toList = 7) := Lib.hid (by
          have hn : ¬ wellF s.data.toList = true := fun h => by
            have hw := HWF.out.1 h
            exact k2 hw.2.1
          unfold prsN prsE
          rw [if_neg hn, if_neg hn]
          exact ⟨rfl, rfl⟩)
        clear HWF HDAY
        go_wp2_with fail
        go_ret2
        rw [HR.out.1, HR.out.2]
        exact ⟨rfl, HB6.out⟩
    · clear HVAL
      have HR : Hid (prsN s.data.toList = 0 ∧ prsE s.data.toList = 7) := Lib.hid (by
        have hn : ¬ wellF s.data.toList = true := fun h => by
          have hw := HWF.out.1 h
          exact k1 hw.1
        unfold prsN prsE
        rw [if_neg hn, if_neg hn]
        exact ⟨rfl, rfl⟩)
      clear HWF HDAY
      go_wp2_with fail
      go_ret2
      rw [HR.out.1, HR.out.2]
      exact ⟨rfl, HB6.out⟩
  · have hz2 : ¬ (s.size : Int) = 10 := by omega
    have HR : Hid (prsN s.data.toList = 0 ∧ prsE s.data.toList = 7) := Lib.hid (by
      have hn : ¬ wellF s.data.toList = true := fun h => by
        obtain ⟨a, b, c, e, la, lb, lc, -⟩ := of_wellF _ h
        rw [← hl] at e
        rw [e] at hls
        simp at hls
        omega
      unfold prsN prsE
      rw [if_neg hn, if_neg hn]
      exact ⟨rfl, rfl⟩)
    clear hl hls hz hT
    go_enter Tryd.func37, Tryd.ntmps37
    go_wp2_with fail
    go_ret2
    rw [HR.out.1, HR.out.2]
    exact ⟨rfl, Below.refl _ _⟩
end Go.Proofs.YtcoijmggfkjcjaaDoor

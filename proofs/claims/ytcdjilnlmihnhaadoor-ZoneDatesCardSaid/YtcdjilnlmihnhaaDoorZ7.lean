/-
  Numbers: what the reference and the laws compute with (written by gen_Z7.py).
-/
import Derived.Test.YtcdjilnlmihnhaaDoorZ6
namespace Go.Proofs.YtcdjilnlmihnhaaDoor
open Go.RowKit
set_option linter.unusedSimpArgs false
set_option linter.unusedVariables false
theorem ret_intZ {k : IntKind} {a b : Int} (h : a = b) : Ending.returned (.int k a) = .returned (.int k b) := by rw [h]
/-- n modulo most, as the laws reckon it -/
def aroundZ (n most : Int) : Int := if n < 0 then -(n + 1) % most else n % most
theorem aroundZ_bd (n most : Int) (h : 0 < most) : 0 ≤ aroundZ n most ∧ aroundZ n most < most := by
  unfold aroundZ
  split
  · exact ⟨Int.emod_nonneg _ (by omega), Int.emod_lt_of_pos _ h⟩
  · exact ⟨Int.emod_nonneg _ (by omega), Int.emod_lt_of_pos _ h⟩
theorem aroundZ_any (n most : Int) (w : World) (h1 : -9223372036854775808 ≤ n) (h2 : n ≤ 9223372036854775807) (h3 : 0 < most) (h4 : most ≤ 9223372036854775807) :
    Calls Tryd.prog 5 #[.int .i64 n, .int .i64 most] w fun e w' => e = .returned (.int .i64 (aroundZ n most)) ∧ w = w' := by
  by_cases hn : n < 0
  · have hw1 : IntKind.i64.wrap (n + 1) = n + 1 := i64_id _ (by omega) (by omega)
    have hw2 : IntKind.i64.wrap (-(n + 1)) = -(n + 1) := i64_id _ (by omega) (by omega)
    have HA : Hid (aroundZ n most = -(n + 1) % most) := Lib.hid (by unfold aroundZ; rw [if_pos hn])
    go_enter Tryd.func5, Tryd.ntmps5
    go_wp2
    go_ret
    have e : -(n + 1).tmod most = -(n + 1) % most := by rw [← Int.neg_tmod, Int.tmod_eq_emod_of_nonneg (by omega)]
    refine ⟨ret_intZ ?_, rfl⟩
    rw [HA.out, ← e]
  · have HA : Hid (aroundZ n most = n % most) := Lib.hid (by unfold aroundZ; rw [if_neg hn])
    go_enter Tryd.func5, Tryd.ntmps5
    go_wp2
    go_ret
    exact ⟨ret_intZ (by rw [HA.out]), rfl⟩
theorem Is.cellsZ {D : Nat → Prop} {w : World} {a : Option Addr} {n c : Nat} {l : List Int} (h : Is D w a n c l) (hn : 0 < n) : ∃ b off, D b ∧ b < w.heap.size ∧ a = some ⟨b, off, none⟩ ∧ ∀ i (hi : i < l.length), w.cell? ⟨b, off + i, none⟩ = some (.int .i64 l[i]) := by
  obtain ⟨h1, h2, h3, h4, h5, h6⟩ := h
  obtain ⟨b, off, hD, ha, hr⟩ := h6 hn
  exact ⟨b, off, hD, range_lt hr (by rw [ivals_len]; omega), ha, fun i hi => hr i _ (by simp [ivals, hi])⟩
set_option maxRecDepth 100000 in
set_option maxHeartbeats 800000 in
theorem sameIntsZ_any (D1 D2 : Nat → Prop) (a1 : Option Addr) (n1 c1 : Nat) (l1 : List Int) (a2 : Option Addr) (n2 c2 : Nat) (l2 : List Int) (w : World) (h1 : Is D1 w a1 n1 c1 l1) (h2 : Is D2 w a2 n2 c2 l2) :
    Calls Tryd.prog 21 #[.slice a1 n1 c1, .slice a2 n2 c2] w fun e w' => e = .returned (.bool (l1 == l2)) ∧ Below w.heap.size w w' := by
  have hm1 : n1 ≤ c1 := h1.2.2.1
  have hm2 : c1 ≤ 9223372036854775807 := h1.2.2.2.1
  have H1 := Lib.hid h1
  have H2 := Lib.hid h2
  clear h1 h2
  by_cases hn : n1 = n2
  · subst hn
    obtain ⟨B, hB⟩ : ∃ B, B = (l1 == l2) := ⟨_, rfl⟩
    rw [← hB]
    have HB := Lib.hid hB
    clear hB
    go_enter Tryd.func21, Tryd.ntmps21
    go_wp2
    go_loopw [5] (fun t wr => ∃ i : Nat, i ≤ n1 ∧ t = .int .i64 (i : Int) ∧ l1.take i = l2.take i ∧ ∃ d, wr = w.drewN d) (fun t _ => n1 - (intOf t).toNat)
    case atStart => exact ⟨0, Nat.zero_le _, rfl, rfl, 0, rfl⟩
    case round =>
      obtain ⟨i, hi, rfl, htk, d, rfl⟩ := hrel
      have Htk := Lib.hid htk
      clear htk
      by_cases hlt : i < n1
      · have hl1 : i < l1.length := by have := H1.out.1; omega
        have hl2 : i < l2.length := by have := H2.out.1; omega
        obtain ⟨b1, o1, -, -, rfl, hc1⟩ := H1.out.cellsZ (by omega)
        obtain ⟨b2, o2, -, -, rfl, hc2⟩ := H2.out.cellsZ (by omega)
        have hx := hc1 i hl1
        have hy := hc2 i hl2
        have Hs1 := Lib.hid (List.take_succ_eq_append_getElem hl1)
        have Hs2 := Lib.hid (List.take_succ_eq_append_getElem hl2)
        have Hg1 := Lib.hid (List.getElem?_eq_getElem hl1)
        have Hg2 := Lib.hid (List.getElem?_eq_getElem hl2)
        clear hc1 hc2
        generalize l1[i] = x at *
        generalize l2[i] = y at *
        by_cases hxy : x = y
        · subst hxy
          go_wp2
          go_quiet (fail)
          go_wp2
          go_roundw
          case rel => exact ⟨i + 1, by omega, by go_num, by rw [Hs1.out, Hs2.out, Htk.out], _, rfl⟩
          case measure => simp [intOf]; omega
        · have hb : (x == y) = false := by rw [beq_eq_false_iff_ne]; exact hxy
          have hb2 : (x != y) = true := by rw [bne_iff_ne]; exact hxy
          have HN : Hid ((l1 == l2) = false) := Lib.hid (by
            rw [beq_eq_false_iff_ne]
            intro e
            have h1 := Hg1.out
            rw [e, Hg2.out] at h1
            exact hxy (Option.some.inj h1).symm)
          go_wp2
          go_quiet (fail)
          go_wp2
          go_ret
          exact ⟨by rw [HB.out, HN.out]; rfl, ⟨rfl, rfl, rfl, Nat.le_refl _, fun _ _ => rfl⟩⟩
      · obtain rfl : i = n1 := by omega
        have HE : Hid ((l1 == l2) = true) := Lib.hid (by
          have h := Htk.out
          rw [List.take_of_length_le (by have := H1.out.1; omega), List.take_of_length_le (by have := H2.out.1; omega)] at h
          rw [h]; exact beq_self_eq_true l2)
        go_wp2
        go_ret
        exact ⟨by rw [HB.out, HE.out]; rfl, ⟨rfl, rfl, rfl, Nat.le_refl _, fun _ _ => rfl⟩⟩
  · have hne : ((n1 : Int) != (n2 : Int)) = true := by rw [bne_iff_ne]; omega
    have hne2 : ((n1 : Int) == (n2 : Int)) = false := by rw [beq_eq_false_iff_ne]; omega
    have HB : Hid ((l1 == l2) = false) := Lib.hid (by rw [beq_eq_false_iff_ne]; intro e; have := H1.out.1; have := H2.out.1; rw [e] at *; omega)
    go_enter Tryd.func21, Tryd.ntmps21
    go_wp2
    go_ret
    exact ⟨by rw [HB.out]; rfl, Below.refl _ _⟩
def Ok64Z (l : List Int) : Prop := ∀ x ∈ l, -9223372036854775808 ≤ x ∧ x ≤ 9223372036854775807
/-- what Pick returns -/
def pickZ (l : List Int) (i : Nat) (most : Int) : Int := match l[i]? with
  | some x => aroundZ x most
  | none => 0
set_option maxRecDepth 100000 in
set_option maxHeartbeats 1000000 in
theorem pickZ_any {D : Nat → Prop} {w : World} {a : Option Addr} {n c : Nat} {l : List Int} (h : Is D w a n c l) (hk : Ok64Z l) (i : Nat) (hi : i ≤ 1000000) (most : Int) (h0 : 0 < most) (h63 : most ≤ 1000000) :
    Calls Tryd.prog 10 #[.slice a n c, .int .i64 (i : Int), .int .i64 most] w fun e w' => e = .returned (.int .i64 (pickZ l i most)) ∧ w = w' := by
  have hl := h.1
  have hnc := h.2.2.1
  have hcm : c ≤ 9223372036854775807 := h.2.2.2.1
  have hi0 : ¬ (i : Int) < 0 := by omega
  by_cases hlt : i < n
  · obtain ⟨b, off, -, hbs, rfl, hcell⟩ := h.cellsZ (by omega)
    have hil : i < l.length := by omega
    have c0 := hcell i hil
    obtain ⟨x, hx⟩ : ∃ x, x = l[i]'hil := ⟨_, rfl⟩
    have hxb := hk _ (List.getElem_mem hil)
    have HP : Hid (pickZ l i most = aroundZ x most) := Lib.hid (by unfold pickZ; rw [List.getElem?_eq_getElem hil, hx])
    rw [← hx] at c0 hxb
    have HA := Lib.hid (aroundZ_any x most w hxb.1 hxb.2 h0 (by omega))
    have hlt2 : (i : Int) < (n : Int) := by omega
    clear hcell hx hxb h h0 h63 hk hil hlt
    go_enter Tryd.func10, Tryd.ntmps10
    go_wp2_with (go_at_call 5; refine HA.out.mono ?_; rintro e w2 ⟨rfl, rfl⟩)
    go_ret
    exact ⟨by rw [HP.out]; rfl, rfl⟩
  · have hge : (n : Int) ≤ (i : Int) := by omega
    have HP : Hid (pickZ l i most = 0) := Lib.hid (by unfold pickZ; rw [List.getElem?_eq_none (by omega)])
    clear hlt h h0 h63 hk
    go_enter Tryd.func10, Tryd.ntmps10
    go_wp2
    go_ret
    exact ⟨by rw [HP.out]; rfl, rfl⟩
theorem pickZ_bd {l : List Int} {i : Nat} {most : Int} (h0 : 0 < most) : 0 ≤ pickZ l i most ∧ pickZ l i most < most := by
  unfold pickZ
  cases l[i]? with
  | none => exact ⟨Int.le_refl _, h0⟩
  | some x => exact aroundZ_bd x most h0
/-- Bound, as the laws reckon it -/
def boundZ (n most : Int) : Int := aroundZ n (2 * most + 1) - most
theorem boundZ_bd (n most : Int) (h : 0 ≤ most) : -most ≤ boundZ n most ∧ boundZ n most ≤ most := by
  have := aroundZ_bd n (2 * most + 1) (by omega)
  unfold boundZ
  omega
theorem ret_boolZ {a b : Bool} (h : a = b) : Ending.returned (.bool a) = .returned (.bool b) := by rw [h]
theorem allowedZ_any (n : Int) (w : World) : Calls Tryd.prog 30 #[.int .i64 n] w fun e w' => e = .returned (.bool (decide (-900 ≤ n ∧ n ≤ 900))) ∧ w = w' := by
  obtain ⟨B, hB⟩ : ∃ B, B = decide (-900 ≤ n ∧ n ≤ 900) := ⟨_, rfl⟩
  rw [← hB]
  by_cases h1 : -900 ≤ n
  · by_cases h2 : n ≤ 900
    · have HB : Hid (B = true) := Lib.hid (by rw [hB]; simp [h1, h2]; try omega)
      clear hB
      go_enter Tryd.func30, Tryd.ntmps30
      go_wp2
      go_ret
      exact ⟨ret_boolZ HB.out.symm, rfl⟩
    · have HB : Hid (B = false) := Lib.hid (by rw [hB]; simp [h2]; try omega)
      clear hB
      go_enter Tryd.func30, Tryd.ntmps30
      go_wp2
      go_ret
      exact ⟨ret_boolZ HB.out.symm, rfl⟩
  · have HB : Hid (B = false) := Lib.hid (by rw [hB]; simp [h1]; try omega)
    clear hB
    go_enter Tryd.func30, Tryd.ntmps30
    go_wp2
    go_ret
    exact ⟨ret_boolZ HB.out.symm, rfl⟩
/-- an instant of the laws -/
def instZ (n : Int) (far : Bool) : Int := if far then boundZ n 1099511627776 else boundZ n 500000
theorem instZ_bd (n : Int) (far : Bool) : -1099511627776 ≤ instZ n far ∧ instZ n far ≤ 1099511627776 := by
  have h1 := boundZ_bd n 1099511627776 (by omega)
  have h2 := boundZ_bd n 500000 (by omega)
  unfold instZ
  split <;> omega
end Go.Proofs.YtcdjilnlmihnhaaDoor

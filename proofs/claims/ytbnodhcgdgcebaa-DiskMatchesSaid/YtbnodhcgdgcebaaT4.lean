/-
  The laws' helpers over numbers and bytes.
-/
import Derived.Test.YtbnodhcgdgcebaaT3
import Derived.Deep.QuietTactic
import Derived.BigQuiet
import Derived.Laws.BytesString
import Derived.Laws.AppendOwnNone
namespace Go.Proofs.Ytbnodhcgdgcebaa
open Go.RowKit
set_option linter.unusedSimpArgs false
set_option linter.unusedVariables false
theorem Bs.cells {D : Nat → Prop} {w : World} {a : Option Addr} {n c : Nat} {l : List UInt8} (h : Bs D w a n c l) (hn : 0 < n) : ∃ b off, D b ∧ b < w.heap.size ∧ a = some ⟨b, off, none⟩ ∧ ∀ i (hi : i < l.length), w.cell? ⟨b, off + i, none⟩ = some (.int .u8 (l[i].toNat : Int)) := by
  obtain ⟨h1, h2, h3, h4, h5, h6⟩ := h
  obtain ⟨b, off, hD, ha, hr⟩ := h6 hn
  exact ⟨b, off, hD, range_lt hr (by rw [vals_len]; omega), ha, fun i hi => hr i _ (by simp [vals, hi])⟩
theorem u8_under : Try.prog.underlying 5 = some (.int .u8) := Try.underlying5
theorem str_under : Try.prog.underlying 9 = some .string := Try.underlying9
/-- a slice of bytes as a string -/
theorem run_str {D : Nat → Prop} {w : World} {a : Option Addr} {n c : Nat} {l : List UInt8} (h : Bs D w a n c l) :
    (convert 32 9 (.slice a n c)).run Try.prog w = .ok (.string ⟨l.toArray⟩) w := by
  obtain ⟨h1, h2, h3, h4, h5, h6⟩ := h
  subst h1
  cases a with
  | none =>
    have := h5 rfl
    have hl : l = [] := List.eq_nil_of_length_eq_zero (by omega)
    subst hl
    exact run_convert_bytes_nil w 32 5 Try.underlying32 u8_under _ _ _ str_under
  | some ad =>
    refine run_convert_bytes_back w 32 9 5 ad c l Try.underlying32 u8_under str_under (fun j hj => ?_)
    obtain ⟨b, off, _, ha, hc⟩ := h6 (by omega)
    obtain rfl : ad = ⟨b, off, none⟩ := Option.some.inj ha
    rw [Addr.add_mid, hc j (.int .u8 (l[j].toNat : Int)) (by simp [vals, hj])]
/-- new bytes: nobody else's -/
def Made (w : World) (v : Value) (l : List UInt8) (w' : World) : Prop :=
  ∃ k, Own w' 5 1 k v l.length (vals l) ∧ (∀ j, k = some j → w.heap.size ≤ j) ∧ Below w.heap.size w w'
theorem Own.bs {w : World} {k : Option Nat} {v : Value} {l : List UInt8} (h : Own w 5 1 k v l.length (vals l)) : ∃ a c, v = .slice a l.length c ∧ Bs (fun b => k = some b) w a l.length c l := by
  obtain ⟨a, c, hv, hs⟩ := h.sl
  exact ⟨a, c, hv, rfl, hs⟩
theorem Bs.src {P : Program} {D : Nat → Prop} {w : World} {a : Option Addr} {n c : Nat} {l : List UInt8} {tx e' : TypeId} (h : Bs D w a n c l) (hk : P.underlying tx = some (.slice e')) : Src P 1 tx (.slice a n c) n (vals l) w := h.2.src hk (vals_one l)
theorem Made.bs {w w' : World} {v : Value} {l : List UInt8} (h : Made w v l w') : ∃ a c, v = .slice a l.length c ∧ Bs (fun b => w.heap.size ≤ b) w' a l.length c l := by
  obtain ⟨k, ho, hf, hb⟩ := h
  obtain ⟨a, c, hv, hs⟩ := ho.bs
  exact ⟨a, c, hv, hs.dom hf⟩
theorem Is.cells {D : Nat → Prop} {w : World} {a : Option Addr} {n c : Nat} {l : List Int} (h : Is D w a n c l) (hn : 0 < n) : ∃ b off, D b ∧ b < w.heap.size ∧ a = some ⟨b, off, none⟩ ∧ ∀ i (hi : i < l.length), w.cell? ⟨b, off + i, none⟩ = some (.int .i64 l[i]) := by
  obtain ⟨h1, h2, h3, h4, h5, h6⟩ := h
  obtain ⟨b, off, hD, ha, hr⟩ := h6 hn
  exact ⟨b, off, hD, range_lt hr (by rw [ivals_len]; omega), ha, fun i hi => hr i _ (by simp [ivals, hi])⟩
theorem ret_int {k : IntKind} {a b : Int} (h : a = b) : Ending.returned (.int k a) = .returned (.int k b) := by rw [h]
theorem vals_take (l : List UInt8) (n : Nat) : vals (l.take n) = (vals l).take n := by simp [vals, List.map_take]
theorem Bs.upto {D : Nat → Prop} {w : World} {a : Option Addr} {n c : Nat} {l : List UInt8} (h : Bs D w a n c l) (F : Nat) (hF : F ≤ n) : Bs D w a F c (l.take F) := by
  obtain ⟨h1, h2, h3, h4, h5, h6⟩ := h
  refine ⟨by rw [List.length_take]; omega, ?_, by omega, h4, h5, fun hp => ?_⟩
  · rw [vals_len, List.length_take]; omega
  · obtain ⟨b, off, hD, ha, hr⟩ := h6 (by omega)
    refine ⟨b, off, hD, ha, fun j v hv => hr j v ?_⟩
    rw [vals_take, List.getElem?_take] at hv
    split at hv
    · exact hv
    · cases hv
def FreshI (w : World) (v : Value) (l : List Int) (w' : World) : Prop := ∃ kk, Own w' 3 1 kk v l.length (ivals l) ∧ ∀ j, kk = some j → w.heap.size ≤ j
/-- n modulo most, as the laws reckon it -/
def around (n most : Int) : Int := if n < 0 then -(n + 1) % most else n % most
theorem around_bd (n most : Int) (h : 0 < most) : 0 ≤ around n most ∧ around n most < most := by
  unfold around
  split
  · exact ⟨Int.emod_nonneg _ (by omega), Int.emod_lt_of_pos _ h⟩
  · exact ⟨Int.emod_nonneg _ (by omega), Int.emod_lt_of_pos _ h⟩
theorem around_any (n most : Int) (w : World) (h1 : -9223372036854775808 ≤ n) (h2 : n ≤ 9223372036854775807) (h3 : 0 < most) (h4 : most ≤ 9223372036854775807) :
    Calls Try.prog 14 #[.int .i64 n, .int .i64 most] w fun e w' => e = .returned (.int .i64 (around n most)) ∧ w = w' := by
  by_cases hn : n < 0
  · have hw1 : IntKind.i64.wrap (n + 1) = n + 1 := i64_id _ (by omega) (by omega)
    have hw2 : IntKind.i64.wrap (-(n + 1)) = -(n + 1) := i64_id _ (by omega) (by omega)
    have HA : Hid (around n most = -(n + 1) % most) := Lib.hid (by unfold around; rw [if_pos hn])
    go_enter Try.func14, Try.ntmps14
    go_wp2
    go_ret
    have e : -(n + 1).tmod most = -(n + 1) % most := by rw [← Int.neg_tmod, Int.tmod_eq_emod_of_nonneg (by omega)]
    refine ⟨ret_int ?_, rfl⟩
    rw [HA.out, ← e]
  · have HA : Hid (around n most = n % most) := Lib.hid (by unfold around; rw [if_neg hn])
    go_enter Try.func14, Try.ntmps14
    go_wp2
    go_ret
    exact ⟨ret_int (by rw [HA.out]), rfl⟩
set_option maxRecDepth 100000 in
set_option maxHeartbeats 400000 in
theorem few_any (D : Nat → Prop) (a : Option Addr) (n c most : Nat) (l : List UInt8) (w : World) (hB : Bs D w a n c l) (hm : most ≤ 1000000000) :
    Calls Try.prog 33 #[.slice a n c, .int .i64 (most : Int)] w fun e w' => ∃ v, e = .returned v ∧ Made w v (l.take most) w' := by
  obtain ⟨i0, hi, hz0, hz1, hz2⟩ := info_parts info5
  have hc1 : n ≤ c := hB.2.2.1
  have hc2 : c ≤ 9223372036854775807 := hB.2.2.2.1
  have HL := Lib.hid hB.1
  by_cases h : n ≤ most
  · have HU := Lib.hid (hB.upto n (Nat.le_refl _))
    have e1 : min (n : Int) (most : Int) = (n : Int) := by omega
    clear hB
    go_enter Try.func33, Try.ntmps33
    go_wp2_with (at_builtin; refine wpList_append_any _ rfl (.tmp 6) (.tmp 12) 32 32 rfl 5 i0 (.int .u8 0) 1 1 Try.underlying32 hi hz0 hz1 hz2 rfl none _ 0 [] rfl (Own.nil w _ _) n (vals (l.take n)) (HU.out.src Try.underlying32) (by unfold maxLen; omega) (by omega) ?_)
    intro k' v' w' ho hf hK hn
    have R : Made w v' (l.take most) w' := ⟨k', by
      have e2 : l.take most = l.take n := by rw [List.take_of_length_le (by have := HL.out; omega), List.take_of_length_le (by have := HL.out; omega)]
      rw [e2, HU.out.1]; exact ho, fun j hj => hf j hj, hK.below (Nat.le_refl _) (fun j _ h => by cases h)⟩
    have HR := Lib.hid R
    clear R ho hf hK hn
    go_wp2
    go_ret
    exact ⟨_, rfl, HR.out⟩
  · have HU := Lib.hid (hB.upto most (by omega))
    have e1 : min (n : Int) (most : Int) = (most : Int) := by omega
    clear hB
    go_enter Try.func33, Try.ntmps33
    go_wp2_with (at_builtin; refine wpList_append_any _ rfl (.tmp 6) (.tmp 12) 32 32 rfl 5 i0 (.int .u8 0) 1 1 Try.underlying32 hi hz0 hz1 hz2 rfl none _ 0 [] rfl (Own.nil w _ _) most (vals (l.take most)) (HU.out.src Try.underlying32) (by unfold maxLen; omega) (by omega) ?_)
    intro k' v' w' ho hf hK hn
    have R : Made w v' (l.take most) w' := ⟨k', by rw [HU.out.1]; exact ho, fun j hj => hf j hj, hK.below (Nat.le_refl _) (fun j _ h => by cases h)⟩
    have HR := Lib.hid R
    clear R ho hf hK hn
    go_wp2
    go_ret
    exact ⟨_, rfl, HR.out⟩
theorem sameBytes_any (D1 D2 : Nat → Prop) (a1 : Option Addr) (n1 c1 : Nat) (l1 : List UInt8) (a2 : Option Addr) (n2 c2 : Nat) (l2 : List UInt8) (w : World) (h1 : Bs D1 w a1 n1 c1 l1) (h2 : Bs D2 w a2 n2 c2 l2) :
    Calls Try.prog 22 #[.slice a1 n1 c1, .slice a2 n2 c2] w fun e w' => e = .returned (.bool (l1 == l2)) ∧ w = w' := by
  have r1 := run_str h1
  have r2 := run_str h2
  clear h1 h2
  go_enter Try.func22, Try.ntmps22
  go_wp2
  go_ret
  exact ⟨rfl, rfl⟩
theorem ivals_take (l : List Int) (n : Nat) : ivals (l.take n) = (ivals l).take n := by simp [ivals, List.map_take]
theorem Is.upto {D : Nat → Prop} {w : World} {a : Option Addr} {n c : Nat} {l : List Int} (h : Is D w a n c l) (F : Nat) (hF : F ≤ n) : Is D w a F c (l.take F) := by
  obtain ⟨h1, h2, h3, h4, h5, h6⟩ := h
  refine ⟨by rw [List.length_take]; omega, ?_, by omega, h4, h5, fun hp => ?_⟩
  · rw [ivals_len, List.length_take]; omega
  · obtain ⟨b, off, hD, ha, hr⟩ := h6 (by omega)
    refine ⟨b, off, hD, ha, fun j v hv => hr j v ?_⟩
    rw [ivals_take, List.getElem?_take] at hv
    split at hv
    · exact hv
    · cases hv
theorem Is.src {P : Program} {D : Nat → Prop} {w : World} {a : Option Addr} {n c : Nat} {l : List Int} {tx e' : TypeId} (h : Is D w a n c l) (hk : P.underlying tx = some (.slice e')) : Src P 1 tx (.slice a n c) n (ivals l) w := h.2.src hk (ivals_one l)
/-- new numbers, nothing else changed -/
def MadeI (w : World) (v : Value) (l : List Int) (w' : World) : Prop := FreshI w v l w' ∧ Below w.heap.size w w'
set_option maxRecDepth 100000 in
set_option maxHeartbeats 400000 in
theorem copiedI_any (D : Nat → Prop) (a : Option Addr) (n c most : Nat) (l : List Int) (w : World) (hB : Is D w a n c l) (hm : most ≤ 1000000000) :
    Calls Try.prog 40 #[.slice a n c, .int .i64 (most : Int)] w fun e w' => ∃ v, e = .returned v ∧ MadeI w v (l.take most) w' := by
  obtain ⟨i0, hi, hz0, hz1, hz2⟩ := info_parts info3
  have hc1 : n ≤ c := hB.2.2.1
  have hc2 : c ≤ 9223372036854775807 := hB.2.2.2.1
  have HL := Lib.hid hB.1
  by_cases h : n ≤ most
  · have HU := Lib.hid (hB.upto n (Nat.le_refl _))
    have e1 : min (n : Int) (most : Int) = (n : Int) := by omega
    clear hB
    go_enter Try.func40, Try.ntmps40
    go_wp2_with (at_builtin; refine wpList_append_any _ rfl (.tmp 6) (.tmp 12) 64 64 rfl 3 i0 (.int .i64 0) 1 8 Try.underlying64 hi hz0 hz1 hz2 rfl none _ 0 [] rfl (Own.nil w _ _) n (ivals (l.take n)) (HU.out.src Try.underlying64) (by unfold maxLen; omega) (by omega) ?_)
    intro k' v' w' ho hf hK hn
    have R : MadeI w v' (l.take most) w' := ⟨⟨k', by
      have e2 : l.take most = l.take n := by rw [List.take_of_length_le (by have := HL.out; omega), List.take_of_length_le (by have := HL.out; omega)]
      rw [e2, HU.out.1]; exact ho, fun j hj => hf j hj⟩, hK.below (Nat.le_refl _) (fun j _ h => by cases h)⟩
    have HR := Lib.hid R
    clear R ho hf hK hn
    go_wp2
    go_ret
    exact ⟨_, rfl, HR.out⟩
  · have HU := Lib.hid (hB.upto most (by omega))
    have e1 : min (n : Int) (most : Int) = (most : Int) := by omega
    clear hB
    go_enter Try.func40, Try.ntmps40
    go_wp2_with (at_builtin; refine wpList_append_any _ rfl (.tmp 6) (.tmp 12) 64 64 rfl 3 i0 (.int .i64 0) 1 8 Try.underlying64 hi hz0 hz1 hz2 rfl none _ 0 [] rfl (Own.nil w _ _) most (ivals (l.take most)) (HU.out.src Try.underlying64) (by unfold maxLen; omega) (by omega) ?_)
    intro k' v' w' ho hf hK hn
    have R : MadeI w v' (l.take most) w' := ⟨⟨k', by rw [HU.out.1]; exact ho, fun j hj => hf j hj⟩, hK.below (Nat.le_refl _) (fun j _ h => by cases h)⟩
    have HR := Lib.hid R
    clear R ho hf hK hn
    go_wp2
    go_ret
    exact ⟨_, rfl, HR.out⟩
set_option maxRecDepth 100000 in
set_option maxHeartbeats 800000 in
theorem sameInts_any (D1 D2 : Nat → Prop) (a1 : Option Addr) (n1 c1 : Nat) (l1 : List Int) (a2 : Option Addr) (n2 c2 : Nat) (l2 : List Int) (w : World) (h1 : Is D1 w a1 n1 c1 l1) (h2 : Is D2 w a2 n2 c2 l2) :
    Calls Try.prog 45 #[.slice a1 n1 c1, .slice a2 n2 c2] w fun e w' => e = .returned (.bool (l1 == l2)) ∧ Below w.heap.size w w' := by
  have hm1 : n1 ≤ c1 := h1.2.2.1
  have hm2 : c1 ≤ 9223372036854775807 := h1.2.2.2.1
  have H1 := Lib.hid h1
  have H2 := Lib.hid h2
  clear h1 h2
  by_cases hn : n1 = n2
  · subst hn
    obtain ⟨B, hB⟩ : ∃ B, B = (l1 == l2) := ⟨_, rfl⟩
    rw [← hB]
    have HB := Lib.hid hB
    clear hB
    go_enter Try.func45, Try.ntmps45
    go_wp2
    go_loopw [5] (fun t wr => ∃ i : Nat, i ≤ n1 ∧ t = .int .i64 (i : Int) ∧ l1.take i = l2.take i ∧ ∃ d, wr = w.drewN d) (fun t _ => n1 - (intOf t).toNat)
    case atStart => exact ⟨0, Nat.zero_le _, rfl, rfl, 0, rfl⟩
    case round =>
      obtain ⟨i, hi, rfl, htk, d, rfl⟩ := hrel
      have Htk := Lib.hid htk
      clear htk
      by_cases hlt : i < n1
      · have hl1 : i < l1.length := by have := H1.out.1; omega
        have hl2 : i < l2.length := by have := H2.out.1; omega
        obtain ⟨b1, o1, -, -, rfl, hc1⟩ := H1.out.cells (by omega)
        obtain ⟨b2, o2, -, -, rfl, hc2⟩ := H2.out.cells (by omega)
        have hx := hc1 i hl1
        have hy := hc2 i hl2
        have Hs1 := Lib.hid (List.take_succ_eq_append_getElem hl1)
        have Hs2 := Lib.hid (List.take_succ_eq_append_getElem hl2)
        have Hg1 := Lib.hid (List.getElem?_eq_getElem hl1)
        have Hg2 := Lib.hid (List.getElem?_eq_getElem hl2)
        clear hc1 hc2
        generalize l1[i] = x at *
        generalize l2[i] = y at *
        by_cases hxy : x = y
        · subst hxy
          go_wp2
          go_quiet (fail)
          go_wp2
          go_roundw
          case rel => exact ⟨i + 1, by omega, by go_num, by rw [Hs1.out, Hs2.out, Htk.out], _, rfl⟩
          case measure => simp [intOf]; omega
        · have hb : (x == y) = false := by rw [beq_eq_false_iff_ne]; exact hxy
          have hb2 : (x != y) = true := by rw [bne_iff_ne]; exact hxy
          have HN : Hid ((l1 == l2) = false) := Lib.hid (by
            rw [beq_eq_false_iff_ne]
            intro e
            have h1 := Hg1.out
            rw [e, Hg2.out] at h1
            exact hxy (Option.some.inj h1).symm)
          go_wp2
          go_quiet (fail)
          go_wp2
          go_ret
          exact ⟨by rw [HB.out, HN.out]; rfl, ⟨rfl, rfl, rfl, Nat.le_refl _, fun _ _ => rfl⟩⟩
      · obtain rfl : i = n1 := by omega
        have HE : Hid ((l1 == l2) = true) := Lib.hid (by
          have h := Htk.out
          rw [List.take_of_length_le (by have := H1.out.1; omega), List.take_of_length_le (by have := H2.out.1; omega)] at h
          rw [h]; exact beq_self_eq_true l2)
        go_wp2
        go_ret
        exact ⟨by rw [HB.out, HE.out]; rfl, ⟨rfl, rfl, rfl, Nat.le_refl _, fun _ _ => rfl⟩⟩
  · have hne : ((n1 : Int) != (n2 : Int)) = true := by rw [bne_iff_ne]; omega
    have hne2 : ((n1 : Int) == (n2 : Int)) = false := by rw [beq_eq_false_iff_ne]; omega
    have HB : Hid ((l1 == l2) = false) := Lib.hid (by rw [beq_eq_false_iff_ne]; intro e; have := H1.out.1; have := H2.out.1; rw [e] at *; omega)
    go_enter Try.func45, Try.ntmps45
    go_wp2
    go_ret
    exact ⟨by rw [HB.out]; rfl, Below.refl _ _⟩
end Go.Proofs.Ytbnodhcgdgcebaa

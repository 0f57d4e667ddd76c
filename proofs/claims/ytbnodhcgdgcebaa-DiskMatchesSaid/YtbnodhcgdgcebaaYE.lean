/-
  The reference's Limit and Survives.
-/
import Derived.Test.YtbnodhcgdgcebaaYD
namespace Go.Proofs.Ytbnodhcgdgcebaa
open Go.RowKit
set_option linter.unusedSimpArgs false
set_option linter.unusedVariables false
theorem limit_any (n most r : Int) (w : World) (hr : min (max n 0) most = r) :
    Calls Try.prog 69 #[.int .i64 n, .int .i64 most] w fun e w' => e = .returned (.int .i64 r) ∧ w = w' := by
  obtain ⟨X, hX⟩ : ∃ X, max n 0 = X := ⟨_, rfl⟩
  rw [hX] at hr
  have HX := Lib.hid hX
  have HR := Lib.hid hr
  clear hX hr
  go_enter Try.func69, Try.ntmps69
  go_wp2_with (first
    | (refine wpList_max0 rfl (.tmp 5) 3 3 rfl n X rfl HX.out ?_)
    | (refine wpList_min2 rfl (.tmp 6) (.tmp 7) 3 3 rfl X most r rfl rfl HR.out ?_))
  go_ret
  exact ⟨rfl, rfl⟩
theorem Own.rw {w : World} {e : TypeId} {k : Option Nat} {v : Value} {n : Nat} {xs : List Value} (h : Own w e 1 k v n xs) : Rw w e k v n xs := by
  refine ⟨by simpa using h.1, ?_⟩
  rcases h.2 with hn | ⟨g, cap, cur, rfl, rfl, hg, h1, h2, h3, h4⟩
  · exact .inl hn
  · exact .inr ⟨g, 0, cap, cur, rfl, rfl, hg, h1, h2, by rw [h3]; omega, by simpa using h4⟩
theorem Rw.bs {w : World} {g off n c : Nat} {l : List UInt8} (h : Rw w 5 (some g) (.slice (some ⟨g, off, none⟩) n c) n (vals l)) (hc : c ≤ maxLen) : Bs (fun b => b = g) w (some ⟨g, off, none⟩) n c l := by
  have hl : l.length = n := by rw [← vals_len]; exact h.1
  refine ⟨hl, by rw [vals_len]; omega, ?_, hc, (fun h => by cases h), fun hp => ?_⟩
  · rcases h.2 with ⟨e0, _⟩ | ⟨g', off', cap, cur, e0, e1, hg, h1, h2, h3, h4⟩
    · cases e0
    · cases e0; cases e1; exact h1
  · obtain ⟨g', off', c', e0, e1, _, _, _, hat⟩ := h.at hp
    cases e0; cases e1
    exact ⟨g, off, rfl, rfl, fun j v hv => by
      have hj := (List.getElem?_eq_some_iff.1 hv).1
      rw [List.getElem?_eq_getElem hj] at hv
      rw [← Option.some.inj hv]
      exact hat j hj⟩
def curB (b o : List UInt8) (i : Nat) : List UInt8 := b.take i ++ o.drop i
theorem curB_set (b o : List UInt8) (i : Nat) (hb : i < b.length) (ho : i < o.length) : (vals (curB b o i)).set i (.int .u8 (b[i].toNat : Int)) = vals (curB b o (i + 1)) := by
  unfold curB
  rw [vals_app, vals_app]
  have hl : (vals (b.take i)).length = i := by rw [vals_len, List.length_take]; omega
  rw [List.set_append_right _ _ (by omega), hl, Nat.sub_self, List.drop_eq_getElem_cons ho]
  rw [List.take_succ_eq_append_getElem hb, vals_app, List.append_assoc]
  rfl
set_option maxRecDepth 100000 in
set_option maxHeartbeats 2000000 in
theorem survives_any {w : World} {Bf : Nat → Prop} (rk ro sl rc : Nat) (sk : List (List UInt8)) (wr_ by_ : Int) (hsl : sk.length = sl) (hp : 0 < sl) (hc : sl ≤ rc ∧ rc ≤ 9223372036854775807) (hrk : rk < w.heap.size) (hJ : ∀ j (hj : j < sk.length), ∃ a c, w.cell? ⟨rk, ro + j, none⟩ = some (.slice a 64 c) ∧ Bs Bf w a 64 c sk[j]) :
    Calls Try.prog 65 #[.slice (some ⟨rk, ro, none⟩) sl rc, .int .i64 wr_, .int .i64 by_] w fun e w' => ∃ v, e = .returned v ∧ FreshB w (surv sk wr_ by_) v w' := by
  obtain ⟨s1, hs1⟩ : ∃ s1, sl = s1 + 1 := ⟨sl - 1, by omega⟩
  obtain ⟨m, hm⟩ : ∃ m, m = min wr_.toNat (sk.length - 1) := ⟨_, rfl⟩
  obtain ⟨T, hT⟩ : ∃ T, T = min by_.toNat 64 := ⟨_, rfl⟩
  have hml : m < sk.length := by omega
  have hmx1 : min (max wr_ 0) (s1 : Int) = (m : Int) := by omega
  have hmx2 : min (max by_ 0) 64 = (T : Int) := by omega
  have HM1 := Lib.hid hmx1
  have HM2 := Lib.hid hmx2
  have hw1 : IntKind.i64.wrap ((sl : Int) - 1) = (s1 : Int) := by rw [i64_id _ (by omega) (by omega)]; omega
  obtain ⟨am, cm, hcm, hbm⟩ := hJ m hml
  obtain ⟨om, hom⟩ : ∃ om, om = sk[m] := ⟨_, rfl⟩
  rw [← hom] at hbm
  have HBM := Lib.hid hbm
  have HOL : Hid (om.length = 64) := Lib.hid hbm.1
  have HTK : Hid (om.take 64 = om) := Lib.hid (List.take_of_length_le (by rw [hbm.1]; exact Nat.le_refl _))
  have hmi : (m : Int) < (sl : Int) := by omega
  have hml2 : m < sl := by omega
  have hrc : sl ≤ rc := hc.1
  have HT64 : Hid (T ≤ 64) := Lib.hid (by omega)
  have hwm : IntKind.i64.wrap ((m : Int) + 1) = (m : Int) + 1 := i64_id _ (by omega) (by omega)
  by_cases hn : m + 1 < sl
  · obtain ⟨an, cn, hcn, hbn⟩ := hJ (m + 1) (by omega)
    obtain ⟨bn, hbn2⟩ : ∃ bn, bn = sk[m + 1]'(by omega) := ⟨_, rfl⟩
    rw [← hbn2] at hbn
    have HSV : Hid (surv sk wr_ by_ = curB bn om T) := Lib.hid (by
      unfold surv curB
      have e1 : sk[m + 1]? = some bn := by rw [List.getElem?_eq_getElem (by omega), hbn2]
      rw [← hm]
      simp only [e1]
      rw [← hT, List.getD_eq_getElem?_getD, List.getElem?_eq_getElem hml, ← hom]
      rfl)
    obtain ⟨b1, o1, -, hb1w, rfl, hbc⟩ := hbn.cells (by omega)
    have HBC := Lib.hid hbc
    have HBNL : Hid (bn.length = 64) := Lib.hid hbn.1
    have hcnc : 64 ≤ cn := hbn.2.2.1
    have hni : (m : Int) + 1 < (sl : Int) := by omega
    have HCN : Hid (w.cell? ⟨rk, ro + (m + 1), none⟩ = some (.slice (some ⟨b1, o1, none⟩) 64 cn)) := Lib.hid hcn
    have HRK := Lib.hid hrk
    have HB1W := Lib.hid hb1w
    clear hJ hbm hom hm hT hmx1 hmx2 hbn hbn2 hbc hcn hsl hs1 hrk hb1w hml hc
    go_enter Try.func65, Try.ntmps65
    go_upto_region 4 with (first
      | (go_at_call 69; refine (limit_any wr_ (s1 : Int) (m : Int) _ HM1.out).mono ?_; rintro e w2 ⟨rfl, rfl⟩)
      | (go_at_call 33; refine (few_any _ am 64 cm 64 om _ HBM.out (by omega)).mono ?_; rintro e w2 ⟨v, rfl, hmm⟩; rw [HTK.out] at hmm; obtain ⟨ko, ho, hfo, hbl⟩ := hmm; rw [HOL.out] at ho; obtain ⟨go', oo, oc, rfl, rfl, _, hoc, _, _⟩ := ho.rw.at (by omega); have HO := Lib.hid ho.rw; have HFO := Lib.hid (hfo go' rfl); have HBL := Lib.hid hbl; have HOC := Lib.hid hoc; clear ho hfo hbl hoc))
    go_loopw [9] (fun t wq => ∃ i : Nat, i ≤ T ∧ t = .int .i64 (i : Int) ∧ Rw wq 5 (some go') (.slice (some ⟨go', oo, none⟩) 64 oc) 64 (vals (curB bn om i)) ∧ Below w.heap.size w wq) (fun t _ => T - (intOf t).toNat)
    case atStart => exact ⟨0, Nat.zero_le _, rfl, by simpa [curB] using HO.out, HBL.out⟩
    case round =>
      obtain ⟨i, hi, rfl, hO, hB⟩ := hrel
      have HOi := Lib.hid hO
      have HBi := Lib.hid hB
      clear hO hB HO HBL
      rename World => q
      have hi64 : i ≤ 64 := Nat.le_trans hi HT64.out
      have hcn1 : q.cell? ⟨rk, ro + (m + 1), none⟩ = some (.slice (some ⟨b1, o1, none⟩) 64 cn) := (HBi.out.cell (p := ⟨rk, ro + (m + 1), none⟩) HRK.out).trans HCN.out
      by_cases hlt : i < T
      · have hlt2 : (i : Int) < (T : Int) := by omega
        have hi65 : i < 64 := Nat.lt_of_lt_of_le hlt HT64.out
        have hi66 : (i : Int) < 64 := by omega
        have hwi : IntKind.i64.wrap ((i : Int) + 1) = (i : Int) + 1 := i64_id _ (by omega) (by omega)
        have hib : i < bn.length := by rw [HBNL.out]; exact hi65
        have hrd : q.cell? ⟨b1, o1 + i, none⟩ = some (.int .u8 (bn[i].toNat : Int)) := (HBi.out.cell (p := ⟨b1, o1 + i, none⟩) HB1W.out).trans (HBC.out i hib)
        obtain ⟨x, hx⟩ : ∃ x, x = bn[i] := ⟨_, rfl⟩
        rw [← hx] at hrd
        obtain ⟨g', off', c', e0, e1, hoc1, hoc2, _, hat⟩ := HOi.out.at (by omega)
        cases e0; cases e1
        have hvl : i < (vals (curB bn om i)).length := by rw [HOi.out.1]; exact hi65
        have hco := hat i hvl
        obtain ⟨y, hy⟩ : ∃ y, y = (vals (curB bn om i))[i] := ⟨_, rfl⟩
        rw [← hy] at hco
        have hfz : q.frozen? ⟨go', oo + i, none⟩ = false := HOi.out.frozen _
        have HP : Hid (Rw (q.setCell ⟨go', oo + i, none⟩ (.int .u8 (x.toNat : Int))) 5 (some go') (.slice (some ⟨go', oo, none⟩) 64 oc) 64 (vals (curB bn om (i + 1))) ∧ Below w.heap.size w (q.setCell ⟨go', oo + i, none⟩ (.int .u8 (x.toNat : Int)))) := Lib.hid ⟨by
          rw [← curB_set bn om i hib (by rw [HOL.out]; exact hi65), ← hx]
          exact HOi.out.set i hi65 _, HBi.out.setCell HFO.out _⟩
        have hob1 : ¬ b1 = go' := by have := HB1W.out; have := HFO.out; omega
        clear hx hy hat hvl hib
        go_wp2_with (first
          | (go_at_call 69; refine (limit_any by_ 64 (T : Int) _ HM2.out).mono ?_; rintro e w2 ⟨rfl, rfl⟩))
        go_roundw
        case rel => exact ⟨i + 1, by omega, by go_num, HP.out.1, HP.out.2⟩
        case measure => simp [intOf]; omega
      · obtain rfl : i = T := by omega
        have HFIN : Hid (Bs (fun b => b = go') q (some ⟨go', oo, none⟩) 64 oc (curB bn om i)) := Lib.hid (HOi.out.bs (by have := HOC.out; unfold maxLen; omega))
        go_wp2_with (first
          | (go_at_call 69; refine (limit_any by_ 64 (i : Int) _ HM2.out).mono ?_; rintro e w2 ⟨rfl, rfl⟩))
        go_ret
        exact ⟨_, rfl, _, _, rfl, by rw [HSV.out]; exact HFIN.out.dom (fun b hb => by rw [hb]; exact HFO.out), HBi.out⟩
  · have HSV : Hid (surv sk wr_ by_ = om) := Lib.hid (by
      unfold surv
      have e1 : sk[m + 1]? = none := List.getElem?_eq_none (by omega)
      rw [← hm]
      simp only [e1]
      rw [List.getD_eq_getElem?_getD, List.getElem?_eq_getElem hml, ← hom]
      rfl)
    have hni : (sl : Int) ≤ (m : Int) + 1 := by omega
    clear hJ hbm hom hm hT hmx1 hmx2 hsl hs1 hrk hml hc hn
    go_enter Try.func65, Try.ntmps65
    go_upto_region 4 with (first
      | (go_at_call 69; refine (limit_any wr_ (s1 : Int) (m : Int) _ HM1.out).mono ?_; rintro e w2 ⟨rfl, rfl⟩)
      | (go_at_call 33; refine (few_any _ am 64 cm 64 om _ HBM.out (by omega)).mono ?_; rintro e w2 ⟨v, rfl, hmm⟩; rw [HTK.out] at hmm; obtain ⟨ao, co, rfl, hb⟩ := hmm.bs; obtain ⟨_, _, _, hbl⟩ := hmm; rw [HOL.out] at hb; rw [HOL.out]; have HB := Lib.hid hb; have HBL := Lib.hid hbl; clear hb hbl))
    go_loopw [9] (fun t wq => t = .int .i64 0 ∧ Bs (fun b => w.heap.size ≤ b) wq ao 64 co om ∧ Below w.heap.size w wq) (fun _ _ => 0)
    case atStart => exact ⟨rfl, HB.out, HBL.out⟩
    case round =>
      obtain ⟨rfl, hO, hB⟩ := hrel
      have HOi := Lib.hid hO
      have HBi := Lib.hid hB
      clear hO hB HB HBL
      go_wp2_with (first
        | (go_at_call 69; refine (limit_any by_ 64 (T : Int) _ HM2.out).mono ?_; rintro e w2 ⟨rfl, rfl⟩))
      all_goals (go_ret; exact ⟨_, rfl, _, _, rfl, by rw [HSV.out]; exact HOi.out, HBi.out⟩)
end Go.Proofs.Ytbnodhcgdgcebaa

/-
  The reference's ReadInts.
-/
import Derived.Test.YtdnbkiaolimfjaaN5
namespace Go.Proofs.Ytdnbkiaolimfjaa
open Go.RowKit
set_option linter.unusedSimpArgs false
set_option linter.unusedVariables false
theorem rInts_bad (s : RS) (most : Int) (h : (rUint s).2.e ≠ 0) : rInts s most = ([], (rUint s).2) := by
  unfold rInts
  rw [rLen_bad s most h]
  rfl
theorem rInts_limit (s : RS) (most : Int) (h : (rUint s).2.e = 0) (hm : most < 0 ∨ most < ((rUint s).1 : Int)) : rInts s most = ([], ⟨(rUint s).2.l, 2⟩) := by
  unfold rInts
  rw [rLen_limit s most h hm]
  rfl
theorem rInts_fine (s : RS) (most : Int) (hm : ¬ (most < 0 ∨ most < ((rUint s).1 : Int))) : rInts s most = rIntsGo (rUint s).1 [] (rUint s).2 := by
  unfold rInts
  rw [rLen_fine s most hm]
/-- where the loop of ReadInts stands -/
structure RiAt (D : Nat → Prop) (B : Nat) (w2 wr : World) (s : RS) (v : Value) (acc : List Int) : Prop where
  rd : ∃ a c, RdB wr B a s.l.length c s.e ∧ Bs (fun b => D b ∧ b < B) wr a s.l.length c s.l
  res : RdB wr (B + 1) none 0 0 0
  kept : Kept (fun j => B ≤ j) w2 wr
  acc : FreshI w2 v acc wr
/-- what is still to be read -/
def RiDue (L : Nat) (R : List Int × RS) (m : Nat) (s : RS) (acc : List Int) : Prop := (s.e = 0 → rIntsGo m acc s = R ∧ acc.length + s.l.length ≤ L) ∧ (s.e ≠ 0 → R = ([], s)) ∧ acc.length ≤ L + 1
/-- the outcome of reading a list by value -/
def RdsL (D : Nat → Prop) (w : World) (R : List Int × RS) (x : Ending) (w' : World) : Prop := ∃ v, FreshI w v R.1 w' ∧ RdsV D w R.2 v x w'
theorem ri_kept {B : Nat} {wr w3 w4 : World} {o : Obj} {cs : Array Value} (h : Below wr.heap.size wr w3) (hw : w4 = (w3.alloc o).setRow B cs) : Kept (fun j => B = j) wr w4 := by
  rw [hw]; exact (((Kept.of_below _ h).alloc o).setRow (fun _ => rfl) _)
theorem ri_kept2 {B : Nat} {w3 w4 : World} {o : Obj} {cs : Array Value} (hw : w4 = (w3.alloc o).setRow B cs) : Kept (fun j => B = j) w3 w4 := by
  rw [hw]; exact (((Kept.refl _ _).alloc o).setRow (fun _ => rfl) _)
theorem ri_size {B : Nat} {w3 w4 : World} {o : Obj} {cs : Array Value} (hw : w4 = (w3.alloc o).setRow B cs) : w4.heap.size = w3.heap.size + 1 := by
  rw [hw, size_setRow, size_alloc1]
set_option maxRecDepth 100000 in
set_option maxHeartbeats 2000000 in
theorem refReadInts_any (D : Nat → Prop) (a : Option Addr) (c : Nat) (l : List UInt8) (e : Nat) (most : Int) (w : World) (hB : Bs D w a l.length c l) (hl : l.length ≤ 1000000000000) (hm1 : -9223372036854775808 ≤ most) (hm2 : most ≤ 9223372036854775807) :
    Calls Try.prog 51 #[rdv a l.length c e, .int .i64 most] w fun x w' => RdsL D w (rInts ⟨l, e⟩ most) x w' := by
  obtain ⟨i0, hi, hz0, hz1, hz2⟩ := info_parts info3
  have hC := refReadUint_any (fun b => D b ∧ b < w.heap.size) a c l e _ (fail_rds (w2 := w) 0 hB.inner (below_two w (.cells #[.slice a l.length c, .int .i64 (e : Int)] 48) (.cells #[.slice none 0 0, .int .i64 0] 48))) (by omega)
  have hv := rUint_val ⟨l, e⟩
  have hle := rUint_len ⟨l, e⟩
  have hT1 := rInts_bad ⟨l, e⟩ most
  have hT2 := rInts_limit ⟨l, e⟩ most
  have hT3 := rInts_fine ⟨l, e⟩ most
  generalize rInts ⟨l, e⟩ most = R at *
  generalize rUint ⟨l, e⟩ = U at *
  obtain ⟨V, S⟩ := U
  simp only at hC hv hle hT1 hT2 hT3
  unfold rdv at hC ⊢
  have HC := Lib.hid hC
  have HT1 := Lib.hid hT1
  have HT2 := Lib.hid hT2
  have HT3 := Lib.hid hT3
  have hSl : S.l.length ≤ 1000000000000 := by omega
  clear hC hB hT1 hT2 hT3 hle
  go_enter Try.func51, Try.ntmps51
  go_upto_region 2 with (first
    | (refine wpList_store_row rfl 48 (.tmp 2) (.tmp 14) rfl w.heap.size _ rfl rfl 48 _ G0.out (rdsz2 _ _) rfl (rdone _ _ _ _ _) ?_)
    | (go_at_call 47; refine HC.out.mono ?_; rintro x w1 ⟨ua, uc, rfl, hB1, hb1⟩; have G0 := Lib.hid (box0 hb1); have G1 := Lib.hid (box1 hb1); have B1 := Lib.hid (rd_bel hb1); have S1 := Lib.hid hB1; clear hB1 hb1; unfold rdv))
  obtain ⟨w2, hw2⟩ : ∃ w2, w2 = w1.setRow w.heap.size #[.slice ua S.l.length uc, .int .i64 (S.e : Int)] := ⟨_, rfl⟩
  rw [← hw2]
  have hR : RdB w2 w.heap.size ua S.l.length uc S.e := by rw [hw2]; exact setRow_heap _ _ _ _ _ _ G0.out
  have hR1 : RdB w2 (w.heap.size + 1) none 0 0 0 := by rw [hw2]; exact (setRow_other _ _ _ _ (by omega)).trans G1.out
  have hK : Kept (fun j => w.heap.size ≤ j) w1 w2 := by rw [hw2]; exact (Kept.refl _ _).setRow (fun _ => Nat.le_refl _) _
  have hS2 : Bs (fun b => D b ∧ b < w.heap.size) w2 ua S.l.length uc S.l := S1.out.kept hK (fun b _ hd hs => by have := hd.2; omega)
  have hB2 : Below w.heap.size w w2 := below_kept B1.out (Nat.le_refl _) hK
  obtain ⟨x0, x1, x2, x3⟩ := hR.facts
  obtain ⟨y0, y1, y2, y3⟩ := hR1.facts
  have HR := Lib.hid hR
  have HR1 := Lib.hid hR1
  have HB2 := Lib.hid hB2
  have HS2 := Lib.hid hS2
  have hzz2 : w.heap.size + 2 ≤ w2.heap.size := heap_lt hR1
  clear hR hR1 hK hw2 hS2 hB2 HC S1
  by_cases he : S.e = 0
  · have he2 : ((S.e : Int) != 0) = false := by rw [he]; rfl
    have he3 : ((S.e : Int) == 0) = true := by rw [he]; rfl
    by_cases hm0 : most < 0
    · have HRv := Lib.hid (HT2.out he (.inl hm0))
      have HE := Lib.hid he
      clear he
      go_wp2_with (first
        | (refine wpList_store_row rfl 48 (.tmp 4) (.tmp 30) rfl (w.heap.size + 1) _ rfl rfl 48 _ G3.out (rdsz2 _ _) rfl (rdone _ _ _ _ _) ?_)
        | (go_at_call 60; refine (refFail_any _ _ _ _ 2 _).mono ?_; rintro e w3 ⟨rfl, h3⟩; have G3 := Lib.hid ((h3.block _ (heap_lt HR1.out)).trans HR1.out); have B3 := Lib.hid h3; clear h3; unfold rdv))
      have K2 : Kept (fun j => w.heap.size ≤ j) w2 (w3.setRow (w.heap.size + 1) #[.slice ua S.l.length uc, .int .i64 ((fails S.e 2 : Nat) : Int)]) := (Kept.of_below _ B3.out).setRow (fun _ => Nat.le_succ _) _
      refine bodyPost_ret (v := .tuple #[.agg #[.slice ua S.l.length uc, .int .i64 ((fails S.e 2 : Nat) : Int)], .slice none 0 0]) (results_row_tmp rfl _ _ (w.heap.size + 1) 48 #[.slice ua S.l.length uc, .int .i64 ((fails S.e 2 : Nat) : Int)] (0, 0) _ rfl (setRow_heap _ _ _ _ _ _ G3.out) Try.underlying48 rfl rdsz _ rfl) rfl ?_
      show RdsL D w R _ _
      rw [HRv.out]
      have ef : fails S.e 2 = 2 := by rw [HE.out]; rfl
      rw [ef] at K2 ⊢
      exact ⟨_, ⟨none, Own.nil _ _ _, fun _ h => by cases h⟩, ua, uc, rfl, HS2.out.later K2, below_kept HB2.out (Nat.le_refl _) K2⟩
    · have mx : max most 0 = most := by omega
      by_cases hmv : most < (V : Int)
      · have HRv := Lib.hid (HT2.out he (.inr hmv))
        have HE := Lib.hid he
        clear he
        go_wp2_with (first
          | (refine wpList_store_row rfl 48 (.tmp 4) (.tmp 30) rfl (w.heap.size + 1) _ rfl rfl 48 _ G3.out (rdsz2 _ _) rfl (rdone _ _ _ _ _) ?_)
          | (go_at_call 60; refine (refFail_any _ _ _ _ 2 _).mono ?_; rintro e w3 ⟨rfl, h3⟩; have G3 := Lib.hid ((h3.block _ (heap_lt HR1.out)).trans HR1.out); have B3 := Lib.hid h3; clear h3; unfold rdv))
        have K2 : Kept (fun j => w.heap.size ≤ j) w2 (w3.setRow (w.heap.size + 1) #[.slice ua S.l.length uc, .int .i64 ((fails S.e 2 : Nat) : Int)]) := (Kept.of_below _ B3.out).setRow (fun _ => Nat.le_succ _) _
        refine bodyPost_ret (v := .tuple #[.agg #[.slice ua S.l.length uc, .int .i64 ((fails S.e 2 : Nat) : Int)], .slice none 0 0]) (results_row_tmp rfl _ _ (w.heap.size + 1) 48 #[.slice ua S.l.length uc, .int .i64 ((fails S.e 2 : Nat) : Int)] (0, 0) _ rfl (setRow_heap _ _ _ _ _ _ G3.out) Try.underlying48 rfl rdsz _ rfl) rfl ?_
        show RdsL D w R _ _
        rw [HRv.out]
        have ef : fails S.e 2 = 2 := by rw [HE.out]; rfl
        rw [ef] at K2 ⊢
        exact ⟨_, ⟨none, Own.nil _ _ _, fun _ h => by cases h⟩, ua, uc, rfl, HS2.out.later K2, below_kept HB2.out (Nat.le_refl _) K2⟩
      · have hnm : ¬ (most < 0 ∨ most < (V : Int)) := by omega
        have hgo := HT3.out hnm
        have H0 : Hid (RiAt D w.heap.size w2 w2 S (.slice none 0 0) [] ∧ RiDue S.l.length R V S []) := Lib.hid ⟨⟨⟨_, _, HR.out, HS2.out⟩, HR1.out, Kept.refl _ _, none, Own.nil _ _ _, fun _ h => by cases h⟩, fun _ => ⟨hgo.symm, by simp⟩, fun h => absurd he h, by simp⟩
        clear he hnm hgo HT1 HT2 HT3
        go_wp2_with fail
        go_loopw [7, 8] (fun v t wr => ∃ (m j : Nat) (s : RS) (acc : List Int), j + m = V ∧ t = .int .u64 (j : Int) ∧ RiAt D w.heap.size w2 wr s v acc ∧ RiDue S.l.length R m s acc) (fun _ t _ => V - (intOf t).toNat)
        case atStart => exact ⟨V, 0, S, [], by omega, rfl, H0.out.1, H0.out.2⟩
        case round =>
          obtain ⟨m, j, s, acc, hjm, rfl, hA, hD⟩ := hrel
          obtain ⟨ra, rc, hrd, hbs⟩ := hA.rd
          obtain ⟨q0, q1, q2, q3⟩ := hrd.facts
          obtain ⟨z0, z1, z2, z3⟩ := hA.res.facts
          have HA := Lib.hid hA
          have HD := Lib.hid hD
          have Hrd := Lib.hid hrd
          have Hbs := Lib.hid hbs
          have hsr := hA.kept.size
          have hal : acc.length ≤ S.l.length + 1 := hD.2.2
          clear hA hD hrd hbs H0 x0 x1 x2 x3 y0 y1 y2 y3
          by_cases hse : s.e = 0
          · have se2 : ((s.e : Int) != 0) = false := by rw [hse]; rfl
            have se3 : ((s.e : Int) == 0) = true := by rw [hse]; rfl
            have HSE := Lib.hid hse
            by_cases hlt : j < V
            · obtain ⟨m', rfl⟩ : ∃ m', m = m' + 1 := ⟨m - 1, by omega⟩
              obtain ⟨hgo, hll⟩ := HD.out.1 hse
              have hCi := refReadInt_any (fun b => D b ∧ b < w.heap.size) ra rc s.l s.e wr Hbs.out (by omega)
              have hsh := rUint_shorter s
              have hbd := rInt_bd s
              rw [rIntsGo] at hgo
              have hS : rInt ⟨s.l, s.e⟩ = rInt s := rfl
              have hS2 : (rUint s).2 = (rInt s).2 := rfl
              rw [hS] at hCi
              rw [hS2] at hsh
              obtain ⟨kk, ho, hf⟩ := HA.out.acc
              obtain ⟨va, vc, rfl, -⟩ := ho.sl
              generalize rInt s = U at *
              obtain ⟨X, S'⟩ := U
              simp only at hCi hsh hbd hgo
              unfold rdv at hCi
              have HCi := Lib.hid hCi
              have Hgo := Lib.hid hgo
              have Ho := Lib.hid ho
              have Hf := Lib.hid hf
              have Hsh := Lib.hid hsh
              clear hCi hgo ho hf hsh hS hS2 hse
              go_wp2_with (first
                | (at_builtin; refine wpList_append_any _ rfl (.tmp 47) (.tmp 49) 32 32 rfl 3 i0 (.int .i64 0) 1 8 Try.underlying32 hi hz0 hz1 hz2 rfl kk _ acc.length (ivals acc) rfl (Ho4.out.kept ((Kept.refl (fun _ => False) w4).alloc _) (fun _ _ h => h)) 1 [.int .i64 X] (Src.ofSlice _ Try.underlying32 ⟨w4.heap.size, 0, none⟩ 1 1 _ rfl ?c1 ?c2) (by unfold maxLen; omega) (by omega) ?_)
                | (refine wpList_store_row rfl 48 (.tmp 2) (.tmp 46) rfl w.heap.size _ rfl rfl 48 _ G3.out (rdsz2 _ _) rfl (rdone _ _ _ _ _) ?_; obtain ⟨w4, hw4⟩ : ∃ w4, w4 = (w3.alloc (.cells #[.slice ua3 S'.l.length uc3, .int .i64 (S'.e : Int)] 48)).setRow w.heap.size #[.slice ua3 S'.l.length uc3, .int .i64 (S'.e : Int)] := ⟨_, rfl⟩; rw [← hw4]; have Ho4 := Lib.hid (Ho.out.kept (ri_kept B3.out hw4) (fun j hj h => by have := Hf.out j hj; omega)); have Z4 := Lib.hid (ri_size hw4); have Hw4 := Lib.hid hw4; clear hw4)
                | (go_at_call 48; refine HCi.out.mono ?_; rintro x w3 ⟨ua3, uc3, rfl, hB3, hb3⟩; have G3 := Lib.hid (heap_old (o' := .cells #[.slice ua3 S'.l.length uc3, .int .i64 (S'.e : Int)] 48) ((hb3.block _ (heap_lt Hrd.out)).trans Hrd.out)); have B3 := Lib.hid hb3; have S3 := Lib.hid hB3; clear hB3 hb3; unfold rdv))
              case c1 => intro j u hj; match j, hj with | 0, hj => simp at hj; subst hj; simp [Addr.add]
              case c2 => intro u hu; simp at hu; subst hu; rfl
              intro k' v' w' ho2 hf2 hK2 hn2
              have K34 : Kept (fun j => w.heap.size = j) wr w4 := ri_kept B3.out Hw4.out
              have K4 : Kept (fun j => kk = some j) w4 w' := ((Kept.refl (fun j => kk = some j) w4).alloc _).trans hK2 (fun _ _ h => h)
              have hz4 := Z4.out
              have hz3 := B3.out.size
              have hz5 := K4.size
              have KA : Kept (fun j => w.heap.size ≤ j) w2 w' := (HA.out.kept.trans K34 (fun j _ h => by omega)).trans K4 (fun j hj e => by have := Hf.out j e; omega)
              have nk : ∀ j, kk = some j → w2.heap.size ≤ j := Hf.out
              have RD : RdB w4 w.heap.size ua3 S'.l.length uc3 S'.e := by
                rw [Hw4.out]; exact setRow_heap _ _ _ _ _ _ G3.out
              have HA2 : Hid (RiAt D w.heap.size w2 w' S' v' (acc ++ [X]) ∧ RiDue S.l.length R m' S' (acc ++ [X])) := Lib.hid ⟨⟨⟨ua3, uc3, K4.heap RD (fun e => by have := nk _ e; omega), ?_⟩, ?_, KA, ?_⟩, ?_⟩
              rotate_left
              · exact (S3.out.kept (ri_kept2 Hw4.out) (fun b hb hd e => by have := hd.2; omega)).kept K4 (fun b hb hd e => by have := hd.2; have := nk _ e; omega)
              · exact K4.heap (K34.heap HA.out.res (by omega)) (fun e => by have := nk _ e; omega)
              · refine ⟨k', by rw [ivals_app, List.length_append]; exact ho2, fun j hj => ?_⟩
                rcases hf2 j hj with h | h
                · exact Hf.out j h
                · omega
              · have hl3 : S'.e = 0 → S'.l.length < s.l.length := fun h => Hsh.out HSE.out h
                refine ⟨fun h => ?_, fun h => ?_, by rw [List.length_append, List.length_singleton]; omega⟩
                · have := Hgo.out
                  rw [if_pos h] at this
                  exact ⟨this, by rw [List.length_append, List.length_singleton]; have := hl3 h; omega⟩
                · have := Hgo.out
                  rw [if_neg h] at this
                  exact this.symm
              clear K34 K4 KA RD ho2 hf2 hK2 hn2 nk
              go_wp2
              go_roundw
              case rel => exact ⟨m', j + 1, S', acc ++ [X], by omega, by go_num, HA2.out.1, HA2.out.2⟩
              case measure => simp [intOf]; omega
            · obtain rfl : j = V := by omega
              obtain rfl : m = 0 := by omega
              have hres := (HD.out.1 hse).1
              rw [rIntsGo] at hres
              have Hres := Lib.hid hres
              obtain ⟨kk, ho, hf⟩ := HA.out.acc
              obtain ⟨va, vc, rfl, -⟩ := ho.sl
              clear hres hse ho hf
              go_wp2
              have K2 : Kept (fun j => w.heap.size ≤ j) wr ((wr.setCell ⟨w.heap.size + 1, 0, none⟩ (.slice ra s.l.length rc)).setCell ⟨w.heap.size + 1, 1, none⟩ (.int .i64 (s.e : Int))) := kept_sets (Kept.refl _ _) (Nat.le_succ w.heap.size) _ _
              have K3 : Kept (fun j => j = w.heap.size + 1) wr ((wr.setCell ⟨w.heap.size + 1, 0, none⟩ (.slice ra s.l.length rc)).setCell ⟨w.heap.size + 1, 1, none⟩ (.int .i64 (s.e : Int))) := ((Kept.refl (fun j => j = w.heap.size + 1) wr).setCell (p := ⟨w.heap.size + 1, 0, none⟩) (fun _ => rfl) _).setCell (p := ⟨w.heap.size + 1, 1, none⟩) (fun _ => rfl) _
              refine bodyPost_ret (v := .tuple #[.agg #[.slice ra s.l.length rc, .int .i64 (s.e : Int)], .slice va acc.length vc]) (results_row_tmp rfl _ _ (w.heap.size + 1) 48 #[.slice ra s.l.length rc, .int .i64 (s.e : Int)] (0, 0) _ rfl (HA.out.res.sets _ _) Try.underlying48 rfl rdsz _ rfl) rfl ?_
              show RdsL D w R _ _
              rw [← Hres.out]
              obtain ⟨kk, ho, hf⟩ := HA.out.acc
              exact ⟨_, ⟨kk, ho.kept K3 (fun j hj e => by have := hf j hj; omega), fun j hj => by have := hf j hj; omega⟩, ra, rc, rfl, Hbs.out.later K2, below_kept (below_kept HB2.out (Nat.le_refl _) HA.out.kept) (Nat.le_refl _) K2⟩
          · have se2 : ((s.e : Int) != 0) = true := by rw [bne_iff_ne]; omega
            have se3 : ((s.e : Int) == 0) = false := by rw [beq_eq_false_iff_ne]; omega
            have HRv := Lib.hid (HD.out.2.1 hse)
            clear hse
            by_cases hlt : j < V
            all_goals
              go_wp2
              have K2 : Kept (fun j => w.heap.size ≤ j) wr ((wr.setCell ⟨w.heap.size + 1, 0, none⟩ (.slice ra s.l.length rc)).setCell ⟨w.heap.size + 1, 1, none⟩ (.int .i64 (s.e : Int))) := kept_sets (Kept.refl _ _) (Nat.le_succ w.heap.size) _ _
              refine bodyPost_ret (v := .tuple #[.agg #[.slice ra s.l.length rc, .int .i64 (s.e : Int)], .slice none 0 0]) (results_row_tmp rfl _ _ (w.heap.size + 1) 48 #[.slice ra s.l.length rc, .int .i64 (s.e : Int)] (0, 0) _ rfl (HA.out.res.sets _ _) Try.underlying48 rfl rdsz _ rfl) rfl ?_
              show RdsL D w R _ _
              rw [HRv.out]
              exact ⟨_, ⟨none, Own.nil _ _ _, fun _ h => by cases h⟩, ra, rc, rfl, Hbs.out.later K2, below_kept (below_kept HB2.out (Nat.le_refl _) HA.out.kept) (Nat.le_refl _) K2⟩
  · have he2 : ((S.e : Int) != 0) = true := by rw [bne_iff_ne]; omega
    have he3 : ((S.e : Int) == 0) = false := by rw [beq_eq_false_iff_ne]; omega
    have HRv := Lib.hid (HT1.out he)
    go_wp2
    have K2 : Kept (fun j => w.heap.size ≤ j) w2 ((w2.setCell ⟨w.heap.size + 1, 0, none⟩ (.slice ua S.l.length uc)).setCell ⟨w.heap.size + 1, 1, none⟩ (.int .i64 (S.e : Int))) := kept_sets (Kept.refl _ _) (Nat.le_succ w.heap.size) _ _
    refine bodyPost_ret (v := .tuple #[.agg #[.slice ua S.l.length uc, .int .i64 (S.e : Int)], .slice none 0 0]) (results_row_tmp rfl _ _ (w.heap.size + 1) 48 #[.slice ua S.l.length uc, .int .i64 (S.e : Int)] (0, 0) _ rfl (HR1.out.sets _ _) Try.underlying48 rfl rdsz _ rfl) rfl ?_
    show RdsL D w R _ _
    rw [HRv.out]
    exact ⟨_, ⟨none, Own.nil _ _ _, fun _ h => by cases h⟩, ua, uc, rfl, HS2.out.later K2, below_kept HB2.out (Nat.le_refl _) K2⟩
end Go.Proofs.Ytdnbkiaolimfjaa

/-
  The reference's ReadText.
-/
import Derived.Test.YtdnbkiaolimfjaaN4
namespace Go.Proofs.Ytdnbkiaolimfjaa
open Go.RowKit
set_option linter.unusedSimpArgs false
set_option linter.unusedVariables false
theorem rUint_bad (s : RS) (h : (rUint s).2.e ≠ 0) : (rUint s).1 = 0 := by
  by_cases he : s.e = 0
  · rw [rUint_ok s he] at h ⊢
    simp only at h ⊢
    rcases fnum_err s.l 0 0 with h1 | h1 | h1
    · exact absurd h1 h
    · rw [h1]
    · rw [h1]
  · rw [rUint_err s he]
theorem rLen_bad (s : RS) (most : Int) (h : (rUint s).2.e ≠ 0) : rLen s most = (0, (rUint s).2) := by
  have h0 := rUint_bad s h
  unfold rLen
  split
  · rw [RS.fail, if_neg h]
  · rw [Prod.ext_iff]; exact ⟨h0, rfl⟩
theorem rLen_limit (s : RS) (most : Int) (h : (rUint s).2.e = 0) (hm : most < 0 ∨ most < ((rUint s).1 : Int)) : rLen s most = (0, ⟨(rUint s).2.l, 2⟩) := by
  unfold rLen
  rw [if_pos hm, RS.fail, if_pos h]
theorem rLen_fine (s : RS) (most : Int) (hm : ¬ (most < 0 ∨ most < ((rUint s).1 : Int))) : rLen s most = rUint s := by
  unfold rLen
  rw [if_neg hm]
theorem rText_bad (s : RS) (most : Int) (h : (rUint s).2.e ≠ 0) : rText s most = ([], (rUint s).2) := by
  unfold rText
  rw [rLen_bad s most h]
  simp
theorem rText_limit (s : RS) (most : Int) (h : (rUint s).2.e = 0) (hm : most < 0 ∨ most < ((rUint s).1 : Int)) : rText s most = ([], ⟨(rUint s).2.l, 2⟩) := by
  unfold rText
  rw [rLen_limit s most h hm]
  simp
theorem rText_short (s : RS) (most : Int) (h : (rUint s).2.e = 0) (hm : ¬ (most < 0 ∨ most < ((rUint s).1 : Int))) (hl : (rUint s).2.l.length < (rUint s).1) : rText s most = ([], ⟨(rUint s).2.l, 6⟩) := by
  unfold rText
  rw [rLen_fine s most hm, if_pos hl, RS.fail, if_pos h]
theorem rText_ok (s : RS) (most : Int) (h : (rUint s).2.e = 0) (hm : ¬ (most < 0 ∨ most < ((rUint s).1 : Int))) (hl : ¬ (rUint s).2.l.length < (rUint s).1) : rText s most = ((rUint s).2.l.take (rUint s).1, ⟨(rUint s).2.l.drop (rUint s).1, 0⟩) := by
  unfold rText
  rw [rLen_fine s most hm, if_neg hl, h]
def Drt8 : List (Option Tmp) := [some 35, some 36, some 37, some 38, some 39, some 40, some 41, some 42, some 43, some 44, none, some 5]
def Lrt8 : List (List Nat) := [[], [0], [], [1, 2], [3], [], [5], [], [6, 7], [8], [4], [9]]
set_option maxRecDepth 100000 in
set_option maxHeartbeats 2000000 in
theorem refReadText_any (D : Nat → Prop) (a : Option Addr) (c : Nat) (l : List UInt8) (e : Nat) (most : Int) (w : World) (hB : Bs D w a l.length c l) (hl : l.length ≤ 100000000000000) (hm1 : -9223372036854775808 ≤ most) (hm2 : most ≤ 9223372036854775807) :
    Calls Try.prog 50 #[rdv a l.length c e, .int .i64 most] w fun x w' => RdsV D w (rText ⟨l, e⟩ most).2 (.string ⟨(rText ⟨l, e⟩ most).1.toArray⟩) x w' := by
  have hC := refReadUint_any (fun b => D b ∧ b < w.heap.size) a c l e _ (fail_rds (w2 := w) 0 hB.inner (below_two w (.cells #[.slice a l.length c, .int .i64 (e : Int)] 48) (.cells #[.slice none 0 0, .int .i64 0] 48))) hl
  have hv := rUint_val ⟨l, e⟩
  have hle := rUint_len ⟨l, e⟩
  have hT1 := rText_bad ⟨l, e⟩ most
  have hT2 := rText_limit ⟨l, e⟩ most
  have hT3 := rText_short ⟨l, e⟩ most
  have hT4 := rText_ok ⟨l, e⟩ most
  generalize rText ⟨l, e⟩ most = R at *
  generalize rUint ⟨l, e⟩ = U at *
  obtain ⟨V, S⟩ := U
  simp only at hC hv hle hT1 hT2 hT3 hT4
  unfold rdv at hC ⊢
  have HC := Lib.hid hC
  have HT1 := Lib.hid hT1
  have HT2 := Lib.hid hT2
  have HT3 := Lib.hid hT3
  have HT4 := Lib.hid hT4
  have hSl : S.l.length ≤ 100000000000000 := by omega
  clear hC hB hT1 hT2 hT3 hT4 hle
  go_enter Try.func50, Try.ntmps50
  go_upto_region 2 with (first
    | (refine wpList_store_row rfl 48 (.tmp 2) (.tmp 10) rfl w.heap.size _ rfl rfl 48 _ G0.out (rdsz2 _ _) rfl (rdone _ _ _ _ _) ?_)
    | (go_at_call 47; refine HC.out.mono ?_; rintro x w1 ⟨ua, uc, rfl, hB1, hb1⟩; have G0 := Lib.hid (box0 hb1); have G1 := Lib.hid (box1 hb1); have B1 := Lib.hid (rd_bel hb1); have S1 := Lib.hid hB1; clear hB1 hb1; unfold rdv))
  obtain ⟨w2, hw2⟩ : ∃ w2, w2 = w1.setRow w.heap.size #[.slice ua S.l.length uc, .int .i64 (S.e : Int)] := ⟨_, rfl⟩
  rw [← hw2]
  have hR : RdB w2 w.heap.size ua S.l.length uc S.e := by rw [hw2]; exact setRow_heap _ _ _ _ _ _ G0.out
  have hR1 : RdB w2 (w.heap.size + 1) none 0 0 0 := by rw [hw2]; exact (setRow_other _ _ _ _ (by omega)).trans G1.out
  have hK : Kept (fun j => w.heap.size ≤ j) w1 w2 := by rw [hw2]; exact (Kept.refl _ _).setRow (fun _ => Nat.le_refl _) _
  have hS2 : Bs (fun b => D b ∧ b < w.heap.size) w2 ua S.l.length uc S.l := S1.out.kept hK (fun b _ hd hs => by have := hd.2; omega)
  have hB2 : Below w.heap.size w w2 := below_kept B1.out (Nat.le_refl _) hK
  obtain ⟨x0, x1, x2, x3⟩ := hR.facts
  obtain ⟨y0, y1, y2, y3⟩ := hR1.facts
  have HR := Lib.hid hR
  have HR1 := Lib.hid hR1
  have HB2 := Lib.hid hB2
  have HS2 := Lib.hid hS2
  have nc1 : S.l.length ≤ uc := hS2.2.2.1
  have nc2 : uc ≤ 9223372036854775807 := hS2.2.2.2.1
  clear hR hR1 hK hw2 hS2 hB2 HC S1
  by_cases he : S.e = 0
  · have he2 : ((S.e : Int) != 0) = false := by rw [he]; rfl
    have he3 : ((S.e : Int) == 0) = true := by rw [he]; rfl
    by_cases hm0 : most < 0
    · have HRv := Lib.hid (HT2.out he (.inl hm0))
      have HE := Lib.hid he
      clear he
      go_wp2_with (first
        | (refine wpList_store_row rfl 48 (.tmp 4) (.tmp 26) rfl (w.heap.size + 1) _ rfl rfl 48 _ G3.out (rdsz2 _ _) rfl (rdone _ _ _ _ _) ?_)
        | (go_at_call 60; refine (refFail_any _ _ _ _ 2 _).mono ?_; rintro e w3 ⟨rfl, h3⟩; have G3 := Lib.hid ((h3.block _ (heap_lt HR1.out)).trans HR1.out); have B3 := Lib.hid h3; clear h3; unfold rdv))
      have K2 : Kept (fun j => w.heap.size ≤ j) w2 (w3.setRow (w.heap.size + 1) #[.slice ua S.l.length uc, .int .i64 ((fails S.e 2 : Nat) : Int)]) := (Kept.of_below _ B3.out).setRow (fun _ => Nat.le_succ _) _
      refine bodyPost_ret (v := .tuple #[.agg #[.slice ua S.l.length uc, .int .i64 ((fails S.e 2 : Nat) : Int)], .string ⟨#[]⟩]) (results_row_tmp rfl _ _ (w.heap.size + 1) 48 #[.slice ua S.l.length uc, .int .i64 ((fails S.e 2 : Nat) : Int)] (0, 0) _ rfl (setRow_heap _ _ _ _ _ _ G3.out) Try.underlying48 rfl rdsz _ rfl) rfl ?_
      show RdsV D w R.2 (.string ⟨R.1.toArray⟩) _ _
      rw [HRv.out]
      have ef : fails S.e 2 = 2 := by rw [HE.out]; rfl
      rw [ef] at K2 ⊢
      exact ⟨ua, uc, rfl, HS2.out.later K2, below_kept HB2.out (Nat.le_refl _) K2⟩
    · have mx : max most 0 = most := by omega
      by_cases hmv : most < (V : Int)
      · have HRv := Lib.hid (HT2.out he (.inr hmv))
        have HE := Lib.hid he
        clear he
        go_wp2_with (first
          | (refine wpList_store_row rfl 48 (.tmp 4) (.tmp 26) rfl (w.heap.size + 1) _ rfl rfl 48 _ G3.out (rdsz2 _ _) rfl (rdone _ _ _ _ _) ?_)
          | (go_at_call 60; refine (refFail_any _ _ _ _ 2 _).mono ?_; rintro e w3 ⟨rfl, h3⟩; have G3 := Lib.hid ((h3.block _ (heap_lt HR1.out)).trans HR1.out); have B3 := Lib.hid h3; clear h3; unfold rdv))
        have K2 : Kept (fun j => w.heap.size ≤ j) w2 (w3.setRow (w.heap.size + 1) #[.slice ua S.l.length uc, .int .i64 ((fails S.e 2 : Nat) : Int)]) := (Kept.of_below _ B3.out).setRow (fun _ => Nat.le_succ _) _
        refine bodyPost_ret (v := .tuple #[.agg #[.slice ua S.l.length uc, .int .i64 ((fails S.e 2 : Nat) : Int)], .string ⟨#[]⟩]) (results_row_tmp rfl _ _ (w.heap.size + 1) 48 #[.slice ua S.l.length uc, .int .i64 ((fails S.e 2 : Nat) : Int)] (0, 0) _ rfl (setRow_heap _ _ _ _ _ _ G3.out) Try.underlying48 rfl rdsz _ rfl) rfl ?_
        show RdsV D w R.2 (.string ⟨R.1.toArray⟩) _ _
        rw [HRv.out]
        have ef : fails S.e 2 = 2 := by rw [HE.out]; rfl
        rw [ef] at K2 ⊢
        exact ⟨ua, uc, rfl, HS2.out.later K2, below_kept HB2.out (Nat.le_refl _) K2⟩
      · have hnm : ¬ (most < 0 ∨ most < (V : Int)) := by omega
        by_cases hvl : S.l.length < V
        · have HRv := Lib.hid (HT3.out he hnm hvl)
          have HE := Lib.hid he
          clear he hnm
          go_wp2_with (first
            | (refine wpList_store_row rfl 48 (.tmp 4) (.tmp 34) rfl (w.heap.size + 1) _ rfl rfl 48 _ G3.out (rdsz2 _ _) rfl (rdone _ _ _ _ _) ?_)
            | (go_at_call 60; refine (refFail_any _ _ _ _ 6 _).mono ?_; rintro e w3 ⟨rfl, h3⟩; have G3 := Lib.hid ((h3.block _ (heap_lt HR1.out)).trans HR1.out); have B3 := Lib.hid h3; clear h3; unfold rdv))
          have K2 : Kept (fun j => w.heap.size ≤ j) w2 (w3.setRow (w.heap.size + 1) #[.slice ua S.l.length uc, .int .i64 ((fails S.e 6 : Nat) : Int)]) := (Kept.of_below _ B3.out).setRow (fun _ => Nat.le_succ _) _
          refine bodyPost_ret (v := .tuple #[.agg #[.slice ua S.l.length uc, .int .i64 ((fails S.e 6 : Nat) : Int)], .string ⟨#[]⟩]) (results_row_tmp rfl _ _ (w.heap.size + 1) 48 #[.slice ua S.l.length uc, .int .i64 ((fails S.e 6 : Nat) : Int)] (0, 0) _ rfl (setRow_heap _ _ _ _ _ _ G3.out) Try.underlying48 rfl rdsz _ rfl) rfl ?_
          show RdsV D w R.2 (.string ⟨R.1.toArray⟩) _ _
          rw [HRv.out]
          have ef : fails S.e 6 = 6 := by rw [HE.out]; rfl
          rw [ef] at K2 ⊢
          exact ⟨ua, uc, rfl, HS2.out.later K2, below_kept HB2.out (Nat.le_refl _) K2⟩
        · have HRv := Lib.hid (HT4.out he hnm hvl)
          have HE := Lib.hid he
          clear he hnm
          have hsl := run_bfrom ua S.l.length uc V .u64 (by omega)
          have hfr := HS2.out.from V (by omega)
          have hto := run_bto ua S.l.length uc V .u64 (by omega)
          have hup := HS2.out.upto V (by omega)
          obtain ⟨aN, hA⟩ : ∃ aN, aN = (if uc = V then ua else ua.map (fun x => x.add V)) := ⟨_, rfl⟩
          rw [← hA] at hsl hfr
          have Hsl := Lib.hid hsl
          have Hto := Lib.hid hto
          have HfrH := Lib.hid hfr
          have HupH := Lib.hid hup
          clear hsl hfr hA hto hup
          go_upto_region 8 with fail
          have Hq0 : Hid (w.heap.size < w2.heap.size) := Lib.hid (heap_lt HR.out)
          refine Roll.region_f 11 45 Drt8 Lrt8 [(1, .int .i64 most), (2, .pointer (some ⟨w.heap.size, 0, none⟩)), (4, .pointer (some ⟨w.heap.size + 1, 0, none⟩)), (6, .int .u64 (V : Int))] (fun p => Kept (fun j => j = w.heap.size + 1) w2 p ∧ ∃ x y, p.heap[w.heap.size + 1]? = some (.cells #[x, y] 48 (0, 0))) (fun p p' => Kept (fun j => j = w.heap.size + 1) p p' ∧ (p.heap[w.heap.size + 1]? = some (.cells #[.slice aN (S.l.length - V) (uc - V), .int .i64 0] 48 (0, 0)) → p'.heap[w.heap.size + 1]? = some (.cells #[.slice aN (S.l.length - V) (uc - V), .int .i64 0] 48 (0, 0)))) [fun vv p => vv = .pointer (some ⟨w.heap.size, 0, none⟩), fun vv p => vv = .slice ua S.l.length uc, fun vv p => vv = .int .u64 (V : Int), fun vv p => vv = .slice aN (S.l.length - V) (uc - V), fun vv p => vv = .agg #[.slice aN (S.l.length - V) (uc - V), .int .i64 0], fun vv p => vv = .pointer (some ⟨w.heap.size, 0, none⟩), fun vv p => vv = .slice ua S.l.length uc, fun vv p => vv = .int .u64 (V : Int), fun vv p => vv = .slice ua V uc, fun vv p => vv = .string ⟨(S.l.take V).toArray⟩, fun vv p => p.heap[w.heap.size + 1]? = some (.cells #[.slice aN (S.l.length - V) (uc - V), .int .i64 0] 48 (0, 0))] (by kernel_rfl) (by kernel_rfl) rfl ⟨rfl, rfl, rfl, rfl, trivial⟩ (⟨(Kept.refl _ _).drew, _, _, HR1.out⟩) ?_ ?_ ?_
          · exact ⟨fun _ _ _ _ h => h, fun _ _ _ _ h => h, fun _ _ _ _ h => h, fun _ _ _ _ h => h, fun _ _ _ _ h => h, fun _ _ _ _ h => h, fun _ _ _ _ h => h, fun _ _ _ _ h => h, fun _ _ _ _ h => h, fun _ _ _ _ h => h, fun v p p' hb h => hb.2 h, trivial⟩
          · intro b0 hN hlv
            refine ⟨?_, ?_, ?_, ?_, ?_, ?_, ?_, ?_, ?_, ?_, ?_, trivial⟩
            · intro vals p hI hp
              have e2 : (Roll.putD Drt8 vals [] b0).eval (.tmp 2) = .pointer (some ⟨w.heap.size, 0, none⟩) := (Roll.eval_old rfl).trans (hlv.at 1 (2, .pointer (some ⟨w.heap.size, 0, none⟩)) rfl)
              clear hp hlv hN
              unfold Roll.Goes
              simp only [Lrt8, List.getD_cons_zero, List.getD_cons_succ]
              generalize Roll.putD Drt8 vals [] b0 = a1 at *
              refine Roll.goes_val (w' := p) (.pointer (some ⟨w.heap.size, 0, none⟩)) rfl ?_ ⟨hI, ⟨Kept.refl _ _, id⟩, rfl⟩
              (have ec : ∀ x, a1.eval (.const x) = x := fun _ => rfl); (have ef : ∀ x, a1.eval (.func x) = .func (.func x) #[] #[] := fun _ => rfl); generalize a1.eval = ρ at *
              skip
              go_simp <;> (intros; first | (exfalso; omega) | rfl)
            · intro vals p hI hp
              have h0 : (vals 0) = .pointer (some ⟨w.heap.size, 0, none⟩) := hp 0 (by simp [Lrt8])
              have e35 : (Roll.putD Drt8 vals [0] b0).eval (.tmp 35) = .pointer (some ⟨w.heap.size, 0, none⟩) := (Roll.eval_new 0 rfl (by decide) (by decide) (by omega)).trans h0
              clear hp hlv hN
              unfold Roll.Goes
              simp only [Lrt8, List.getD_cons_zero, List.getD_cons_succ]
              generalize Roll.putD Drt8 vals [0] b0 = a1 at *
              have c0 := (hI.1.cell (p := ⟨w.heap.size, 0, none⟩) Hq0.out (by simp)).trans HR.out.facts.1
              refine Roll.goes_val (w' := p) (.slice ua S.l.length uc) rfl ?_ ⟨hI, ⟨Kept.refl _ _, id⟩, rfl⟩
              (have ec : ∀ x, a1.eval (.const x) = x := fun _ => rfl); (have ef : ∀ x, a1.eval (.func x) = .func (.func x) #[] #[] := fun _ => rfl); generalize a1.eval = ρ at *
              clear h0
              go_simp <;> (intros; first | (exfalso; omega) | rfl)
            · intro vals p hI hp
              have e6 : (Roll.putD Drt8 vals [] b0).eval (.tmp 6) = .int .u64 (V : Int) := (Roll.eval_old rfl).trans (hlv.at 3 (6, .int .u64 (V : Int)) rfl)
              clear hp hlv hN
              unfold Roll.Goes
              simp only [Lrt8, List.getD_cons_zero, List.getD_cons_succ]
              generalize Roll.putD Drt8 vals [] b0 = a1 at *
              refine Roll.goes_val (w' := p) (.int .u64 (V : Int)) rfl ?_ ⟨hI, ⟨Kept.refl _ _, id⟩, rfl⟩
              (have ec : ∀ x, a1.eval (.const x) = x := fun _ => rfl); (have ef : ∀ x, a1.eval (.func x) = .func (.func x) #[] #[] := fun _ => rfl); generalize a1.eval = ρ at *
              skip
              go_simp <;> (intros; first | (exfalso; omega) | rfl)
            · intro vals p hI hp
              have h1 : (vals 1) = .slice ua S.l.length uc := hp 1 (by simp [Lrt8])
              have h2 : (vals 2) = .int .u64 (V : Int) := hp 2 (by simp [Lrt8])
              have e36 : (Roll.putD Drt8 vals [1, 2] b0).eval (.tmp 36) = .slice ua S.l.length uc := (Roll.eval_new 1 rfl (by decide) (by decide) (by omega)).trans h1
              have e37 : (Roll.putD Drt8 vals [1, 2] b0).eval (.tmp 37) = .int .u64 (V : Int) := (Roll.eval_new 2 rfl (by decide) (by decide) (by omega)).trans h2
              clear hp hlv hN
              unfold Roll.Goes
              simp only [Lrt8, List.getD_cons_zero, List.getD_cons_succ]
              generalize Roll.putD Drt8 vals [1, 2] b0 = a1 at *
              exact Roll.goes_slice_from rfl 23 (.tmp 36) (.tmp 37) rfl _ _ _ e36 e37 (Hsl.out p) ⟨hI, ⟨Kept.refl _ _, id⟩, rfl⟩
            · intro vals p hI hp
              have h3 : (vals 3) = .slice aN (S.l.length - V) (uc - V) := hp 3 (by simp [Lrt8])
              have e38 : (Roll.putD Drt8 vals [3] b0).eval (.tmp 38) = .slice aN (S.l.length - V) (uc - V) := (Roll.eval_new 3 rfl (by decide) (by decide) (by omega)).trans h3
              clear hp hlv hN
              unfold Roll.Goes
              simp only [Lrt8, List.getD_cons_zero, List.getD_cons_succ]
              generalize Roll.putD Drt8 vals [3] b0 = a1 at *
              refine Roll.goes_val (w' := p) (.agg #[.slice aN (S.l.length - V) (uc - V), .int .i64 0]) rfl ?_ ⟨hI, ⟨Kept.refl _ _, id⟩, rfl⟩
              (have ec : ∀ x, a1.eval (.const x) = x := fun _ => rfl); (have ef : ∀ x, a1.eval (.func x) = .func (.func x) #[] #[] := fun _ => rfl); generalize a1.eval = ρ at *
              clear h3
              go_simp <;> (intros; first | (exfalso; omega) | rfl)
            · intro vals p hI hp
              have e2 : (Roll.putD Drt8 vals [] b0).eval (.tmp 2) = .pointer (some ⟨w.heap.size, 0, none⟩) := (Roll.eval_old rfl).trans (hlv.at 1 (2, .pointer (some ⟨w.heap.size, 0, none⟩)) rfl)
              clear hp hlv hN
              unfold Roll.Goes
              simp only [Lrt8, List.getD_cons_zero, List.getD_cons_succ]
              generalize Roll.putD Drt8 vals [] b0 = a1 at *
              refine Roll.goes_val (w' := p) (.pointer (some ⟨w.heap.size, 0, none⟩)) rfl ?_ ⟨hI, ⟨Kept.refl _ _, id⟩, rfl⟩
              (have ec : ∀ x, a1.eval (.const x) = x := fun _ => rfl); (have ef : ∀ x, a1.eval (.func x) = .func (.func x) #[] #[] := fun _ => rfl); generalize a1.eval = ρ at *
              skip
              go_simp <;> (intros; first | (exfalso; omega) | rfl)
            · intro vals p hI hp
              have h5 : (vals 5) = .pointer (some ⟨w.heap.size, 0, none⟩) := hp 5 (by simp [Lrt8])
              have e40 : (Roll.putD Drt8 vals [5] b0).eval (.tmp 40) = .pointer (some ⟨w.heap.size, 0, none⟩) := (Roll.eval_new 5 rfl (by decide) (by decide) (by omega)).trans h5
              clear hp hlv hN
              unfold Roll.Goes
              simp only [Lrt8, List.getD_cons_zero, List.getD_cons_succ]
              generalize Roll.putD Drt8 vals [5] b0 = a1 at *
              have c0 := (hI.1.cell (p := ⟨w.heap.size, 0, none⟩) Hq0.out (by simp)).trans HR.out.facts.1
              refine Roll.goes_val (w' := p) (.slice ua S.l.length uc) rfl ?_ ⟨hI, ⟨Kept.refl _ _, id⟩, rfl⟩
              (have ec : ∀ x, a1.eval (.const x) = x := fun _ => rfl); (have ef : ∀ x, a1.eval (.func x) = .func (.func x) #[] #[] := fun _ => rfl); generalize a1.eval = ρ at *
              clear h5
              go_simp <;> (intros; first | (exfalso; omega) | rfl)
            · intro vals p hI hp
              have e6 : (Roll.putD Drt8 vals [] b0).eval (.tmp 6) = .int .u64 (V : Int) := (Roll.eval_old rfl).trans (hlv.at 3 (6, .int .u64 (V : Int)) rfl)
              clear hp hlv hN
              unfold Roll.Goes
              simp only [Lrt8, List.getD_cons_zero, List.getD_cons_succ]
              generalize Roll.putD Drt8 vals [] b0 = a1 at *
              refine Roll.goes_val (w' := p) (.int .u64 (V : Int)) rfl ?_ ⟨hI, ⟨Kept.refl _ _, id⟩, rfl⟩
              (have ec : ∀ x, a1.eval (.const x) = x := fun _ => rfl); (have ef : ∀ x, a1.eval (.func x) = .func (.func x) #[] #[] := fun _ => rfl); generalize a1.eval = ρ at *
              skip
              go_simp <;> (intros; first | (exfalso; omega) | rfl)
            · intro vals p hI hp
              have h6 : (vals 6) = .slice ua S.l.length uc := hp 6 (by simp [Lrt8])
              have h7 : (vals 7) = .int .u64 (V : Int) := hp 7 (by simp [Lrt8])
              have e41 : (Roll.putD Drt8 vals [6, 7] b0).eval (.tmp 41) = .slice ua S.l.length uc := (Roll.eval_new 6 rfl (by decide) (by decide) (by omega)).trans h6
              have e42 : (Roll.putD Drt8 vals [6, 7] b0).eval (.tmp 42) = .int .u64 (V : Int) := (Roll.eval_new 7 rfl (by decide) (by decide) (by omega)).trans h7
              clear hp hlv hN
              unfold Roll.Goes
              simp only [Lrt8, List.getD_cons_zero, List.getD_cons_succ]
              generalize Roll.putD Drt8 vals [6, 7] b0 = a1 at *
              exact Roll.goes_slice_to rfl 23 (.tmp 41) (.tmp 42) rfl _ _ _ e41 e42 (Hto.out p) ⟨hI, ⟨Kept.refl _ _, id⟩, rfl⟩
            · intro vals p hI hp
              have h8 : (vals 8) = .slice ua V uc := hp 8 (by simp [Lrt8])
              have e43 : (Roll.putD Drt8 vals [8] b0).eval (.tmp 43) = .slice ua V uc := (Roll.eval_new 8 rfl (by decide) (by decide) (by omega)).trans h8
              clear hp hlv hN
              unfold Roll.Goes
              simp only [Lrt8, List.getD_cons_zero, List.getD_cons_succ]
              generalize Roll.putD Drt8 vals [8] b0 = a1 at *
              exact Roll.goes_convert rfl 23 9 (.tmp 43) rfl _ _ e43 (run_str (HupH.out.kept hI.1 (fun b _ hd hs => by have := hd.2; omega))) ⟨hI, ⟨Kept.refl _ _, id⟩, rfl⟩
            · intro vals p hI hp
              have h4 : (vals 4) = .agg #[.slice aN (S.l.length - V) (uc - V), .int .i64 0] := hp 4 (by simp [Lrt8])
              have e4 : (Roll.putD Drt8 vals [4] b0).eval (.tmp 4) = .pointer (some ⟨w.heap.size + 1, 0, none⟩) := (Roll.eval_old rfl).trans (hlv.at 2 (4, .pointer (some ⟨w.heap.size + 1, 0, none⟩)) rfl)
              have e39 : (Roll.putD Drt8 vals [4] b0).eval (.tmp 39) = .agg #[.slice aN (S.l.length - V) (uc - V), .int .i64 0] := (Roll.eval_new 4 rfl (by decide) (by decide) (by omega)).trans h4
              clear hp hlv hN
              unfold Roll.Goes
              simp only [Lrt8, List.getD_cons_zero, List.getD_cons_succ]
              generalize Roll.putD Drt8 vals [4] b0 = a1 at *
              obtain ⟨hI1, x1, y1, hold⟩ := hI
              exact Roll.goes_store_row rfl 48 (.tmp 4) (.tmp 39) rfl (w.heap.size + 1) #[.slice aN (S.l.length - V) (uc - V), .int .i64 0] e4 e39 48 #[x1, y1] hold (rdsz2 _ _) rfl (rdone _ _ _ _ _) ⟨⟨hI1.setRow (fun _ => rfl) _, _, _, setRow_heap _ _ _ _ _ _ hold⟩, ⟨(Kept.refl (fun j => j = w.heap.size + 1) p).setRow (fun _ => rfl) _, fun _ => setRow_heap _ _ _ _ _ _ hold⟩, setRow_heap _ _ _ _ _ _ hold⟩
          · intro vals p hI hR
            have h0 : (vals 0) = .pointer (some ⟨w.heap.size, 0, none⟩) := hR 0 (by omega)
            have h1 : (vals 1) = .slice ua S.l.length uc := hR 1 (by omega)
            have h2 : (vals 2) = .int .u64 (V : Int) := hR 2 (by omega)
            have h3 : (vals 3) = .slice aN (S.l.length - V) (uc - V) := hR 3 (by omega)
            have h4 : (vals 4) = .agg #[.slice aN (S.l.length - V) (uc - V), .int .i64 0] := hR 4 (by omega)
            have h5 : (vals 5) = .pointer (some ⟨w.heap.size, 0, none⟩) := hR 5 (by omega)
            have h6 : (vals 6) = .slice ua S.l.length uc := hR 6 (by omega)
            have h7 : (vals 7) = .int .u64 (V : Int) := hR 7 (by omega)
            have h8 : (vals 8) = .slice ua V uc := hR 8 (by omega)
            have h9 : (vals 9) = .string ⟨(S.l.take V).toArray⟩ := hR 9 (by omega)
            have h10 : p.heap[w.heap.size + 1]? = some (.cells #[.slice aN (S.l.length - V) (uc - V), .int .i64 0] 48 (0, 0)) := hR 10 (by omega)
            clear hR
            simp only [List.range_succ, List.range_zero, List.nil_append, List.cons_append, Roll.putD, Act.put, List.getD_cons_zero, List.getD_cons_succ, List.setIfInBounds_toArray, List.set_cons_zero, List.set_cons_succ, List.drop_succ_cons, List.drop_zero, Drt8]
            simp only [h0, h1, h2, h3, h4, h5, h6, h7, h8, h9]
            clear h0 h1 h2 h3 h4 h5 h6 h7 h8 h9
            go_wp2
            refine bodyPost_ret (v := .tuple #[.agg #[.slice aN (S.l.length - V) (uc - V), .int .i64 0], .string ⟨(S.l.take V).toArray⟩]) (results_row_tmp rfl _ _ (w.heap.size + 1) 48 #[.slice aN (S.l.length - V) (uc - V), .int .i64 0] (0, 0) _ rfl h10 Try.underlying48 rfl rdsz _ rfl) rfl ?_
            show RdsV D w R.2 (.string ⟨R.1.toArray⟩) _ _
            rw [HRv.out]
            have K := hI.1.mono (T := fun j => w.heap.size ≤ j) (fun j _ h => by omega)
            exact ⟨_, _, by simp only [rdv, List.length_drop]; rfl, by simp only [List.length_drop]; exact (HfrH.out).later K, below_kept HB2.out (Nat.le_refl _) K⟩
  · have he2 : ((S.e : Int) != 0) = true := by rw [bne_iff_ne]; omega
    have he3 : ((S.e : Int) == 0) = false := by rw [beq_eq_false_iff_ne]; omega
    have HRv := Lib.hid (HT1.out he)
    go_wp2
    have K2 : Kept (fun j => w.heap.size ≤ j) w2 ((w2.setCell ⟨w.heap.size + 1, 0, none⟩ (.slice ua S.l.length uc)).setCell ⟨w.heap.size + 1, 1, none⟩ (.int .i64 (S.e : Int))) := kept_sets (Kept.refl _ _) (Nat.le_succ w.heap.size) _ _
    refine bodyPost_ret (v := .tuple #[.agg #[.slice ua S.l.length uc, .int .i64 (S.e : Int)], .string ⟨#[]⟩]) (results_row_tmp rfl _ _ (w.heap.size + 1) 48 #[.slice ua S.l.length uc, .int .i64 (S.e : Int)] (0, 0) _ rfl (HR1.out.sets _ _) Try.underlying48 rfl rdsz (.string ⟨#[]⟩) rfl) rfl ?_
    show RdsV D w R.2 (.string ⟨R.1.toArray⟩) _ _
    rw [HRv.out]
    exact ⟨ua, uc, rfl, HS2.out.later K2, below_kept HB2.out (Nat.le_refl _) K2⟩
end Go.Proofs.Ytdnbkiaolimfjaa

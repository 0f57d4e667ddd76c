/-
  The reference's ReadUint.
-/
import Derived.Test.YtdnbkiaolimfjaaN2
namespace Go.Proofs.Ytdnbkiaolimfjaa
open Go.RowKit
set_option linter.unusedSimpArgs false
set_option linter.unusedVariables false
theorem fail_rds {D : Nat → Prop} {w w' w2 : World} {a : Option Addr} {n c : Nat} {l : List UInt8} (f : Nat) (hB : Bs D w a n c l) (hb : Below w.heap.size w w') : Bs D w' a n c l := hB.kept (Kept.of_below (fun _ => False) hb) (fun _ _ _ h => h)
theorem below_two (w : World) (o o' : Obj) : Below w.heap.size w ((w.alloc o).alloc o') := ((Below.refl _ _).alloc (Nat.le_refl _) _).alloc (by simp) _
theorem rdsz : (Try.prog.info? 48).map (·.size) = some 2 := by kernel_rfl
theorem rdsz2 (x y : Value) : (Try.prog.info? 48).map (·.size) = some (#[x, y] : Array Value).size := rdsz
theorem rdone (a : Option Addr) (n c : Nat) (k : IntKind) (i : Int) : (#[.slice a n c, .int k i] : Array Value).all (·.oneCell') = true := by simp [Value.oneCell']
theorem rd_res {w w1 : World} {o : Obj} (h : Below ((w.alloc o).alloc (.cells #[.slice none 0 0, .int .i64 0] 48)).heap.size ((w.alloc o).alloc (.cells #[.slice none 0 0, .int .i64 0] 48)) w1) : w1.heap[w.heap.size + 1]? = some (.cells #[.slice none 0 0, .int .i64 0] 48 (0, 0)) :=
  (h.block _ (by rw [size_alloc1, size_alloc1]; omega)).trans (heap_new (by rw [size_alloc1]))
theorem rd_bel {w w1 : World} {o o' : Obj} (h : Below ((w.alloc o).alloc o').heap.size ((w.alloc o).alloc o') w1) : Below w.heap.size w w1 := (below_two w o o').trans (h.mono (by rw [size_alloc1, size_alloc1]; omega))
set_option maxRecDepth 100000 in
set_option maxHeartbeats 2000000 in
theorem refReadUint_any (D : Nat → Prop) (a : Option Addr) (c : Nat) (l : List UInt8) (e : Nat) (w : World) (hB : Bs D w a l.length c l) (hl : l.length ≤ 100000000000000) :
    Calls Try.prog 47 #[rdv a l.length c e] w fun x w' => RdsV D w (rUint ⟨l, e⟩).2 (.int .u64 ((rUint ⟨l, e⟩).1 : Int)) x w' := by
  have nc1 : l.length ≤ c := hB.2.2.1
  have nc2 : c ≤ 9223372036854775807 := hB.2.2.2.1
  have HB := Lib.hid hB
  have HB2 := Lib.hid (below_two w)
  clear hB
  by_cases he : e = 0
  · subst he
    obtain ⟨R, hR⟩ : ∃ R, R = rUint ⟨l, 0⟩ := ⟨_, rfl⟩
    rw [← hR]
    have HR := Lib.hid hR
    clear hR
    unfold rdv
    go_enter Try.func47, Try.ntmps47
    go_wp2
    go_loop [4] (fun t => ∃ k : Nat, k ≤ l.length ∧ k ≤ 10 ∧ t = .int .i64 (k : Int) ∧ Leads l k) (fun t => 10 - (intOf t).toNat)
    case atStart => exact ⟨0, Nat.zero_le _, by omega, rfl, Leads.zero l⟩
    case round =>
      obtain ⟨k, hk, hk10, rfl, hld⟩ := hrel
      have HLd := Lib.hid hld
      clear hld
      by_cases hkn : k < l.length
      · obtain ⟨b, off, hDb, hbw, rfl, hc⟩ := HB.out.cells (by omega)
        by_cases h10 : k < 10
        · have hcell := hc k hkn
          have hx := l[k].toNat_lt
          obtain ⟨X, hX⟩ : ∃ X, X = l[k].toNat := ⟨_, rfl⟩
          rw [← hX] at hcell hx
          by_cases h128 : 128 ≤ X
          · have HN := Lib.hid (HLd.out.succ hkn (by rw [← hX]; exact h128))
            clear hX hc
            go_wp2
            go_round
            case rel => exact ⟨k + 1, by omega, by omega, by go_num, HN.out⟩
            case measure => simp [intOf]; omega
          · have n10 : ((k : Int) == 10) = false := by rw [beq_eq_false_iff_ne]; omega
            have nl : ((k : Int) == (l.length : Int)) = false := by rw [beq_eq_false_iff_ne]; omega
            by_cases hb : (k = 9 ∧ 1 < X) ∨ (X = 0 ∧ 0 < k)
            · have HRv : Hid (R = (0, ⟨l, 7⟩)) := Lib.hid (by rw [HR.out]; exact rUint_of _ _ _ _ (rd_bad l k HLd.out hkn (by omega) (by omega) (by rw [← hX]; exact hb)))
              clear hX hc
              by_cases h9 : k = 9 ∧ 1 < X
              · obtain ⟨h9k, h9x⟩ := h9
                have k9 : ((k : Int) == 9) = true := by rw [beq_iff_eq]; omega
                have H9 := Lib.hid h9k
                clear h9k hb
                go_wp2_with (first
                  | (refine wpList_store_row rfl 48 (.tmp 2) (.tmp 64) rfl (w.heap.size + 1) _ rfl rfl 48 _ G1.out (rdsz2 _ _) rfl (rdone _ _ _ _ _) ?_)
                  | (go_at_call 60; refine (refFail_any _ _ _ 0 7 _).mono ?_; rintro e w1 ⟨rfl, h1⟩; have G1 := Lib.hid (rd_res h1); have B1 := Lib.hid (rd_bel h1); clear h1; unfold rdv))
                refine bodyPost_ret (v := .tuple #[.agg #[.slice (some ⟨b, off, none⟩) l.length c, .int .i64 ((7 : Nat) : Int)], .int .u64 0]) (results_row_tmp rfl _ _ (w.heap.size + 1) 48 #[.slice (some ⟨b, off, none⟩) l.length c, .int .i64 ((7 : Nat) : Int)] (0, 0) _ rfl (setRow_heap _ _ _ _ _ _ G1.out) Try.underlying48 rfl rdsz _ rfl) rfl ?_
                show RdsV D w R.2 (.int .u64 (R.1 : Int)) _ _
                rw [HRv.out]
                exact ⟨_, c, rfl, fail_rds (w2 := w) 0 HB.out (Below_row B1.out (by omega) _), Below_row B1.out (by omega) _⟩
              · obtain ⟨hx0, hk0⟩ : X = 0 ∧ 0 < k := by omega
                have x0 : ((X : Int) == 0) = true := by rw [beq_iff_eq]; omega
                have x1 : X ≤ 1 := by omega
                have HX0 := Lib.hid hx0
                by_cases h9k : k = 9
                · have k9 : ((k : Int) == 9) = true := by rw [beq_iff_eq]; omega
                  have H9 := Lib.hid h9k
                  clear h9k hx0 hb h9
                  go_wp2_with (first
                    | (refine wpList_store_row rfl 48 (.tmp 2) (.tmp 64) rfl (w.heap.size + 1) _ rfl rfl 48 _ G1.out (rdsz2 _ _) rfl (rdone _ _ _ _ _) ?_)
                    | (go_at_call 60; refine (refFail_any _ _ _ 0 7 _).mono ?_; rintro e w1 ⟨rfl, h1⟩; have G1 := Lib.hid (rd_res h1); have B1 := Lib.hid (rd_bel h1); clear h1; unfold rdv))
                  refine bodyPost_ret (v := .tuple #[.agg #[.slice (some ⟨b, off, none⟩) l.length c, .int .i64 ((7 : Nat) : Int)], .int .u64 0]) (results_row_tmp rfl _ _ (w.heap.size + 1) 48 #[.slice (some ⟨b, off, none⟩) l.length c, .int .i64 ((7 : Nat) : Int)] (0, 0) _ rfl (setRow_heap _ _ _ _ _ _ G1.out) Try.underlying48 rfl rdsz _ rfl) rfl ?_
                  show RdsV D w R.2 (.int .u64 (R.1 : Int)) _ _
                  rw [HRv.out]
                  exact ⟨_, c, rfl, fail_rds (w2 := w) 0 HB.out (Below_row B1.out (by omega) _), Below_row B1.out (by omega) _⟩
                · have k9 : ((k : Int) == 9) = false := by rw [beq_eq_false_iff_ne]; omega
                  clear h9k hx0 hb h9
                  go_wp2_with (first
                    | (refine wpList_store_row rfl 48 (.tmp 2) (.tmp 64) rfl (w.heap.size + 1) _ rfl rfl 48 _ G1.out (rdsz2 _ _) rfl (rdone _ _ _ _ _) ?_)
                    | (go_at_call 60; refine (refFail_any _ _ _ 0 7 _).mono ?_; rintro e w1 ⟨rfl, h1⟩; have G1 := Lib.hid (rd_res h1); have B1 := Lib.hid (rd_bel h1); clear h1; unfold rdv))
                  refine bodyPost_ret (v := .tuple #[.agg #[.slice (some ⟨b, off, none⟩) l.length c, .int .i64 ((7 : Nat) : Int)], .int .u64 0]) (results_row_tmp rfl _ _ (w.heap.size + 1) 48 #[.slice (some ⟨b, off, none⟩) l.length c, .int .i64 ((7 : Nat) : Int)] (0, 0) _ rfl (setRow_heap _ _ _ _ _ _ G1.out) Try.underlying48 rfl rdsz _ rfl) rfl ?_
                  show RdsV D w R.2 (.int .u64 (R.1 : Int)) _ _
                  rw [HRv.out]
                  exact ⟨_, c, rfl, fail_rds (w2 := w) 0 HB.out (Below_row B1.out (by omega) _), Below_row B1.out (by omega) _⟩
            · have hok := rd_ok l k HLd.out hkn (by omega) (by omega) (by rw [← hX]; omega) (by rw [← hX]; omega)
              have HRv : Hid (R = (gval (l.take (k + 1)), ⟨l.drop (k + 1), 0⟩)) := Lib.hid (by rw [HR.out]; exact rUint_of _ _ _ _ hok)
              have Hlt := rd_lt l k hok
              have Hfr := Lib.hid (HB.out.from (k + 1) hkn)
              obtain ⟨t, ht⟩ : ∃ t, t = l.take (k + 1) := ⟨_, rfl⟩
              have Htl : Hid (t.length = k + 1) := Lib.hid (by rw [ht, List.length_take]; omega)
              have Hget : Hid (∀ (j : Nat) (hj : j < t.length), w.cell? ⟨b, off + j, none⟩ = some (.int .u8 (t[j].toNat : Int))) := Lib.hid (fun j hj => by
                have e : t[j] = l[j]'(by rw [ht, List.length_take] at hj; omega) := by simp only [ht, List.getElem_take]
                rw [e]; exact hc j _)
              rw [← ht] at Hlt
              have HT := Lib.hid ht
              have HX := Lib.hid hX
              have Hlt2 := Lib.hid Hlt
              clear hc ht hX hok Hlt
              have tail : ∀ (G : Nat), G = gval t → True := fun _ _ => trivial
              by_cases hg : (k = 9 → X ≤ 1) ∧ (0 < k → X ≠ 0)
              · obtain ⟨hg1, hg2⟩ := hg
                have Hg1 := Lib.hid hg1
                have Hg2 := Lib.hid hg2
                clear hg1 hg2 hb
                have hk9 : k ≤ 9 := by omega
                clear n10 tail
                have three : (9 ≤ k ∧ X ≤ 1 ∧ ((k : Int) == 9) = true ∧ ((X : Int) == 0) = false) ∨ (((k : Int) == 9) = false ∧ 0 < k ∧ ((X : Int) == 0) = false) ∨ (((k : Int) == 9) = false ∧ k ≤ 0) := by
                  have h1 := Hg1.out
                  have h2 := Hg2.out
                  by_cases h9 : k = 9
                  · exact .inl ⟨by omega, h1 h9, by rw [beq_iff_eq]; omega, by rw [beq_eq_false_iff_ne]; have := h2 (by omega); omega⟩
                  · by_cases h0 : 0 < k
                    · exact .inr (.inl ⟨by rw [beq_eq_false_iff_ne]; omega, h0, by rw [beq_eq_false_iff_ne]; have := h2 h0; omega⟩)
                    · exact .inr (.inr ⟨by rw [beq_eq_false_iff_ne]; omega, by omega⟩)
                have N10 : ((k : Int) == 10) = false := by rw [beq_eq_false_iff_ne]; omega
                rcases three with ⟨t1, t2, t3, t4⟩ | ⟨t3, t1, t4⟩ | ⟨t3, t1⟩
                all_goals
                  go_wp2
                  go_loop [5, 6] (fun o i => ∃ m : Nat, m ≤ k + 1 ∧ i = .int .i64 ((m : Int) - 1) ∧ o = .int .u64 (gval (t.drop m) : Int)) (fun _ i => (intOf i + 1).toNat)
                  case atStart => exact ⟨k + 1, Nat.le_refl _, by go_num, by rw [List.drop_of_length_le (by have := Htl.out; omega)]; rfl⟩
                  case round =>
                    obtain ⟨m, hm, rfl, rfl⟩ := hrel
                    by_cases hm0 : m = 0
                    · subst hm0
                      rw [show (((0 : Nat) : Int) - 1) = -1 by rfl, List.drop_zero]
                      by_cases hcn : c = k + 1
                      · have hb2 := Hfr.out
                        rw [if_pos hcn] at hb2
                        have HB3 := Lib.hid hb2
                        have Hcn := Lib.hid hcn
                        clear hb2 Hfr hcn
                        have hcn2 : (c : Int) = (k : Int) + 1 := by have := Hcn.out; omega
                        go_wp2
                        refine bodyPost_ret (v := .tuple #[.agg #[.slice (some ⟨b, off, none⟩) (l.length - (k + 1)) (c - (k + 1)), .int .i64 0], .int .u64 (gval t : Int)]) (by simp [results, Try.results47, go_sem]) rfl ?_
                        show RdsV D w R.2 (.int .u64 (R.1 : Int)) _ _
                        rw [HRv.out, ← HT.out]
                        exact ⟨_, _, by simp only [rdv, List.length_drop]; rfl, by simp only [List.length_drop]; exact fail_rds (w2 := w) 0 (by simpa only [List.length_drop] using HB3.out) (HB2.out _ _), HB2.out _ _⟩
                      · have hb2 := Hfr.out
                        rw [if_neg hcn, Option.map_some, Addr.add_mid] at hb2
                        have HB3 := Lib.hid hb2
                        clear hb2 Hfr
                        go_wp2
                        refine bodyPost_ret (v := .tuple #[.agg #[.slice (some ⟨b, off + (k + 1), none⟩) (l.length - (k + 1)) (c - (k + 1)), .int .i64 0], .int .u64 (gval t : Int)]) (by simp [results, Try.results47, go_sem]) rfl ?_
                        show RdsV D w R.2 (.int .u64 (R.1 : Int)) _ _
                        rw [HRv.out, ← HT.out]
                        exact ⟨_, _, by simp only [rdv, List.length_drop]; rfl, by simp only [List.length_drop]; exact fail_rds (w2 := w) 0 (by simpa only [List.length_drop] using HB3.out) (HB2.out _ _), HB2.out _ _⟩
                    · obtain ⟨j, rfl⟩ : ∃ j, m = j + 1 := ⟨m - 1, by omega⟩
                      have hjt : j < t.length := by have := Htl.out; omega
                      have hcj := Hget.out j hjt
                      have hgd := gval_drop t j hjt
                      have hgl := gval_drop_le t j
                      have hxj := t[j].toNat_lt
                      have hlt := Hlt2.out
                      rw [show (((j + 1 : Nat) : Int) - 1) = (j : Int) by omega]
                      generalize gval (t.drop (j + 1)) = G at *
                      generalize t[j].toNat = Y at *
                      have Hgd := Lib.hid hgd
                      have hG : 128 * G + Y % 128 < 18446744073709551616 := by rw [hgd] at hgl; omega
                      clear hgd hgl hlt
                      go_wp2
                      go_round
                      case rel => exact ⟨j, by omega, by go_num, by rw [Hgd.out]; go_num⟩
                      case measure => first | (simp [intOf]; done) | (simp [intOf]; omega)
              · exfalso; omega
        · have n10 : ((k : Int) == 10) = true := by rw [beq_iff_eq]; omega
          have HRv : Hid (R = (0, ⟨l, 7⟩)) := Lib.hid (by rw [HR.out]; exact rUint_of _ _ _ _ (rd_long l (by rw [show (10 : Nat) = k by omega]; exact HLd.out)))
          clear hc
          go_wp2_with (first
            | (refine wpList_store_row rfl 48 (.tmp 2) (.tmp 33) rfl (w.heap.size + 1) _ rfl rfl 48 _ G1.out (rdsz2 _ _) rfl (rdone _ _ _ _ _) ?_)
            | (go_at_call 60; refine (refFail_any _ _ _ 0 7 _).mono ?_; rintro e w1 ⟨rfl, h1⟩; have G1 := Lib.hid (rd_res h1); have B1 := Lib.hid (rd_bel h1); clear h1; unfold rdv))
          refine bodyPost_ret (v := .tuple #[.agg #[.slice (some ⟨b, off, none⟩) l.length c, .int .i64 ((7 : Nat) : Int)], .int .u64 0]) (results_row_tmp rfl _ _ (w.heap.size + 1) 48 #[.slice (some ⟨b, off, none⟩) l.length c, .int .i64 ((7 : Nat) : Int)] (0, 0) _ rfl (setRow_heap _ _ _ _ _ _ G1.out) Try.underlying48 rfl rdsz _ rfl) rfl ?_
          show RdsV D w R.2 (.int .u64 (R.1 : Int)) _ _
          rw [HRv.out]
          exact ⟨_, c, rfl, fail_rds (w2 := w) 0 HB.out (Below_row B1.out (by omega) _), Below_row B1.out (by omega) _⟩
      · have nl : ((k : Int) == (l.length : Int)) = true := by rw [beq_iff_eq]; omega
        by_cases h10 : k < 10
        · have n10 : ((k : Int) == 10) = false := by rw [beq_eq_false_iff_ne]; omega
          have HRv : Hid (R = (0, ⟨l, 6⟩)) := Lib.hid (by rw [HR.out]; exact rUint_of _ _ _ _ (rd_short l (by rw [show l.length = k by omega]; exact HLd.out) (by omega)))
          go_wp2_with (first
            | (refine wpList_store_row rfl 48 (.tmp 2) (.tmp 40) rfl (w.heap.size + 1) _ rfl rfl 48 _ G1.out (rdsz2 _ _) rfl (rdone _ _ _ _ _) ?_)
            | (go_at_call 60; refine (refFail_any _ _ _ 0 6 _).mono ?_; rintro e w1 ⟨rfl, h1⟩; have G1 := Lib.hid (rd_res h1); have B1 := Lib.hid (rd_bel h1); clear h1; unfold rdv))
          refine bodyPost_ret (v := .tuple #[.agg #[.slice a l.length c, .int .i64 ((6 : Nat) : Int)], .int .u64 0]) (results_row_tmp rfl _ _ (w.heap.size + 1) 48 #[.slice a l.length c, .int .i64 ((6 : Nat) : Int)] (0, 0) _ rfl (setRow_heap _ _ _ _ _ _ G1.out) Try.underlying48 rfl rdsz _ rfl) rfl ?_
          show RdsV D w R.2 (.int .u64 (R.1 : Int)) _ _
          rw [HRv.out]
          exact ⟨_, c, rfl, fail_rds (w2 := w) 0 HB.out (Below_row B1.out (by omega) _), Below_row B1.out (by omega) _⟩
        · have n10 : ((k : Int) == 10) = true := by rw [beq_iff_eq]; omega
          have HRv : Hid (R = (0, ⟨l, 7⟩)) := Lib.hid (by rw [HR.out]; exact rUint_of _ _ _ _ (rd_long l (by rw [show (10 : Nat) = k by omega]; exact HLd.out)))
          go_wp2_with (first
            | (refine wpList_store_row rfl 48 (.tmp 2) (.tmp 33) rfl (w.heap.size + 1) _ rfl rfl 48 _ G1.out (rdsz2 _ _) rfl (rdone _ _ _ _ _) ?_)
            | (go_at_call 60; refine (refFail_any _ _ _ 0 7 _).mono ?_; rintro e w1 ⟨rfl, h1⟩; have G1 := Lib.hid (rd_res h1); have B1 := Lib.hid (rd_bel h1); clear h1; unfold rdv))
          refine bodyPost_ret (v := .tuple #[.agg #[.slice a l.length c, .int .i64 ((7 : Nat) : Int)], .int .u64 0]) (results_row_tmp rfl _ _ (w.heap.size + 1) 48 #[.slice a l.length c, .int .i64 ((7 : Nat) : Int)] (0, 0) _ rfl (setRow_heap _ _ _ _ _ _ G1.out) Try.underlying48 rfl rdsz _ rfl) rfl ?_
          show RdsV D w R.2 (.int .u64 (R.1 : Int)) _ _
          rw [HRv.out]
          exact ⟨_, c, rfl, fail_rds (w2 := w) 0 HB.out (Below_row B1.out (by omega) _), Below_row B1.out (by omega) _⟩
  · have he2 : ((e : Int) == 0) = false := by rw [beq_eq_false_iff_ne]; omega
    have he3 : ((e : Int) != 0) = true := by rw [bne_iff_ne]; omega
    rw [rUint_err ⟨l, e⟩ he]
    unfold rdv
    go_enter Try.func47, Try.ntmps47
    go_wp2
    exact bodyPost_ret (v := .tuple #[.agg #[.slice a l.length c, .int .i64 (e : Int)], .int .u64 0]) (by simp [results, Try.results47, go_sem]) rfl ⟨a, c, rfl, fail_rds (w2 := w) 0 HB.out (HB2.out _ _), HB2.out _ _⟩
end Go.Proofs.Ytdnbkiaolimfjaa

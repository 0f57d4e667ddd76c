/-
  The reference's ReadInt and ReadBool.
-/
import Derived.Test.YtdnbkiaolimfjaaN3
import Derived.Test.YtdnbkiaolimfjaaR1
import Derived.StillTailTactics
import Derived.Deep.Cut
import Derived.Deep.RegionWith
import Derived.Deep.DrawnRows
namespace Go.Proofs.Ytdnbkiaolimfjaa
open Go.RowKit
set_option linter.unusedSimpArgs false
set_option linter.unusedVariables false
theorem box0 {w w1 : World} {o o' : Obj} (h : Below ((w.alloc o).alloc o').heap.size ((w.alloc o).alloc o') w1) : w1.heap[w.heap.size]? = some o :=
  (h.block _ (by rw [size_alloc1, size_alloc1]; omega)).trans (heap_old (heap_new rfl))
theorem box1 {w w1 : World} {o o' : Obj} (h : Below ((w.alloc o).alloc o').heap.size ((w.alloc o).alloc o') w1) : w1.heap[w.heap.size + 1]? = some o' :=
  (h.block _ (by rw [size_alloc1, size_alloc1]; omega)).trans (heap_new (by rw [size_alloc1]))
/-- a reader by value lies in a block -/
def RdB (w : World) (g : Nat) (a : Option Addr) (n c e : Nat) : Prop := w.heap[g]? = some (.cells #[.slice a n c, .int .i64 (e : Int)] 48 (0, 0))
theorem RdB.facts {w : World} {g : Nat} {a : Option Addr} {n c e : Nat} (h : RdB w g a n c e) : w.cell? ⟨g, 0, none⟩ = some (.slice a n c) ∧ w.cell? ⟨g, 1, none⟩ = some (.int .i64 (e : Int)) ∧ w.frozen? ⟨g, 0, none⟩ = false ∧ w.frozen? ⟨g, 1, none⟩ = false :=
  ⟨by rw [cell_of_row w g 0 _ _ _ h]; rfl, by rw [cell_of_row w g 1 _ _ _ h]; rfl, frozen_of_row w g 0 _ _ h, frozen_of_row w g 1 _ _ h⟩
theorem RdB.set {w : World} {g : Nat} {t : TypeId} {cs : Array Value} (h : w.heap[g]? = some (.cells cs 48 (0, 0))) (a : Option Addr) (n c e : Nat) : RdB (w.setRow g #[.slice a n c, .int .i64 (e : Int)]) g a n c e := setRow_heap _ _ _ _ _ _ h
theorem Bs.inner {D : Nat → Prop} {w : World} {a : Option Addr} {n c : Nat} {l : List UInt8} (h : Bs D w a n c l) : Bs (fun b => D b ∧ b < w.heap.size) w a n c l := by
  obtain ⟨h0, h1, h2, h3, h4, h5⟩ := h
  refine ⟨h0, h1, h2, h3, h4, fun hn => ?_⟩
  obtain ⟨b, off, hD, ha, hr⟩ := h5 hn
  exact ⟨b, off, ⟨hD, range_lt hr (by rw [h1]; omega)⟩, ha, hr⟩
theorem Bs.later {D : Nat → Prop} {B : Nat} {w w' : World} {a : Option Addr} {n c : Nat} {l : List UInt8} (h : Bs (fun b => D b ∧ b < B) w a n c l) (hk : Kept (fun j => B ≤ j) w w') : Bs D w' a n c l :=
  (h.kept hk (fun b _ hd hs => by have := hd.2; omega)).dom (fun b hb => hb.1)
theorem RdB.sets {w : World} {g : Nat} {a : Option Addr} {n c e : Nat} (h : RdB w g a n c e) (x y : Value) : ((w.setCell ⟨g, 0, none⟩ x).setCell ⟨g, 1, none⟩ y).heap[g]? = some (.cells #[x, y] 48 (0, 0)) := by
  have h1 := heap_setCell_same w g 0 _ _ x h
  rw [heap_setCell_same _ g 1 _ _ y h1]
  rfl
theorem RdB.setsd {w : World} {g : Nat} {a : Option Addr} {n c e : Nat} (h : RdB w g a n c e) (x y : Value) : ((w.setCell ⟨g, 0, none⟩ x).setCell ⟨g, 1, none⟩ y).drew.heap[g]? = some (.cells #[x, y] 48 (0, 0)) := h.sets x y
theorem kept_sets {B : Nat} {w w' : World} (h : Kept (fun j => B ≤ j) w w') {g : Nat} (hg : B ≤ g) (x y : Value) : Kept (fun j => B ≤ j) w ((w'.setCell ⟨g, 0, none⟩ x).setCell ⟨g, 1, none⟩ y) :=
  (h.setCell (p := ⟨g, 0, none⟩) (fun _ => hg) x).setCell (p := ⟨g, 1, none⟩) (fun _ => hg) y
theorem below_kept {B : Nat} {w w1 w' : World} (h : Below B w w1) (hB : B ≤ w.heap.size) (hk : Kept (fun j => B ≤ j) w1 w') : Below B w w' := h.trans (hk.below (Nat.le_trans hB h.size) (fun j hj hs => by omega))
set_option maxRecDepth 100000 in
set_option maxHeartbeats 1000000 in
theorem refReadInt_any (D : Nat → Prop) (a : Option Addr) (c : Nat) (l : List UInt8) (e : Nat) (w : World) (hB : Bs D w a l.length c l) (hl : l.length ≤ 100000000000000) :
    Calls Try.prog 48 #[rdv a l.length c e] w fun x w' => RdsV D w (rInt ⟨l, e⟩).2 (.int .i64 (rInt ⟨l, e⟩).1) x w' := by
  have hC := refReadUint_any (fun b => D b ∧ b < w.heap.size) a c l e _ (fail_rds (w2 := w) 0 hB.inner (below_two w (.cells #[.slice a l.length c, .int .i64 (e : Int)] 48) (.cells #[.slice none 0 0, .int .i64 0] 48))) hl
  have hv := rUint_val ⟨l, e⟩
  unfold rInt
  generalize rUint ⟨l, e⟩ = R at *
  obtain ⟨V, S⟩ := R
  simp only at hC hv ⊢
  unfold rdv at hC ⊢
  have HC := Lib.hid hC
  clear hC hB
  go_enter Try.func48, Try.ntmps48
  go_upto_region 2 with (first
    | (refine wpList_store_row rfl 48 (.tmp 1) (.tmp 8) rfl w.heap.size _ rfl rfl 48 _ G0.out (rdsz2 _ _) rfl (rdone _ _ _ _ _) ?_)
    | (go_at_call 47; refine HC.out.mono ?_; rintro x w1 ⟨a1, c1, rfl, hB1, hb1⟩; have G0 := Lib.hid (box0 hb1); have G1 := Lib.hid (box1 hb1); have B1 := Lib.hid (rd_bel hb1); have S1 := Lib.hid hB1; clear hB1 hb1; unfold rdv))
  obtain ⟨w2, hw2⟩ : ∃ w2, w2 = w1.setRow w.heap.size #[.slice a1 S.l.length c1, .int .i64 (S.e : Int)] := ⟨_, rfl⟩
  rw [← hw2]
  have hR : RdB w2 w.heap.size a1 S.l.length c1 S.e := by rw [hw2]; exact setRow_heap _ _ _ _ _ _ G0.out
  have hR1 : RdB w2 (w.heap.size + 1) none 0 0 0 := by rw [hw2]; exact (setRow_other _ _ _ _ (by omega)).trans G1.out
  have hK : Kept (fun j => w.heap.size ≤ j) w1 w2 := by rw [hw2]; exact (Kept.refl _ _).setRow (fun _ => Nat.le_refl _) _
  obtain ⟨x0, x1, x2, x3⟩ := hR.facts
  obtain ⟨y0, y1, y2, y3⟩ := hR1.facts
  have HR1 := Lib.hid hR1
  have HK := Lib.hid hK
  clear hR hR1 hK hw2
  go_still_tail 3, (by kernel_rfl)
  still_call ((refZag_any V _ _ hv rfl).mono (fun e w' h => ⟨h.1, h.2.symm⟩))
  repeat still_step
  refine wpStill_nil ?_
  go_wp2
  have K2 := (kept_sets HK.out (Nat.le_succ w.heap.size) (.slice a1 S.l.length c1) (.int .i64 (S.e : Int))).drew
  exact bodyPost_ret (v := .tuple #[.agg #[.slice a1 S.l.length c1, .int .i64 (S.e : Int)], .int .i64 (zag V)]) (results_row_tmp rfl _ (World.drew _) (w.heap.size + 1) 48 #[.slice a1 S.l.length c1, .int .i64 (S.e : Int)] (0, 0) _ rfl (HR1.out.setsd _ _) Try.underlying48 rfl rdsz (.int .i64 (zag V)) rfl) rfl ⟨a1, c1, rfl, S1.out.later K2, below_kept B1.out (Nat.le_refl _) K2⟩
theorem elem_bs : Try.prog.elem 23 = 5 := by kernel_rfl
theorem size_bs (w : World) : (Go.sizeOf 5).run Try.prog w = .ok 1 w := by kernel_rfl
theorem run_bfrom (a : Option Addr) (n c k : Nat) (kl : IntKind) (hk : k ≤ n) (p : World) :
    (Instr.sliceAt 23 (.slice a n c) (some (.int kl (k : Int))) none none).run Try.prog p = .ok (.slice (if c = k then a else a.map (fun x => x.add k)) (n - k) (c - k)) p := by
  by_cases h : c = k
  · subst h
    rw [if_pos rfl]
    go_simp
  · rw [if_neg h]
    have h2 : ((c : Int) == (k : Int)) = false := by rw [beq_eq_false_iff_ne]; omega
    go_simp
theorem run_bto (a : Option Addr) (n c k : Nat) (kh : IntKind) (hk : k ≤ c) (p : World) :
    (Instr.sliceAt 23 (.slice a n c) none (some (.int kh (k : Int))) none).run Try.prog p = .ok (.slice a k c) p := by
  have e : (if c = 0 then a else a.map fun x => x.add 0) = a := by
    split
    · rfl
    · cases a with
      | none => rfl
      | some x => simp only [Option.map_some, Addr.add, Nat.add_zero]; cases x; split <;> simp_all
  go_simp
theorem Kept.rdb {w w' : World} {S : Nat → Prop} {g : Nat} {a : Option Addr} {n c e : Nat} (h : RdB w g a n c e) (hk : Kept S w w') (hs : ¬ S g) : RdB w' g a n c e := hk.heap h hs
/-- what the reference reads -/
def refBool (s : RS) : Bool × RS := if s.e = 0 then (match s.l with | [] => (false, ⟨[], 6⟩) | b :: r => if 1 < b.toNat then (false, ⟨b :: r, 7⟩) else (b.toNat == 1, ⟨r, 0⟩)) else (false, s)
def Drb7 : List (Option Tmp) := [some 21, some 22, some 23, some 24, some 25, some 26, some 27, some 28, some 29, none, some 3]
def Lrb7 : List (List Nat) := [[], [0], [1], [2], [], [4], [5], [6], [7], [3], [8]]
set_option maxRecDepth 100000 in
set_option maxHeartbeats 1000000 in
theorem refReadBool_any (D : Nat → Prop) (a : Option Addr) (c : Nat) (l : List UInt8) (e : Nat) (w : World) (hB : Bs D w a l.length c l) (hl : l.length ≤ 100000000000000) :
    Calls Try.prog 49 #[rdv a l.length c e] w fun x w' => RdsV D w (refBool ⟨l, e⟩).2 (.bool (refBool ⟨l, e⟩).1) x w' := by
  have nc1 : l.length ≤ c := hB.2.2.1
  have nc2 : c ≤ 9223372036854775807 := hB.2.2.2.1
  have HB := Lib.hid hB
  have HB2 := Lib.hid (below_two w)
  clear hB
  obtain ⟨R, hR⟩ : ∃ R, R = refBool ⟨l, e⟩ := ⟨_, rfl⟩
  rw [← hR]
  have HR := Lib.hid hR
  clear hR
  by_cases he : e = 0
  · subst he
    unfold rdv
    cases l with
    | nil =>
      have HRv : Hid (R = (false, ⟨[], 6⟩)) := Lib.hid (by rw [HR.out]; rfl)
      simp only [List.length_nil] at *
      go_enter Try.func49, Try.ntmps49
      go_wp2_with (first
        | (refine wpList_store_row rfl 48 (.tmp 2) (.tmp 13) rfl (w.heap.size + 1) _ rfl rfl 48 _ G1.out (rdsz2 _ _) rfl (rdone _ _ _ _ _) ?_)
        | (go_at_call 60; refine (refFail_any _ _ _ 0 6 _).mono ?_; rintro e w1 ⟨rfl, h1⟩; have G1 := Lib.hid (rd_res h1); have B1 := Lib.hid (rd_bel h1); clear h1; unfold rdv))
      refine bodyPost_ret (v := .tuple #[.agg #[.slice a 0 c, .int .i64 ((6 : Nat) : Int)], .bool false]) (results_row_tmp rfl _ _ (w.heap.size + 1) 48 #[.slice a 0 c, .int .i64 ((6 : Nat) : Int)] (0, 0) _ rfl (setRow_heap _ _ _ _ _ _ G1.out) Try.underlying48 rfl rdsz _ rfl) rfl ?_
      show RdsV D w R.2 (.bool R.1) _ _
      rw [HRv.out]
      exact ⟨_, c, rfl, fail_rds (w2 := w) 0 HB.out (Below_row B1.out (by omega) _), Below_row B1.out (by omega) _⟩
    | cons x r =>
      obtain ⟨b, off, hDb, hbw, rfl, hc⟩ := HB.out.cells (by simp)
      have hcell := hc 0 (by simp)
      have hx := x.toNat_lt
      simp only [List.getElem_cons_zero, Nat.add_zero] at hcell
      obtain ⟨l, hl'⟩ : ∃ l, l = x :: r := ⟨_, rfl⟩
      have hlp : 1 ≤ l.length := by rw [hl']; simp
      have HRx : Hid (R = if 1 < x.toNat then (false, ⟨x :: r, 7⟩) else (x.toNat == 1, ⟨r, 0⟩)) := Lib.hid (by rw [HR.out]; rfl)
      have hdrop : r = l.drop 1 := by rw [hl']; rfl
      have Hfr := HB.out.from 1 (by simp)
      have HBl := HB.out
      rw [← hl'] at hc HB HR Hfr HBl hl nc1 ⊢
      clear hc
      have HL := Lib.hid hl'
      have Hdr := Lib.hid hdrop
      clear hl' hdrop
      obtain ⟨X, hX⟩ : ∃ X, X = x.toNat := ⟨_, rfl⟩
      rw [← hX] at hcell hx HRx
      have HX := Lib.hid hX
      clear hX
      have ln : ((l.length : Int) == 0) = false := by rw [beq_eq_false_iff_ne]; omega
      by_cases h1 : 1 < X
      · have HRv : Hid (R = (false, ⟨l, 7⟩)) := Lib.hid (by rw [HRx.out, if_pos h1, HL.out])
        go_enter Try.func49, Try.ntmps49
        go_wp2_with (first
          | (refine wpList_store_row rfl 48 (.tmp 2) (.tmp 20) rfl (w.heap.size + 1) _ rfl rfl 48 _ G1.out (rdsz2 _ _) rfl (rdone _ _ _ _ _) ?_)
          | (go_at_call 60; refine (refFail_any _ _ _ 0 7 _).mono ?_; rintro e w1 ⟨rfl, h1⟩; have G1 := Lib.hid (rd_res h1); have B1 := Lib.hid (rd_bel h1); clear h1; unfold rdv))
        refine bodyPost_ret (v := .tuple #[.agg #[.slice (some ⟨b, off, none⟩) l.length c, .int .i64 ((7 : Nat) : Int)], .bool false]) (results_row_tmp rfl _ _ (w.heap.size + 1) 48 #[.slice (some ⟨b, off, none⟩) l.length c, .int .i64 ((7 : Nat) : Int)] (0, 0) _ rfl (setRow_heap _ _ _ _ _ _ G1.out) Try.underlying48 rfl rdsz _ rfl) rfl ?_
        show RdsV D w R.2 (.bool R.1) _ _
        rw [HRv.out]
        exact ⟨_, c, rfl, fail_rds (w2 := w) 0 HB.out (Below_row B1.out (by omega) _), Below_row B1.out (by omega) _⟩
      · have HRv : Hid (R = (X == 1, ⟨l.drop 1, 0⟩)) := Lib.hid (by rw [HRx.out, if_neg h1, Hdr.out])
        have hbo : ((X : Int) == 1) = (X == 1) := by rw [Bool.eq_iff_iff, beq_iff_eq, beq_iff_eq]; omega
        have Hbo := Lib.hid hbo
        clear hbo
        have hsl := run_bfrom (some ⟨b, off, none⟩) l.length c 1 .i64 hlp
        obtain ⟨aN, hA⟩ : ∃ aN, aN = (if c = 1 then (some ⟨b, off, none⟩ : Option Addr) else (some ⟨b, off, none⟩ : Option Addr).map (fun x => x.add 1)) := ⟨_, rfl⟩
        rw [← hA] at hsl Hfr
        have Hsl := Lib.hid hsl
        have HfrH := Lib.hid Hfr
        clear hsl hA Hfr HBl
        go_enter Try.func49, Try.ntmps49
        go_upto_region 7 with fail
        -- region 7
        have hq0 : RdB ((w.alloc (.cells #[.slice (some ⟨b, off, none⟩) l.length c, .int .i64 0] 48)).alloc (.cells #[.slice none 0 0, .int .i64 0] 48)) w.heap.size (some ⟨b, off, none⟩) l.length c 0 := heap_old (heap_new rfl)
        have hq1 : RdB ((w.alloc (.cells #[.slice (some ⟨b, off, none⟩) l.length c, .int .i64 0] 48)).alloc (.cells #[.slice none 0 0, .int .i64 0] 48)) (w.heap.size + 1) none 0 0 0 := heap_new (by rw [size_alloc1])
        have hqb := below_two w (.cells #[.slice (some ⟨b, off, none⟩) l.length c, .int .i64 0] 48) (.cells #[.slice none 0 0, .int .i64 0] 48)
        have hqX := (hqb.cell (p := ⟨b, off, none⟩) hbw).trans hcell
        have hqs : b < ((w.alloc (.cells #[.slice (some ⟨b, off, none⟩) l.length c, .int .i64 0] 48)).alloc (.cells #[.slice none 0 0, .int .i64 0] 48)).heap.size := by rw [size_alloc1, size_alloc1]; omega
        have hqf : Bs (fun b => D b ∧ b < w.heap.size) ((w.alloc (.cells #[.slice (some ⟨b, off, none⟩) l.length c, .int .i64 0] 48)).alloc (.cells #[.slice none 0 0, .int .i64 0] 48)) aN (l.length - 1) (c - 1) (l.drop 1) := fail_rds (w2 := w) 0 HfrH.out.inner hqb
        generalize (w.alloc (.cells #[.slice (some ⟨b, off, none⟩) l.length c, .int .i64 0] 48)).alloc (.cells #[.slice none 0 0, .int .i64 0] 48) = q at *
        have HQ := Lib.hid hq0
        have HQ1 := Lib.hid hq1
        have HqB := Lib.hid hqb
        have HqX := Lib.hid hqX
        have Hqb := Lib.hid hqs
        have Hq0 := Lib.hid (heap_lt hq0)
        clear HfrH
        have HfrH := Lib.hid hqf
        clear hq0 hq1 hqb hqX hqs hqf hcell
        refine Roll.region_f 10 30 Drb7 Lrb7 [(1, .pointer (some ⟨w.heap.size, 0, none⟩)), (2, .pointer (some ⟨w.heap.size + 1, 0, none⟩))] (fun p => Kept (fun j => j = w.heap.size + 1) q p ∧ ∃ x y, p.heap[w.heap.size + 1]? = some (.cells #[x, y] 48 (0, 0))) (fun p p' => Kept (fun j => j = w.heap.size + 1) p p' ∧ (p.heap[w.heap.size + 1]? = some (.cells #[.slice aN (l.length - 1) (c - 1), .int .i64 0] 48 (0, 0)) → p'.heap[w.heap.size + 1]? = some (.cells #[.slice aN (l.length - 1) (c - 1), .int .i64 0] 48 (0, 0)))) [fun vv p => vv = .pointer (some ⟨w.heap.size, 0, none⟩), fun vv p => vv = .slice (some ⟨b, off, none⟩) l.length c, fun vv p => vv = .slice aN (l.length - 1) (c - 1), fun vv p => vv = .agg #[.slice aN (l.length - 1) (c - 1), .int .i64 0], fun vv p => vv = .pointer (some ⟨w.heap.size, 0, none⟩), fun vv p => vv = .slice (some ⟨b, off, none⟩) l.length c, fun vv p => vv = .pointer (some ⟨b, off, none⟩), fun vv p => vv = .int .u8 (X : Int), fun vv p => vv = .bool ((X : Int) == 1), fun vv p => p.heap[w.heap.size + 1]? = some (.cells #[.slice aN (l.length - 1) (c - 1), .int .i64 0] 48 (0, 0))] (by kernel_rfl) (by kernel_rfl) rfl ⟨rfl, rfl, trivial⟩ (⟨(Kept.refl _ _).drew, _, _, HQ1.out⟩) ?_ ?_ ?_
        · exact ⟨fun _ _ _ _ h => h, fun _ _ _ _ h => h, fun _ _ _ _ h => h, fun _ _ _ _ h => h, fun _ _ _ _ h => h, fun _ _ _ _ h => h, fun _ _ _ _ h => h, fun _ _ _ _ h => h, fun _ _ _ _ h => h, fun v p p' hb h => hb.2 h, trivial⟩
        · intro b0 hN hlv
          refine ⟨?_, ?_, ?_, ?_, ?_, ?_, ?_, ?_, ?_, ?_, trivial⟩
          · intro vals p hI hp
            have e1 : (Roll.putD Drb7 vals [] b0).eval (.tmp 1) = .pointer (some ⟨w.heap.size, 0, none⟩) := (Roll.eval_old rfl).trans (hlv.at 0 (1, .pointer (some ⟨w.heap.size, 0, none⟩)) rfl)
            clear hp hlv hN
            unfold Roll.Goes
            simp only [Lrb7, List.getD_cons_zero, List.getD_cons_succ]
            generalize Roll.putD Drb7 vals [] b0 = a1 at *
            refine Roll.goes_val (w' := p) (.pointer (some ⟨w.heap.size, 0, none⟩)) rfl ?_ ⟨hI, ⟨Kept.refl _ _, id⟩, rfl⟩
            (have ec : ∀ x, a1.eval (.const x) = x := fun _ => rfl); (have ef : ∀ x, a1.eval (.func x) = .func (.func x) #[] #[] := fun _ => rfl); generalize a1.eval = ρ at *
            skip
            go_simp <;> (intros; first | (exfalso; omega) | rfl)
          · intro vals p hI hp
            have h0 : (vals 0) = .pointer (some ⟨w.heap.size, 0, none⟩) := hp 0 (by simp [Lrb7])
            have e21 : (Roll.putD Drb7 vals [0] b0).eval (.tmp 21) = .pointer (some ⟨w.heap.size, 0, none⟩) := (Roll.eval_new 0 rfl (by decide) (by decide) (by omega)).trans h0
            clear hp hlv hN
            unfold Roll.Goes
            simp only [Lrb7, List.getD_cons_zero, List.getD_cons_succ]
            generalize Roll.putD Drb7 vals [0] b0 = a1 at *
            have c0 := (hI.1.cell (p := ⟨w.heap.size, 0, none⟩) Hq0.out (by simp)).trans HQ.out.facts.1
            refine Roll.goes_val (w' := p) (.slice (some ⟨b, off, none⟩) l.length c) rfl ?_ ⟨hI, ⟨Kept.refl _ _, id⟩, rfl⟩
            (have ec : ∀ x, a1.eval (.const x) = x := fun _ => rfl); (have ef : ∀ x, a1.eval (.func x) = .func (.func x) #[] #[] := fun _ => rfl); generalize a1.eval = ρ at *
            clear h0
            go_simp <;> (intros; first | (exfalso; omega) | rfl)
          · intro vals p hI hp
            have h1 : (vals 1) = .slice (some ⟨b, off, none⟩) l.length c := hp 1 (by simp [Lrb7])
            have e22 : (Roll.putD Drb7 vals [1] b0).eval (.tmp 22) = .slice (some ⟨b, off, none⟩) l.length c := (Roll.eval_new 1 rfl (by decide) (by decide) (by omega)).trans h1
            clear hp hlv hN
            unfold Roll.Goes
            simp only [Lrb7, List.getD_cons_zero, List.getD_cons_succ]
            generalize Roll.putD Drb7 vals [1] b0 = a1 at *
            exact Roll.goes_slice_from rfl 23 (.tmp 22) (.const (.int .i64 1)) rfl _ _ _ e22 rfl (Hsl.out p) ⟨hI, ⟨Kept.refl _ _, id⟩, rfl⟩
          · intro vals p hI hp
            have h2 : (vals 2) = .slice aN (l.length - 1) (c - 1) := hp 2 (by simp [Lrb7])
            have e23 : (Roll.putD Drb7 vals [2] b0).eval (.tmp 23) = .slice aN (l.length - 1) (c - 1) := (Roll.eval_new 2 rfl (by decide) (by decide) (by omega)).trans h2
            clear hp hlv hN
            unfold Roll.Goes
            simp only [Lrb7, List.getD_cons_zero, List.getD_cons_succ]
            generalize Roll.putD Drb7 vals [2] b0 = a1 at *
            refine Roll.goes_val (w' := p) (.agg #[.slice aN (l.length - 1) (c - 1), .int .i64 0]) rfl ?_ ⟨hI, ⟨Kept.refl _ _, id⟩, rfl⟩
            (have ec : ∀ x, a1.eval (.const x) = x := fun _ => rfl); (have ef : ∀ x, a1.eval (.func x) = .func (.func x) #[] #[] := fun _ => rfl); generalize a1.eval = ρ at *
            clear h2
            go_simp <;> (intros; first | (exfalso; omega) | rfl)
          · intro vals p hI hp
            have e1 : (Roll.putD Drb7 vals [] b0).eval (.tmp 1) = .pointer (some ⟨w.heap.size, 0, none⟩) := (Roll.eval_old rfl).trans (hlv.at 0 (1, .pointer (some ⟨w.heap.size, 0, none⟩)) rfl)
            clear hp hlv hN
            unfold Roll.Goes
            simp only [Lrb7, List.getD_cons_zero, List.getD_cons_succ]
            generalize Roll.putD Drb7 vals [] b0 = a1 at *
            refine Roll.goes_val (w' := p) (.pointer (some ⟨w.heap.size, 0, none⟩)) rfl ?_ ⟨hI, ⟨Kept.refl _ _, id⟩, rfl⟩
            (have ec : ∀ x, a1.eval (.const x) = x := fun _ => rfl); (have ef : ∀ x, a1.eval (.func x) = .func (.func x) #[] #[] := fun _ => rfl); generalize a1.eval = ρ at *
            skip
            go_simp <;> (intros; first | (exfalso; omega) | rfl)
          · intro vals p hI hp
            have h4 : (vals 4) = .pointer (some ⟨w.heap.size, 0, none⟩) := hp 4 (by simp [Lrb7])
            have e25 : (Roll.putD Drb7 vals [4] b0).eval (.tmp 25) = .pointer (some ⟨w.heap.size, 0, none⟩) := (Roll.eval_new 4 rfl (by decide) (by decide) (by omega)).trans h4
            clear hp hlv hN
            unfold Roll.Goes
            simp only [Lrb7, List.getD_cons_zero, List.getD_cons_succ]
            generalize Roll.putD Drb7 vals [4] b0 = a1 at *
            have c0 := (hI.1.cell (p := ⟨w.heap.size, 0, none⟩) Hq0.out (by simp)).trans HQ.out.facts.1
            refine Roll.goes_val (w' := p) (.slice (some ⟨b, off, none⟩) l.length c) rfl ?_ ⟨hI, ⟨Kept.refl _ _, id⟩, rfl⟩
            (have ec : ∀ x, a1.eval (.const x) = x := fun _ => rfl); (have ef : ∀ x, a1.eval (.func x) = .func (.func x) #[] #[] := fun _ => rfl); generalize a1.eval = ρ at *
            clear h4
            go_simp <;> (intros; first | (exfalso; omega) | rfl)
          · intro vals p hI hp
            have h5 : (vals 5) = .slice (some ⟨b, off, none⟩) l.length c := hp 5 (by simp [Lrb7])
            have e26 : (Roll.putD Drb7 vals [5] b0).eval (.tmp 26) = .slice (some ⟨b, off, none⟩) l.length c := (Roll.eval_new 5 rfl (by decide) (by decide) (by omega)).trans h5
            clear hp hlv hN
            unfold Roll.Goes
            simp only [Lrb7, List.getD_cons_zero, List.getD_cons_succ]
            generalize Roll.putD Drb7 vals [5] b0 = a1 at *
            have z1 : ¬ l = [] := by intro e; rw [e] at hlp; simp at hlp
            refine Roll.goes_val (w' := p) (.pointer (some ⟨b, off, none⟩)) rfl ?_ ⟨hI, ⟨Kept.refl _ _, id⟩, rfl⟩
            (have ec : ∀ x, a1.eval (.const x) = x := fun _ => rfl); (have ef : ∀ x, a1.eval (.func x) = .func (.func x) #[] #[] := fun _ => rfl); generalize a1.eval = ρ at *
            clear h5
            go_simp <;> (intros; first | (exfalso; omega) | rfl)
          · intro vals p hI hp
            have h6 : (vals 6) = .pointer (some ⟨b, off, none⟩) := hp 6 (by simp [Lrb7])
            have e27 : (Roll.putD Drb7 vals [6] b0).eval (.tmp 27) = .pointer (some ⟨b, off, none⟩) := (Roll.eval_new 6 rfl (by decide) (by decide) (by omega)).trans h6
            clear hp hlv hN
            unfold Roll.Goes
            simp only [Lrb7, List.getD_cons_zero, List.getD_cons_succ]
            generalize Roll.putD Drb7 vals [6] b0 = a1 at *
            have c0 := (hI.1.cell (p := ⟨b, off, none⟩) Hqb.out (by have := hbw; simp only; omega)).trans HqX.out
            refine Roll.goes_val (w' := p) (.int .u8 (X : Int)) rfl ?_ ⟨hI, ⟨Kept.refl _ _, id⟩, rfl⟩
            (have ec : ∀ x, a1.eval (.const x) = x := fun _ => rfl); (have ef : ∀ x, a1.eval (.func x) = .func (.func x) #[] #[] := fun _ => rfl); generalize a1.eval = ρ at *
            clear h6
            go_simp <;> (intros; first | (exfalso; omega) | rfl)
          · intro vals p hI hp
            have h7 : (vals 7) = .int .u8 (X : Int) := hp 7 (by simp [Lrb7])
            have e28 : (Roll.putD Drb7 vals [7] b0).eval (.tmp 28) = .int .u8 (X : Int) := (Roll.eval_new 7 rfl (by decide) (by decide) (by omega)).trans h7
            clear hp hlv hN
            unfold Roll.Goes
            simp only [Lrb7, List.getD_cons_zero, List.getD_cons_succ]
            generalize Roll.putD Drb7 vals [7] b0 = a1 at *
            refine Roll.goes_val (w' := p) (.bool ((X : Int) == 1)) rfl ?_ ⟨hI, ⟨Kept.refl _ _, id⟩, rfl⟩
            (have ec : ∀ x, a1.eval (.const x) = x := fun _ => rfl); (have ef : ∀ x, a1.eval (.func x) = .func (.func x) #[] #[] := fun _ => rfl); generalize a1.eval = ρ at *
            clear h7
            go_simp <;> (intros; first | (exfalso; omega) | rfl)
          · intro vals p hI hp
            have h3 : (vals 3) = .agg #[.slice aN (l.length - 1) (c - 1), .int .i64 0] := hp 3 (by simp [Lrb7])
            have e2 : (Roll.putD Drb7 vals [3] b0).eval (.tmp 2) = .pointer (some ⟨w.heap.size + 1, 0, none⟩) := (Roll.eval_old rfl).trans (hlv.at 1 (2, .pointer (some ⟨w.heap.size + 1, 0, none⟩)) rfl)
            have e24 : (Roll.putD Drb7 vals [3] b0).eval (.tmp 24) = .agg #[.slice aN (l.length - 1) (c - 1), .int .i64 0] := (Roll.eval_new 3 rfl (by decide) (by decide) (by omega)).trans h3
            clear hp hlv hN
            unfold Roll.Goes
            simp only [Lrb7, List.getD_cons_zero, List.getD_cons_succ]
            generalize Roll.putD Drb7 vals [3] b0 = a1 at *
            obtain ⟨hI1, x1, y1, hold⟩ := hI
            exact Roll.goes_store_row rfl 48 (.tmp 2) (.tmp 24) rfl (w.heap.size + 1) #[.slice aN (l.length - 1) (c - 1), .int .i64 0] e2 e24 48 #[x1, y1] hold (rdsz2 _ _) rfl (rdone _ _ _ _ _) ⟨⟨hI1.setRow (fun _ => rfl) _, _, _, setRow_heap _ _ _ _ _ _ hold⟩, ⟨(Kept.refl (fun j => j = w.heap.size + 1) p).setRow (fun _ => rfl) _, fun _ => setRow_heap _ _ _ _ _ _ hold⟩, setRow_heap _ _ _ _ _ _ hold⟩
        · intro vals p hI hR
          have h0 : (vals 0) = .pointer (some ⟨w.heap.size, 0, none⟩) := hR 0 (by omega)
          have h1 : (vals 1) = .slice (some ⟨b, off, none⟩) l.length c := hR 1 (by omega)
          have h2 : (vals 2) = .slice aN (l.length - 1) (c - 1) := hR 2 (by omega)
          have h3 : (vals 3) = .agg #[.slice aN (l.length - 1) (c - 1), .int .i64 0] := hR 3 (by omega)
          have h4 : (vals 4) = .pointer (some ⟨w.heap.size, 0, none⟩) := hR 4 (by omega)
          have h5 : (vals 5) = .slice (some ⟨b, off, none⟩) l.length c := hR 5 (by omega)
          have h6 : (vals 6) = .pointer (some ⟨b, off, none⟩) := hR 6 (by omega)
          have h7 : (vals 7) = .int .u8 (X : Int) := hR 7 (by omega)
          have h8 : (vals 8) = .bool ((X : Int) == 1) := hR 8 (by omega)
          have h9 : p.heap[w.heap.size + 1]? = some (.cells #[.slice aN (l.length - 1) (c - 1), .int .i64 0] 48 (0, 0)) := hR 9 (by omega)
          clear hR
          simp only [List.range_succ, List.range_zero, List.nil_append, List.cons_append, Roll.putD, Act.put, List.getD_cons_zero, List.getD_cons_succ, List.setIfInBounds_toArray, List.set_cons_zero, List.set_cons_succ, List.drop_succ_cons, List.drop_zero, Drb7]
          simp only [h0, h1, h2, h3, h4, h5, h6, h7, h8]
          clear h0 h1 h2 h3 h4 h5 h6 h7 h8
          go_wp2
          exact bodyPost_ret (v := .tuple #[.agg #[.slice aN (l.length - 1) (c - 1), .int .i64 0], .bool ((X : Int) == 1)]) (results_row_tmp rfl _ _ (w.heap.size + 1) 48 #[.slice aN (l.length - 1) (c - 1), .int .i64 0] (0, 0) _ rfl h9 Try.underlying48 rfl rdsz _ rfl) rfl (by
            show RdsV D w R.2 (.bool R.1) _ _
            rw [HRv.out, ← Hbo.out]
            have K := hI.1.mono (T := fun j => w.heap.size ≤ j) (fun j _ h => by omega)
            exact ⟨_, _, by simp only [rdv, List.length_drop]; rfl, by simp only [List.length_drop]; exact (HfrH.out).later K, below_kept HqB.out (Nat.le_refl _) K⟩)
        -- region 7
  · have he2 : ((e : Int) == 0) = false := by rw [beq_eq_false_iff_ne]; omega
    have he3 : ((e : Int) != 0) = true := by rw [bne_iff_ne]; omega
    have HRv : Hid (R = (false, ⟨l, e⟩)) := Lib.hid (by rw [HR.out]; unfold refBool; rw [if_neg he])
    unfold rdv
    go_enter Try.func49, Try.ntmps49
    go_wp2
    refine bodyPost_ret (v := .tuple #[.agg #[.slice a l.length c, .int .i64 (e : Int)], .bool false]) (by simp [results, Try.results49, go_sem]) rfl ?_
    show RdsV D w R.2 (.bool R.1) _ _
    rw [HRv.out]
    exact ⟨a, c, rfl, fail_rds (w2 := w) 0 HB.out (HB2.out _ _), HB2.out _ _⟩
end Go.Proofs.Ytdnbkiaolimfjaa

/-
  The date of a day: the program's and the reference's (written by gen_I5.py).
-/
import Derived.Test.YtcdjilnlmihnhaaDoorI4
import Derived.Deep.CutBlock
import Derived.OwnWalk
import Derived.Deep.DrawnRows
import Derived.Deep.CutRange
import Derived.Deep.LoopGhost
import Derived.Laws.Tables
import Derived.Laws.ResultCell
import Derived.Deep.WholeRow
namespace Go.Proofs.YtcdjilnlmihnhaaDoor
open Go.RowKit
set_option linter.unusedSimpArgs false
set_option linter.unusedVariables false
def dc (y m d : Int) : Array Value := #[.int .i64 y, .int .i64 m, .int .i64 d]
theorem dc_info : (Tryd.prog.info? 41).map (·.size) = some 3 := by kernel_rfl
/-- a block that holds a date -/
def DB (w : World) (g : Nat) : Prop := ∃ y m d : Int, w.heap[g]? = some (.cells (dc y m d) 41 (0, 0))
def storeDateA (v x : Value) : Sem Next := do Instr.storeAt 41 v x; pure .skip
theorem exec_storeDate (ρ : Operand → Value) (d : Option Tmp) (x y : Operand) (ty : TypeId) (pos : String) (af : Array Edge) (gd : Option (Nat × Bool)) :
    execOp ρ { dst := d, op := .store 41 x y, type := ty, pos := pos, after := af, guard := gd } = storeDateA (ρ x) (ρ y) := rfl
theorem run_storeDate (w : World) (g : Nat) (y m d : Int) (h : DB w g) : (storeDateA (.pointer (some ⟨g, 0, none⟩)) (.agg #[.int .i64 y, .int .i64 m, .int .i64 d])).run Tryd.prog w = .ok .skip (w.setRow g #[.int .i64 y, .int .i64 m, .int .i64 d]) := by
  obtain ⟨y0, m0, d0, hg⟩ := h
  unfold storeDateA
  simp only [Instr.storeAt, Instr.sureAddr, Sem.run_bind, Sem.run_pure, Result.andThen_ok, run_storeVar_row w g 41 41 _ #[.int .i64 y, .int .i64 m, .int .i64 d] hg dc_info rfl (by simp [Value.oneCell'])]

theorem results_date_Of (tmps : Array Value) (w : World) (g : Nat) (x y z b : Int) (hp : tmps.getD 2 undef = .pointer (some ⟨g, 0, none⟩)) (hb : tmps.getD 3 undef = .int .i64 b) (hg : w.heap[g]? = some (.cells (dc x y z) 41 (0, 0))) :
    (results Tryd.f12 tmps).run Tryd.prog w = .ok (.tuple #[.agg #[.int .i64 x, .int .i64 y, .int .i64 z], .int .i64 b]) w := by
  rw [results_cell_tmp (p := 2) (u := 3) (ty := 41) rfl, hp, hb]
  simp only [asAddr, Sem.run_pure, Result.andThen_ok]
  rw [run_loadVar_row w g 41 41 (dc x y z) (0, 0) _ hg Tryd.underlying41 rfl dc_info]
  rfl

attribute [local go_sem ↓] exec_storeDate
attribute [local go_sem] run_storeDate
def cellI (w : World) (g i : Nat) : Int := match w.cell? ⟨g, i, none⟩ with | some (.int _ k) => k | _ => 0
theorem cellI_of {w : World} {g i : Nat} {k : IntKind} {n : Int} (h : w.cell? ⟨g, i, none⟩ = some (.int k n)) : cellI w g i = n := by unfold cellI; rw [h]
def okN (n : Int) : Prop := 0 ≤ n ∧ n ≤ 3652058
instance (n : Int) : Decidable (okN n) := inferInstanceAs (Decidable (_ ∧ _))
def ofY (n : Int) : Int := if okN n then yearN n else 0
def ofM (n : Int) : Int := if okN n then monthN n else 0
def ofD (n : Int) : Int := if okN n then mdayN n else 0
def ofE (n : Int) : Int := if okN n then 0 else 5
theorem of_no {n : Int} (h : ¬ okN n) : ofY n = 0 ∧ ofM n = 0 ∧ ofD n = 0 ∧ ofE n = 5 := by unfold ofY ofM ofD ofE; simp only [if_neg h]; exact ⟨trivial, trivial, trivial, trivial⟩
theorem of_yes {n : Int} (h : okN n) : ofY n = yearN n ∧ ofM n = monthN n ∧ ofD n = mdayN n ∧ ofE n = 0 := by unfold ofY ofM ofD ofE; simp only [if_pos h]; exact ⟨trivial, trivial, trivial, trivial⟩
theorem heap_new0 {w : World} {o : Obj} : (w.alloc o).heap[w.heap.size]? = some o := by rw [heap_alloc_if, if_pos rfl]
/-- the months of a day: what is left before each of them -/
theorem rests {n : Int} (h : okN n) : ∃ (G : Nat → Int) (M : Nat), G 1 = n - newY (yearN n) ∧ 1 ≤ M ∧ M ≤ 12 ∧ (∀ k : Nat, G (k + 1) = G k - lenD (yearN n) k) ∧ (∀ k : Nat, 1 ≤ k → k ≤ M → 0 ≤ G k ∧ G k ≤ 400) ∧
    (∀ k : Nat, 1 ≤ k → k < M → lenD (yearN n) k ≤ G k) ∧ G M < lenD (yearN n) M ∧ monthN n = M ∧ mdayN n = G M + 1 := by
  obtain ⟨h0, h1⟩ := h
  have hy := year_ok n h0
  have hs := new_succ (yearN n)
  have hm := mon_ok (yearN n) (n - newY (yearN n)) (by omega) (by omega)
  have h13 := cum_rng (yearN n) 13 (by omega)
  obtain ⟨M, hM⟩ : ∃ M, M = monN (yearN n) (n - newY (yearN n)) := ⟨_, rfl⟩
  have e1 : monthN n = (M : Int) := by rw [hM]; rfl
  have e2 : mdayN n = n - newY (yearN n) - cumD (yearN n) M + 1 := by rw [hM]; rfl
  rw [← hM] at hm
  clear hM
  refine ⟨fun k => n - newY (yearN n) - cumD (yearN n) k, M, ?_, hm.1, hm.2.1, fun k => ?_, fun k hk1 hk2 => ?_, fun k hk1 hk2 => ?_, ?_, e1, e2⟩
  · simp only [cum_one]; omega
  · show n - newY (yearN n) - (cumD (yearN n) k + lenD (yearN n) (k : Int)) = n - newY (yearN n) - cumD (yearN n) k - lenD (yearN n) (k : Int); omega
  · have a := cum_le (yearN n) hk2
    have b := cum_rng (yearN n) k (by omega)
    show 0 ≤ n - newY (yearN n) - cumD (yearN n) k ∧ n - newY (yearN n) - cumD (yearN n) k ≤ 400
    omega
  · have a := cum_le (yearN n) (show k + 1 ≤ M by omega)
    have e : cumD (yearN n) (k + 1) = cumD (yearN n) k + lenD (yearN n) (k : Int) := rfl
    show lenD (yearN n) (k : Int) ≤ n - newY (yearN n) - cumD (yearN n) k
    omega
  · have e : cumD (yearN n) (M + 1) = cumD (yearN n) M + lenD (yearN n) (M : Int) := rfl
    show n - newY (yearN n) - cumD (yearN n) M < lenD (yearN n) (M : Int)
    omega

set_option maxRecDepth 100000 in
set_option maxHeartbeats 1000000 in
theorem of_any (n : Int) (w : World) (hT : Tabs w) : Calls Tryd.prog 12 #[.int .i64 n] w fun e w' => e = .returned (.tuple #[.agg #[.int .i64 (ofY n), .int .i64 (ofM n), .int .i64 (ofD n)], .int .i64 (ofE n)]) ∧ Below w.heap.size w w' := by
  by_cases hn : okN n
  · obtain ⟨e1, e2, e3, e4⟩ := of_yes hn
    rw [e1, e2, e3, e4]
    clear e1 e2 e3 e4
    obtain ⟨G, M, hG1, hM1, hM12, hGs, hGb, hGlt, hGM, eM, eD⟩ := rests hn
    rw [eM, eD]
    clear eM eD
    obtain ⟨h0, h1⟩ := hn
    have hy := year_ok n h0
    have hy2 := year_le n h0 h1
    have hnr := new_rng (y := yearN n) hy.2.2 (by omega)
    have HYO := Lib.hid hy
    obtain ⟨y, hY⟩ : ∃ y, y = yearN n := ⟨_, rfl⟩
    have HYR : Hid (∀ u, Calls Tryd.prog 23 #[.int .i64 n] u fun e w' => e = .returned (.int .i64 y) ∧ u = w') := Lib.hid (fun u => by rw [hY]; exact yearOf_any n u h0 h1)
    rw [← hY] at hG1 hGs hGlt hGM hy hnr hy2 HYO ⊢
    obtain ⟨Y, hYY⟩ : ∃ Y, Y = newY y := ⟨_, rfl⟩
    have HNY : Hid (∀ u, Calls Tryd.prog 24 #[.int .i64 y] u fun e w' => e = .returned (.int .i64 Y) ∧ u = w') := Lib.hid (fun u => by rw [hYY]; exact newYear_any y u hy.2.2 (by omega))
    rw [← hYY] at hG1 hnr
    have HG1 := Lib.hid hG1
    have HGs := Lib.hid hGs
    have HGb := Lib.hid hGb
    have HGl := Lib.hid hGlt
    have HGM := Lib.hid hGM
    have hw1 : IntKind.i64.wrap (n - Y) = n - Y := i64_id _ (by omega) (by omega)
    clear hG1 hGs hGb hGlt hGM hy hY hYY
    have HT := Lib.hid hT
    clear hT
    go_enter Tryd.func12, Tryd.ntmps12
    go_upto_region 1 with fail
    obtain ⟨w1, hw⟩ : ∃ w1, w1 = w.alloc (.cells #[.int .i64 0, .int .i64 0, .int .i64 0] 41) := ⟨_, rfl⟩
    have hrow : w1.heap[w.heap.size]? = some (.cells (dc 0 0 0) 41 (0, 0)) := by rw [hw]; exact heap_new0
    have hb : Below w.heap.size w w1 := by rw [hw]; exact (Below.refl _ w).alloc (Nat.le_refl _) _
    rw [← hw]
    have p1 : DB w1 w.heap.size := ⟨0, 0, 0, hrow⟩
    have HROW := Lib.hid hrow
    have HB := Lib.hid hb
    have HLen : Hid (∀ (k : Nat), Calls Tryd.prog 25 #[.int .i64 y, .int .i64 (k : Int)] w1 fun e w' => e = .returned (.int .i64 (lenD y k)) ∧ w1 = w') := Lib.hid (fun k => length_any y k _ (HT.out.below HB.out))
    clear hw hrow hb
    go_wp2_with (first
      | (go_at_call 23; refine (HYR.out _).mono ?_; rintro e w3 ⟨rfl, rfl⟩)
      | (go_at_call 24; refine (HNY.out _).mono ?_; rintro e w3 ⟨rfl, rfl⟩))
    go_loopw [5, 6] (fun s u wr => wr = w1 ∧ ∃ k : Nat, 1 ≤ k ∧ k ≤ M ∧ s = .int .i64 (k : Int) ∧ u = .int .i64 (G k)) (fun s _ _ => ((M : Int) - intOf s).toNat)
    case atStart => exact ⟨rfl, 1, by omega, by omega, rfl, by rw [HG1.out]⟩
    case round =>
      obtain ⟨rfl, k, hk1, hk2, rfl, rfl⟩ := hrel
      obtain ⟨l, hl⟩ : ∃ l, l = lenD y k := ⟨_, rfl⟩
      have hgb := HGb.out k hk1 hk2
      have HLe := Lib.hid (HLen.out k)
      obtain ⟨gk, hgk⟩ : ∃ gk, gk = G k := ⟨_, rfl⟩
      rw [← hl] at HLe
      rw [← hgk] at hgb ⊢
      by_cases hkm : k < M
      · have hle := HGl.out k hk1 hkm
        rw [← hl, ← hgk] at hle
        have HS : Hid (G (k + 1) = gk - l) := Lib.hid (by rw [HGs.out, hgk, hl])
        have hw5 : IntKind.i64.wrap (gk - l) = gk - l := i64_id _ (by omega) (by have := (HGb.out (k + 1) (by omega) (by omega)); rw [HS.out] at this; omega)
        have hw6 : IntKind.i64.wrap ((k : Int) + 1) = (k : Int) + 1 := i64_id _ (by omega) (by omega)
        clear hgk hl
        go_wp2_with (go_at_call 25; refine HLe.out.mono ?_; rintro e w4 ⟨rfl, rfl⟩)
        go_roundw
        case rel => exact ⟨trivial, k + 1, by omega, by omega, by go_num, by rw [HS.out]⟩
        case measure => simp only [intOf]; omega
      · obtain rfl : k = M := by omega
        have hlt := HGM.out
        rw [← hl, ← hgk] at hlt
        have HGK := Lib.hid hgk
        have hw5 : IntKind.i64.wrap (gk + 1) = gk + 1 := i64_id _ (by omega) (by omega)
        clear hgk hl
        go_wp2_with (go_at_call 25; refine HLe.out.mono ?_; rintro e w4 ⟨rfl, rfl⟩)
        exact bodyPost_ret (results_date_Of _ _ w.heap.size y k (gk + 1) 0 rfl rfl (setRow_heap _ _ _ _ _ _ HROW.out)) rfl ⟨by rw [HGK.out], ((Kept.of_below (fun _ => False) HB.out).setRow (fun h => by omega) _).below (Nat.le_refl _) (fun _ _ h => h)⟩
  · obtain ⟨e1, e2, e3, e4⟩ := of_no hn
    rw [e1, e2, e3, e4]
    clear e1 e2 e3 e4 hT
    by_cases h0 : n < 0
    · clear hn
      go_enter Tryd.func12, Tryd.ntmps12
      go_upto_region 1 with fail
      have p1 : DB (w.alloc (.cells #[.int .i64 0, .int .i64 0, .int .i64 0] 41)) w.heap.size := ⟨0, 0, 0, heap_new0⟩
      go_wp2_with fail
      exact bodyPost_ret (results_date_Of _ _ w.heap.size 0 0 0 5 rfl rfl (setRow_heap _ _ _ _ _ _ heap_new0)) rfl ⟨rfl, (((Kept.refl (fun _ => False) w).alloc _).setRow (fun h => by omega) _).below (Nat.le_refl _) (fun _ _ h => h)⟩
    · have h1 : 3652058 < n := by unfold okN at hn; omega
      clear hn
      go_enter Tryd.func12, Tryd.ntmps12
      go_upto_region 1 with fail
      have p1 : DB (w.alloc (.cells #[.int .i64 0, .int .i64 0, .int .i64 0] 41)) w.heap.size := ⟨0, 0, 0, heap_new0⟩
      go_wp2_with fail
      exact bodyPost_ret (results_date_Of _ _ w.heap.size 0 0 0 5 rfl rfl (setRow_heap _ _ _ _ _ _ heap_new0)) rfl ⟨rfl, (((Kept.refl (fun _ => False) w).alloc _).setRow (fun h => by omega) _).below (Nat.le_refl _) (fun _ _ h => h)⟩

theorem year_lo {n y : Int} (h0 : 0 ≤ n) (h2 : n < newY (y + 1)) : n / 366 + 1 ≤ y := by
  rcases Int.lt_or_le y (n / 366 + 1) with hl | hl
  · exfalso
    have h := new_le (show y + 1 ≤ n / 366 + 1 by omega)
    have e : newY (n / 366 + 1) = 365 * (n / 366) + (n / 366) / 4 - (n / 366) / 100 + (n / 366) / 400 := by unfold newY; rw [show n / 366 + 1 - 1 = n / 366 by omega]
    omega
  · exact hl

end Go.Proofs.YtcdjilnlmihnhaaDoor

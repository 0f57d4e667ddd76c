/-
  The law DateEaster (written by gen_IN2.py).
-/
import Derived.Test.YtcoijmggfkjcjaaDoorIG
import Derived.Test.YtcoijmggfkjcjaaDoorIK
namespace Go.Proofs.YtcoijmggfkjcjaaDoor
open Go.RowKit
set_option linter.unusedSimpArgs false
set_option linter.unusedVariables false
set_option maxRecDepth 100000 in
set_option maxHeartbeats 4000000 in
theorem easter_law (n : Int) (w0 : World) (hT : Tabs w0) (n1 : -9223372036854775808 ≤ n) (n2 : n ≤ 9223372036854775807) : Calls Tryd.prog 6 #[.int .i64 n] w0 fun e w' => e = .returned (.bool true) ∧ Below w0.heap.size w0 w' := by
  have hbx := aroundD_bd n 8423 (by omega)
  have HAR := Lib.hid (aroundD_any n 8423 w0 n1 n2 (by omega) (by omega))
  obtain ⟨x, hx⟩ : ∃ x, x = aroundD n 8423 := ⟨_, rfl⟩
  rw [← hx] at hbx HAR
  have hw : IntKind.i64.wrap (1580 + x) = 1580 + x := i64_id _ (by omega) (by omega)
  have HTS := Lib.hid hT
  clear hT hx
  go_enter Tryd.func6, Tryd.ntmps6
  go_upto_region 2 with (go_at_call 15; refine (HAR.out).mono ?_; rintro e w1 ⟨rfl, rfl⟩)
  obtain ⟨w, hw1⟩ : ∃ w, w = w0.alloc (.cells #[.int .i64 n, .int .i64 (1580 + x)] 3) := ⟨_, rfl⟩
  obtain ⟨gs, hgs⟩ : ∃ gs, gs = w0.heap.size := ⟨_, rfl⟩
  have hrd : w.heap[gs]? = some (.cells #[.int .i64 n, .int .i64 (1580 + x)] 3 (0, 0)) := by rw [hw1, hgs]; exact heap_new0
  have hb1 : Below w0.heap.size w0 w := by rw [hw1]; exact (Below.refl _ w0).alloc (Nat.le_refl _) _
  rw [← hw1]
  rw [← hgs]
  have HLS := Lib.hid (heap_lt hrd)
  have HVD : Hid (∀ i : Nat, i < 2 → ∃ a, w.cell? ⟨gs, i, none⟩ = some (.int .i64 a)) := Lib.hid (fun i hi => by
    have h : i = 0 ∨ i = 1 := by omega
    rcases h with rfl | rfl
    · exact ⟨_, cell_of_row w gs 0 _ _ _ hrd⟩
    · exact ⟨_, cell_of_row w gs 1 _ _ _ hrd⟩)
  have HT0 := Lib.hid (HTS.out.below hb1)
  have HB1 := Lib.hid hb1
  clear hw1 hgs hrd hb1 HTS
  go_wp2_with fail
  go_loopw [4] (fun ii wr => ∃ i : Nat, i ≤ 2 ∧ ii = .int .i64 (i : Int) ∧ Tabs wr ∧ Below w.heap.size w wr) (fun ii _ => (2 - intOf ii).toNat)
  case atStart => exact ⟨0, by omega, rfl, HT0.out, Below.refl _ _⟩
  case round =>
    obtain ⟨i, hi, rfl, ht, hb⟩ := hrel
    have HTP := Lib.hid ht
    have HBP := Lib.hid hb
    clear ht hb
    by_cases hi3 : i < 2
    · have hii : (i : Int) < 2 := by omega
      obtain ⟨a, ha⟩ := HVD.out i hi3
      have HCA := Lib.hid ha
      have ca : wr.cell? ⟨gs, i, none⟩ = some (.int .i64 a) := (HBP.out.cell (p := ⟨gs, i, none⟩) HLS.out).trans ha
      have j1 : IntKind.i64.wrap ((i : Int) + 1) = (i : Int) + 1 := i64_id _ (by omega) (by omega)
      obtain ⟨r, hr⟩ : ∃ r, r = easR a := ⟨_, rfl⟩
      obtain ⟨er, her⟩ : ∃ er, er = easE a := ⟨_, rfl⟩
      have HP1 : Hid (∀ p, Tabs p → Calls Tryd.prog 32 #[.int .i64 a] p fun e w' => e = .returned (.tuple #[.int .i64 r, .int .i64 er]) ∧ Below p.heap.size p w') := Lib.hid (fun p hp => by rw [hr, her]; exact easter_any a p hp)
      have HP2 : Hid (∀ p, Calls Tryd.prog 33 #[.int .i64 a] p fun e w' => e = .returned (.tuple #[.int .i64 r, .int .i64 er]) ∧ Below p.heap.size p w') := Lib.hid (fun p => by rw [hr, her]; exact refEaster_any a p)
      clear ha hr her
      go_upto_region 6 with (go_at_call 32; refine (HP1.out _ HTP.out).mono ?_; rintro e v1 ⟨rfl, hb⟩; have HTN := Tab_stepD HTP hb; have HBN := Bel_stepD HBP hb; clear HTP HBP; have HTP := HTN; have HBP := HBN; clear HTN HBN; clear hb; clear ca)
      have ca : v1.cell? ⟨gs, i, none⟩ = some (.int .i64 a) := (HBP.out.cell (p := ⟨gs, i, none⟩) HLS.out).trans HCA.out
      go_upto_region 7 with (go_at_call 33; refine (HP2.out _).mono ?_; rintro e v2 ⟨rfl, hb⟩; have HTN := Tab_stepD HTP hb; have HBN := Bel_stepD HBP hb; clear HTP HBP; have HTP := HTN; have HBP := HBN; clear HTN HBN; clear hb; clear ca)
      go_wp2_with fail
      go_roundw
      case rel => exact ⟨i + 1, by omega, by go_num, HTP.out, HBP.out⟩
      case measure => simp only [intOf]; omega
    · obtain rfl : i = 2 := by omega
      go_wp2_with (go_at_call 19; refine (lives_any _ HTP.out).mono ?_; rintro e wl ⟨rfl, hb⟩; have HBL := Lib.hid ((HB1.out.trans (HBP.out.mono HB1.out.size)).trans (hb.mono (Nat.le_trans HB1.out.size HBP.out.size))); clear hb)
      go_ret
      exact ⟨rfl, HBL.out⟩
end Go.Proofs.YtcoijmggfkjcjaaDoor

/-
  The law DiskMatches.
-/
import Derived.Test.YtbnodhcgdgcebaaYJ
import Derived.Test.YtbnodhcgdgcebaaU2
namespace Go.Proofs.Ytbnodhcgdgcebaa
open Go.RowKit
set_option linter.unusedSimpArgs false
set_option linter.unusedVariables false
set_option maxRecDepth 100000 in
set_option maxHeartbeats 8000000 in
theorem diskmatches_any (x : Int) (a : Option Addr) (n c : Nat) (ms : List OM) (w0 : World) (h1 : -9223372036854775808 ≤ x) (h2 : x ≤ 9223372036854775807) (hO : Ops (fun b => b < w0.heap.size) w0 a n c ms) :
    Calls Try.prog 3 #[.int .i64 x, .slice a n c] w0 fun e w' => e = .returned (.bool true) ∧ Below w0.heap.size w0 w' := by
  have HO := Lib.hid hO
  have HL0 := Lib.hid (Lv.refl w0)
  have hsb := secs_bd x
  have har := around_bd x 16 (by omega)
  have hs : (1 : Int) + around x 16 = (secs x : Int) := by unfold secs; omega
  have hok0 : (DM.new (secs x)).Ok 0 := DM.new_ok hsb.1 (by omega)
  obtain ⟨AR, hA⟩ : ∃ AR, AR = around x 16 := ⟨_, rfl⟩
  obtain ⟨SN, hSN⟩ : ∃ SN, SN = secs x := ⟨_, rfl⟩
  rw [← hA] at har hs
  rw [← hSN] at hsb hok0 hs
  have HA := Lib.hid hA
  have HSNX := Lib.hid hSN
  have Hok0 := Lib.hid hok0
  have HS1 : Hid (1 ≤ SN ∧ SN ≤ 4096) := Lib.hid (by omega)
  have hw : IntKind.i64.wrap (1 + AR) = (SN : Int) := by rw [i64_id _ (by omega) (by omega)]; exact hs
  have hnm : n ≤ 9223372036854775807 := by have := hO.2.1.2.1; have := hO.2.1.2.2.1; unfold maxLen at this; omega
  clear hO hSN hok0 hsb hA hs har
  go_enter Try.func3, Try.ntmps3
  go_upto_region 6 with (first
    | (have hL := HL0.out; go_at_call 12; refine (made_lv hL x h1 h2).mono ?_; rintro e w1 ⟨g, rfl, hl⟩; rw [← HSNX.out] at hl; have HL1 := Lib.hid hl; clear hl HL0 hL)
    | (go_at_call 14; refine (around_any x 16 _ h1 h2 (by omega) (by omega)).mono ?_; rintro e w2 ⟨rfl, rfl⟩; rw [← HA.out])
    | (have hL := HL1.out; go_at_call 13; refine (rnew_lv hL SN HS1.out.1 HS1.out.2).mono ?_; rintro e w3 ⟨gr, rfl, hl⟩; have HL2 := Lib.hid hl; clear hl HL1 hL))
  go_loopw [5, 6, 8] (fun p1 p2 t wr => ∃ (i : Nat) (d : DM) (g gr : Nat), i ≤ n ∧ i ≤ 60 ∧ p1 = .pointer (some ⟨g, 0, none⟩) ∧ p2 = .pointer (some ⟨gr, 0, none⟩) ∧ t = .int .i64 (i : Int) ∧ Lv w0 wr [refO gr d, diskO g d] ∧ d.Ok i) (fun _ _ t _ => 60 - (intOf t).toNat)
  case atStart => exact ⟨0, DM.new SN, _, _, Nat.zero_le _, by omega, rfl, rfl, rfl, HL2.out, Hok0.out⟩
  case round =>
    obtain ⟨i, d, g1, gr1, hi, hi60, rfl, rfl, rfl, hL, hOK⟩ := hrel
    have HL := Lib.hid hL
    have HOKi := Lib.hid hOK
    clear hL hOK HL2
    by_cases hlt : i < n
    · by_cases hlt60 : i < 60
      · have hn2 : (i : Int) < (n : Int) := by omega
        have hn3 : (i : Int) < 60 := by omega
        have hw1 : IntKind.i64.wrap ((i : Int) + 1) = (i : Int) + 1 := i64_id _ (by omega) (by omega)
        obtain ⟨b, off, hDb, hbw, rfl, hrb⟩ := HO.out.at (by omega)
        have hil : i < ms.length := by have := HO.out.1; omega
        have hr5 := hrb i hil
        obtain ⟨m, hm⟩ : ∃ m, m = ms[i] := ⟨_, rfl⟩
        have hmok : OOk (fun b => b < w0.heap.size) w0 m := by rw [hm]; exact HO.out.2.2 _ (List.getElem_mem hil)
        rw [← hm] at hr5
        obtain ⟨ob, hob⟩ : ∃ ob, off + i * 5 = ob := ⟨_, rfl⟩
        rw [hob] at hr5
        have HR50 : Hid (w0.rangeAt b ob m.cells) := Lib.hid hr5
        have hbq : b < wr.heap.size := Nat.lt_of_lt_of_le hbw HL.out.size
        have cK0 : wr.cell? ⟨b, ob + 0, none⟩ = some (.int .i64 m.kind) := (HL.out.args.cell (p := ⟨b, ob + 0, none⟩) hbw).trans (hr5 0 _ rfl)
        have c1 : wr.cell? ⟨b, ob + 1, none⟩ = some (.int .i64 m.k) := (HL.out.args.cell (p := ⟨b, ob + 1, none⟩) hbw).trans (hr5 1 _ rfl)
        have c2 : wr.cell? ⟨b, ob + 2, none⟩ = some (.int .i64 m.n) := (HL.out.args.cell (p := ⟨b, ob + 2, none⟩) hbw).trans (hr5 2 _ rfl)
        have c3 : wr.cell? ⟨b, ob + 3, none⟩ = some (.slice m.ba m.bn m.bc) := (HL.out.args.cell (p := ⟨b, ob + 3, none⟩) hbw).trans (hr5 3 _ rfl)
        have cK : wr.cell? ⟨b, ob, none⟩ = some (.int .i64 m.kind) := cK0
        have HM := Lib.hid hmok
        have HOB := Lib.hid hob
        have HC1 := Lib.hid c1
        have HC2 := Lib.hid c2
        have HC3 := Lib.hid c3
        have Hbw := Lib.hid hbw
        have Hbq := Lib.hid hbq
        clear hDb hrb hr5 hm hmok cK0 c1 c2 c3 hil hbw hbq
        have HRG : Hid (wr.rangeAt b ob m.cells) := Lib.hid (fun j v hv => (HL.out.args.cell (p := ⟨b, ob + j, none⟩) Hbw.out).trans (HR50.out j v hv))
        have HG1 : Hid True := Lib.hid trivial
        clear cK
        go_wp2_with (first
          | (have x1 := HG1; refine wpList_load_mid rfl 35 (.tmp 38) rfl b ob rfl _ _ HRG.out Try.underlying35 rfl (by kernel_rfl) ?_; clear HG1 x1)
          | (have hL := HL.out; go_at_call 15; refine (step_lv hL m HM.out HOKi.out (by omega)).mono ?_; rintro e w4 ⟨g2, gr2, d2, rfl, hl, hdl, hdo⟩; have HL3 := Lib.hid hl; have HOK2 := Lib.hid hdo; clear hl hdl hdo hL HL)
          | (have hL := HL3.out; go_at_call 16; refine (same_lv hL (i1 := 1) (i2 := 0) (d := d2) rfl rfl (HOK2.out.mono (by omega))).mono ?_; rintro e w5 ⟨rfl, hl⟩; have HL4 := Lib.hid hl; clear hl hL HL3))
        go_roundw
        case rel => exact ⟨i + 1, d2, g2, gr2, by omega, by omega, rfl, rfl, by go_num, HL4.out, HOK2.out⟩
        case measure => simp [intOf]; omega
      · obtain rfl : i = 60 := by omega
        go_wp2_with (first
          | (have hL := HL.out; go_at_call 17; refine (lives_any _).mono ?_; rintro e w11 ⟨rfl, hb⟩; have HB := Lib.hid (hL.args.trans (hb.mono hL.size)); clear hb hL))
        go_ret
        exact ⟨rfl, HB.out⟩
    · have hin : (n : Int) ≤ (i : Int) := by omega
      go_wp2_with (first
        | (have hL := HL.out; go_at_call 17; refine (lives_any _).mono ?_; rintro e w11 ⟨rfl, hb⟩; have HB := Lib.hid (hL.args.trans (hb.mono hL.size)); clear hb hL))
      go_ret
      exact ⟨rfl, HB.out⟩
end Go.Proofs.Ytbnodhcgdgcebaa

/-
  Two disks that are read alike; elements cut short; elements appended.
-/
import Derived.Test.YtbnodhcgdgcebaaU2
namespace Go.Proofs.Ytbnodhcgdgcebaa
open Go.RowKit
set_option linter.unusedSimpArgs false
set_option linter.unusedVariables false
/-- two disks are read alike -/
def eqD (d1 d2 : DM) : Bool := d1.S.length == d2.S.length && d1.on == d2.on && (!d1.on || d1.S.map lastB == d2.S.map lastB)
set_option maxRecDepth 100000 in
set_option maxHeartbeats 2000000 in
/-- equal, of two disks that are read alike and have power -/
theorem equal_lv {w0 w : World} {L : List Obj} (h : Lv w0 w L) {i1 i2 : Nat} {g1 g2 : Nat} {d1 d2 : DM} (hi1 : L[i1]? = some (diskO g1 d1)) (hi2 : L[i2]? = some (diskO g2 d2)) (hl : d1.S.length = d2.S.length) (ho : d1.on = d2.on) (hon : d1.on = true) (hs : d1.S.map lastB = d2.S.map lastB) :
    Calls Try.prog 38 #[.pointer (some ⟨g1, 0, none⟩), .pointer (some ⟨g2, 0, none⟩)] w fun e w' => e = .returned (.bool true) ∧ Lv w0 w' L := by
  have hok := h.ok hi1
  obtain ⟨S, hS⟩ : ∃ S, S = d1.S.length := ⟨_, rfl⟩
  have hS4 : S ≤ 4096 := by rw [hS]; exact hok.2.1
  have HS1 : Hid (d1.S.length = S) := Lib.hid hS.symm
  have HS2 : Hid (d2.S.length = S) := Lib.hid (by rw [← hl, hS])
  have HO1 := Lib.hid hon
  have HO2 : Hid (d2.on = true) := Lib.hid (by rw [← ho, hon])
  have HLa : Hid (∀ k (k1 : k < d1.S.length) (k2 : k < d2.S.length), lastB (d2.S[k]'k2) = lastB (d1.S[k]'k1)) := Lib.hid (fun k k1 k2 => by
    have e1 : (d1.S.map lastB)[k]'(by simpa using k1) = lastB (d1.S[k]'k1) := List.getElem_map _
    have e2 : (d2.S.map lastB)[k]'(by simpa using k2) = lastB (d2.S[k]'k2) := List.getElem_map _
    rw [← e1, ← e2]
    simp only [hs])
  have HL := Lib.hid h
  have Hi1 := Lib.hid hi1
  have Hi2 := Lib.hid hi2
  clear h hok hS hl ho hon hs hi1 hi2
  go_enter Try.func38, Try.ntmps38
  go_upto_region 3 with (first
    | (have x1 := HS1; go_at_call 20; refine (len_lv HL.out (i := i1) (d := d1) Hi1.out).mono ?_; rintro e w2 ⟨rfl, rfl⟩; rw [HS1.out]; clear x1; have HSx := HS1; clear HS1)
    | (have x1 := HSx; go_at_call 20; refine (len_lv HL.out (i := i2) (d := d2) Hi2.out).mono ?_; rintro e w2 ⟨rfl, rfl⟩; rw [HS2.out]; clear x1)
    | (have x1 := HO1; go_at_call 34; refine (on_lv HL.out (i := i1) (d := d1) Hi1.out).mono ?_; rintro e w2 ⟨rfl, rfl⟩; rw [HO1.out]; clear x1; have HOx := HO1; clear HO1)
    | (have x1 := HOx; go_at_call 34; refine (on_lv HL.out (i := i2) (d := d2) Hi2.out).mono ?_; rintro e w2 ⟨rfl, rfl⟩; rw [HO2.out]; clear x1))
  go_wp2_with fail
  go_loopw [5] (fun t wr => ∃ k : Nat, k ≤ S ∧ t = .int .i64 (k : Int) ∧ Lv w0 wr L) (fun t _ => S - (intOf t).toNat)
  case atStart => exact ⟨0, Nat.zero_le _, rfl, HL.out⟩
  case round =>
    obtain ⟨k, hk, rfl, hL⟩ := hrel
    have HLa2 := Lib.hid hL
    clear hL HL
    by_cases hlt : k < S
    · have hn2 : (k : Int) < (S : Int) := by omega
      have hw1 : IntKind.i64.wrap ((k : Int) + 1) = (k : Int) + 1 := i64_id _ (by omega) (by omega)
      have k1 : k < d1.S.length := by rw [HSx.out]; exact hlt
      have k2 : k < d2.S.length := by rw [HS2.out]; exact hlt
      have HA := Lib.hid (HLa.out k k1 k2)
      have HR1 : Hid (d1.on = true) := HOx
      go_wp2_with (first
        | (have hL := HLa2.out; go_at_call 20; refine (len_lv hL (i := i1) (d := d1) Hi1.out).mono ?_; rintro e w2 ⟨rfl, rfl⟩; rw [HSx.out]; clear hL)
        | (have hL := HLa2.out; go_at_call 21; refine (read_w hL (i := i1) (d := d1) Hi1.out k k1 HR1.out).mono ?_; rintro e w2 ⟨ax, cx, rfl, hl⟩; have HL3 := Lib.hid hl; clear hl HLa2 hL)
        | (have hL := HL3.out; go_at_call 21; refine (read_w hL (i := i2 + 1) (d := d2) Hi2.out k k2 HO2.out).mono ?_; rintro e w2 ⟨ay, cy, rfl, hl⟩; rw [HA.out] at hl; have HL4 := Lib.hid hl; clear hl HL3 hL)
        | (have hL := HL4.out; go_at_call 22; obtain ⟨Zq, hq⟩ := hL.bs (i := 1) rfl; obtain ⟨Zr, hr⟩ := hL.bs (i := 0) rfl; refine (sameBytes_any _ _ _ _ _ _ _ _ _ _ _ hq hr).mono ?_; rintro e w2 ⟨rfl, rfl⟩; rw [beq_self_eq_true]; clear hL hq hr))
      go_roundw
      case rel => exact ⟨k + 1, by omega, by go_num, HL4.out.tail.tail⟩
      case measure => simp [intOf]; omega
    · obtain rfl : k = S := by omega
      go_wp2_with (have hL := HLa2.out; go_at_call 20; refine (len_lv hL (i := i1) (d := d1) Hi1.out).mono ?_; rintro e w2 ⟨rfl, rfl⟩; rw [HSx.out]; clear hL)
      go_ret
      exact ⟨rfl, HLa2.out⟩
end Go.Proofs.Ytbnodhcgdgcebaa

/-
  Texts W5, W6, W7, W8, W9, UA, UC, V1, DgWords, DgA1, DgA2, DgA3, DgA4, DgA5, DgA6, DgA7, DgA8, DgA9, DgB0, one behind the other.
-/
import Derived.WalkKit
import Derived.WalkSpells
import Derived.WalkLawsBesides
import Derived.Laws.AppendOwn
import Derived.Laws.OwnMore
import Derived.Deep.AppendSrc
import Derived.Deep.MidRow
import Derived.Lib.Hide
import GoSem.Claim
import Derived.Orders
import Derived.Tactics
import Derived.Maps.RangeRun
import Derived.Maps.Range
import Derived.Maps.OwnOps
import Derived.Maps.RangeWalk
import Derived.Deep.Cut
import Derived.Deep.RegionWith
import Derived.Deep.DrawnRows
import Derived.StillTailTactics
import Derived.Carry
import Derived.Laws.CopyOwn
import Derived.Lib.AppendZerosOnto
import Derived.Deep.QuietTactic
import Derived.BigQuiet
import Derived.Laws.BytesString
import Derived.Laws.AppendOwnNone
import Derived.ProofKit
import Derived.OpenShut
import Derived.Deep.Slices
import Derived.Deep.Fields
import Derived.JoinedCond
import Derived.Laws.ShiftsVarLaws
import Derived.Laws.BitsAllLaws
import Derived.Deep.Matrix
import Derived.Deep.Grids
import Derived.Deep.WholeRow
import Derived.Deep.DeepCutAuto
import Derived.Test.YthffegfcgmhppaaDoorRows
import Derived.Test.YthffegfcgmhppaaDoorZV502
namespace Go.Proofs.YthffegfcgmhppaaDoor
open Go.RowKit
set_option linter.unusedSimpArgs false
set_option linter.unusedVariables false
theorem pow128 (k : Nat) : 128 ^ k = 2 ^ (7 * k) := by rw [Nat.pow_mul]
/-- a group is laid behind those that were read -/
theorem or_step (acc x k : Nat) (ha : acc < 128 ^ k) (hx : x % 128 * 128 ^ k < 18446744073709551616) (h64 : acc < 18446744073709551616) :
    bits .or .u64 (acc : Int) (IntKind.u64.wrap ((x : Int) % 128 * 2 ^ (7 * k))) = ((acc + x % 128 * 128 ^ k : Nat) : Int) := by
  rw [pow128] at ha hx ⊢
  have e : (x : Int) % 128 * 2 ^ (7 * k) = ((x % 128 * 2 ^ (7 * k) : Nat) : Int) := by simp
  have e2 : IntKind.u64.wrap ((x % 128 * 2 ^ (7 * k) : Nat) : Int) = ((x % 128 * 2 ^ (7 * k) : Nat) : Int) := by rw [IntKind.wrap_u64]; omega
  rw [e, e2, u64_or_nat _ _ h64 hx, Nat.or_comm, ← Nat.shiftLeft_eq, ← Nat.shiftLeft_add_eq_or_of_lt ha, Nat.shiftLeft_eq, Nat.add_comm]
theorem acc_next (acc x k : Nat) (ha : acc < 128 ^ k) : acc + x % 128 * 128 ^ k < 128 ^ (k + 1) := by
  rw [Nat.pow_succ, Nat.mul_comm (128 ^ k)]
  have : x % 128 * 128 ^ k ≤ 127 * 128 ^ k := Nat.mul_le_mul_right _ (by omega)
  omega
theorem pow_lt9 {k : Nat} (h : k ≤ 9) : 128 ^ k ≤ 9223372036854775808 := by have := pow_le_pow128 h; rw [pow9] at this; exact this
theorem grp_fits {k : Nat} (x : Nat) (h : k < 9) : x % 128 * 128 ^ k < 18446744073709551616 := by
  have h8 : 128 ^ k ≤ 128 ^ 8 := pow_le_pow128 (by omega)
  have : x % 128 * 128 ^ k ≤ 127 * 128 ^ 8 := Nat.mul_le_mul (by omega) h8
  have e8 : (127 : Nat) * 128 ^ 8 < 18446744073709551616 := by decide
  omega
theorem ret3 {a a' : Int} {b b' c c' : Nat} (h : a = a') (h2 : b = b') (h3 : c = c') : Ending.returned (.tuple #[.int .u64 a, .int .i64 (b : Int), .int .i64 (c : Int)]) = .returned (.tuple #[.int .u64 a', .int .i64 (b' : Int), .int .i64 (c' : Int)]) := by rw [h, h2, h3]
set_option maxRecDepth 100000 in
set_option maxHeartbeats 1000000 in
theorem firstNumber_any (D : Nat → Prop) (a : Option Addr) (n c : Nat) (l : List UInt8) (w : World) (hB : Bs D w a n c l) (hn : n ≤ 100000000000000) :
    Calls Tryd.prog 63 #[.slice a n c] w fun e w' => e = .returned (.tuple #[.int .u64 ((fnum l 0 0).1 : Int), .int .i64 ((fnum l 0 0).2.1 : Int), .int .i64 ((fnum l 0 0).2.2 : Int)]) ∧ w = w' := by
  have HB := Lib.hid hB
  have HL := Lib.hid hB.1
  clear hB
  obtain ⟨F, hF⟩ : ∃ F, F = fnum l 0 0 := ⟨_, rfl⟩
  rw [← hF]
  have HF := Lib.hid hF
  clear hF
  go_enter Tryd.func63, Tryd.ntmps63
  go_wp2
  go_loop [5, 10] (fun t i => ∃ (k acc : Nat), k ≤ n ∧ k ≤ 9 ∧ i = .int .i64 (k : Int) ∧ t = .int .u64 (acc : Int) ∧ acc < 128 ^ k ∧ F = fnum (l.drop k) k acc) (fun _ i => n - (intOf i).toNat)
  case atStart => exact ⟨0, 0, Nat.zero_le _, by omega, rfl, rfl, by simp, HF.out⟩
  case round =>
    obtain ⟨k, acc, hk, hk9, rfl, rfl, hacc, hFk⟩ := hrel
    have HFk := Lib.hid hFk
    have HAcc := Lib.hid hacc
    clear hFk hacc HF
    by_cases hlt : k < n
    · have hkl : k < l.length := by have := HL.out; omega
      obtain ⟨b, off, hDb, hbw, rfl, hc⟩ := HB.out.cells (by omega)
      have hcell := hc k hkl
      have hd : l.drop k = l[k] :: l.drop (k + 1) := List.drop_eq_getElem_cons hkl
      have HD := Lib.hid hd
      have hx := l[k].toNat_lt
      clear hc hd
      generalize l[k] = x at *
      by_cases h9 : k = 9
      · subst h9
        by_cases hb : 1 < x.toNat
        · have e := HFk.out
          rw [HD.out, fnum, if_pos ⟨rfl, hb⟩] at e
          subst e
          go_wp2
          go_ret3
          exact ⟨rfl, rfl⟩
        · by_cases hz : x.toNat = 0
          · have e := HFk.out
            rw [HD.out, fnum, if_neg (by omega), if_neg (by omega), if_pos ⟨hz, by omega⟩] at e
            subst e
            go_wp2
            go_ret3
            exact ⟨rfl, rfl⟩
          · have h1 : x.toNat = 1 := by omega
            have e := HFk.out
            rw [HD.out, fnum, if_neg (by omega), if_neg (by omega), if_neg (by omega)] at e
            have ho := or_step acc x.toNat 9 HAcc.out (by rw [h1, pow9]; decide) (by have := HAcc.out; rw [pow9] at this; omega)
            have ho2 : bits .or .u64 (acc : Int) 9223372036854775808 = (acc : Int) + 9223372036854775808 := by
              have h := or_step acc 1 9 HAcc.out (by decide) (by have := HAcc.out; rw [pow9] at this; omega)
              rw [show IntKind.u64.wrap (((1 : Nat) : Int) % 128 * 2 ^ (7 * 9)) = 9223372036854775808 by decide] at h
              rw [h, pow9]; omega
            have HO := Lib.hid ho2
            subst e
            clear ho ho2
            have hz2 : ((x.toNat : Int) == 0) = false := by rw [beq_eq_false_iff_ne]; omega
            go_wp2
            go_ret3
            exact ⟨ret3 HO.out rfl rfl, rfl⟩
      · by_cases hb : 128 ≤ x.toNat
        · have e := HFk.out
          rw [HD.out, fnum, if_neg (by omega), if_pos hb] at e
          have HE := Lib.hid e
          have HO := Lib.hid (or_step acc x.toNat k HAcc.out (grp_fits _ (by omega)) (by have := HAcc.out; have := pow_lt9 hk9; omega))
          clear e
          go_wp2
          go_round
          case rel => exact ⟨k + 1, _, by omega, by omega, by go_num, by rw [HO.out], acc_next _ _ _ HAcc.out, HE.out⟩
          case measure => simp [intOf]; omega
        · by_cases hz : x.toNat = 0 ∧ 0 < k
          · have e := HFk.out
            rw [HD.out, fnum, if_neg (by omega), if_neg hb, if_pos hz] at e
            subst e
            obtain ⟨hz1, hz2⟩ := hz
            go_wp2
            go_ret3
            exact ⟨rfl, rfl⟩
          · have e := HFk.out
            rw [HD.out, fnum, if_neg (by omega), if_neg hb, if_neg hz] at e
            have HO := Lib.hid (or_step acc x.toNat k HAcc.out (grp_fits _ (by omega)) (by have := HAcc.out; have := pow_lt9 hk9; omega))
            subst e
            by_cases hz1 : x.toNat = 0
            · obtain rfl : k = 0 := by omega
              obtain rfl : acc = 0 := by have := HAcc.out; omega
              have hb0 : bits .or .u64 0 0 = 0 := by decide
              have hcell0 : w.cell? ⟨b, off, none⟩ = some (.int .u8 0) := by simpa [hz1] using hcell
              clear HO hcell
              rw [hz1]
              go_wp2
              go_ret3
              exact ⟨rfl, rfl⟩
            · have hz2 : ((x.toNat : Int) == 0) = false := by rw [beq_eq_false_iff_ne]; omega
              go_wp2
              go_ret3
              exact ⟨ret3 HO.out rfl rfl, rfl⟩
    · have e := HFk.out
      rw [List.drop_of_length_le (by have := HL.out; omega), fnum] at e
      subst e
      go_wp2
      go_ret3
      exact ⟨rfl, rfl⟩
end Go.Proofs.YthffegfcgmhppaaDoor
namespace Go.Proofs.YthffegfcgmhppaaDoor
open Go.RowKit
set_option linter.unusedSimpArgs false
set_option linter.unusedVariables false
/-- what a method of a reader leaves -/
def Reads (g : Nat) (k : Option Nat) (w : World) (l' : List UInt8) (e' : Nat) (w' : World) : Prop := Rd w' g k l' e' ∧ Kept (fun j => j = g) w w'
theorem Rd.facts {w : World} {g : Nat} {k : Option Nat} {l : List UInt8} {e : Nat} (h : Rd w g k l e) : ∃ a c, w.heap[g]? = some (.cells #[.slice a l.length c, .int .i64 (e : Int)] 86 (0, 0)) ∧ w.cell? ⟨g, 0, none⟩ = some (.slice a l.length c) ∧ w.cell? ⟨g, 1, none⟩ = some (.int .i64 (e : Int)) ∧ w.frozen? ⟨g, 0, none⟩ = false ∧ w.frozen? ⟨g, 1, none⟩ = false ∧ Bs (fun b => k = some b) w a l.length c l ∧ k ≠ some g := by
  obtain ⟨a, c, hg, hB, hk⟩ := h
  exact ⟨a, c, hg, by rw [cell_of_row w g 0 _ _ _ hg]; rfl, by rw [cell_of_row w g 1 _ _ _ hg]; rfl, frozen_of_row w g 0 _ _ hg, frozen_of_row w g 1 _ _ hg, hB, hk⟩
def failed (e f : Nat) : Nat := if e = 0 then f else e
set_option maxRecDepth 100000 in
set_option maxHeartbeats 400000 in
theorem fail_any (g : Nat) (k : Option Nat) (l : List UInt8) (e f : Nat) (F : Int) (w : World) (hR : Rd w g k l e) (hF : F = (f : Int)) :
    Calls Tryd.prog 38 #[.pointer (some ⟨g, 0, none⟩), .int .i64 F] w fun x w' => x = .returned (.tuple #[]) ∧ Reads g k w l (failed e f) w' := by
  subst hF
  obtain ⟨a, c, hg, h0, h1, f0, f1, hB, hk⟩ := hR.facts
  have HG := Lib.hid hg
  have HB := Lib.hid hB
  have HK := Lib.hid hk
  have HR := Lib.hid hR
  clear hg hB hk hR
  by_cases he : e = 0
  · subst he
    go_enter Tryd.func38, Tryd.ntmps38
    go_wp2
    go_end0
    refine ⟨rfl, ⟨a, c, ?_, HB.out.kept ((Kept.refl (fun j => j = g) w).setCell (fun _ => rfl) _) (fun b _ hb e => HK.out (by rw [hb, e])), HK.out⟩, (Kept.refl (fun j => j = g) w).setCell (fun _ => rfl) _⟩
    rw [heap_setCell_same w g 1 _ _ _ HG.out]
    rfl
  · have he2 : ((e : Int) == 0) = false := by rw [beq_eq_false_iff_ne]; omega
    go_enter Tryd.func38, Tryd.ntmps38
    go_wp2
    go_end0
    refine ⟨rfl, ?_, Kept.refl _ _⟩
    rw [failed, if_neg he]
    exact HR.out
set_option maxRecDepth 100000 in
theorem left_any (g : Nat) (k : Option Nat) (l : List UInt8) (e : Nat) (w : World) (hR : Rd w g k l e) :
    Calls Tryd.prog 37 #[.pointer (some ⟨g, 0, none⟩)] w fun x w' => x = .returned (.int .i64 (l.length : Int)) ∧ w = w' := by
  obtain ⟨a, c, hg, h0, h1, f0, f1, hB, hk⟩ := hR.facts
  clear hg hB hk hR
  go_enter Tryd.func37, Tryd.ntmps37
  go_wp2
  go_ret
  exact ⟨rfl, rfl⟩
def endE (e n : Nat) : Nat := if e = 0 ∧ 0 < n then 7 else e
set_option maxRecDepth 100000 in
theorem end_any (g : Nat) (k : Option Nat) (l : List UInt8) (e : Nat) (w : World) (hR : Rd w g k l e) :
    Calls Tryd.prog 20 #[.pointer (some ⟨g, 0, none⟩)] w fun x w' => x = .returned (.int .i64 (endE e l.length : Int)) ∧ w = w' := by
  obtain ⟨a, c, hg, h0, h1, f0, f1, hB, hk⟩ := hR.facts
  have HR := Lib.hid hR
  clear hg hB hk hR
  by_cases he : e = 0
  · subst he
    by_cases hl : 0 < l.length
    · go_enter Tryd.func20, Tryd.ntmps20
      go_wp2_with (go_at_call 37; refine (left_any g k l _ _ HR.out).mono ?_; rintro e w2 ⟨rfl, rfl⟩)
      go_ret
      exact ⟨ret_int (by rw [endE, if_pos ⟨rfl, hl⟩]; rfl), rfl⟩
    · have hl0 : l.length = 0 := by omega
      go_enter Tryd.func20, Tryd.ntmps20
      go_wp2_with (go_at_call 37; refine (left_any g k l _ _ HR.out).mono ?_; rintro e w2 ⟨rfl, rfl⟩)
      go_ret
      exact ⟨ret_int (by rw [endE, if_neg (by omega)]; rfl), rfl⟩
  · have he2 : ((e : Int) == 0) = false := by rw [beq_eq_false_iff_ne]; omega
    go_enter Tryd.func20, Tryd.ntmps20
    go_wp2
    go_ret
    exact ⟨ret_int (by rw [endE, if_neg (by omega)]), rfl⟩
theorem vals_drop (l : List UInt8) (n : Nat) : vals (l.drop n) = (vals l).drop n := by simp [vals, List.map_drop]
theorem Bs.from {D : Nat → Prop} {w : World} {a : Option Addr} {n c : Nat} {l : List UInt8} (h : Bs D w a n c l) (F : Nat) (hF : F ≤ n) : Bs D w (if c = F then a else a.map (fun x => x.add F)) (n - F) (c - F) (l.drop F) := by
  obtain ⟨h1, h2, h3, h4, h5, h6⟩ := h
  have h4' : c ≤ maxLen := h4
  refine ⟨by rw [List.length_drop]; omega, ?_, by omega, by unfold maxLen at *; omega, ?_, fun hp => ?_⟩
  · rw [vals_len, List.length_drop]; omega
  · intro ha
    by_cases hcF : c = F
    · omega
    · rw [if_neg hcF] at ha
      cases a with
      | none => have := h5 rfl; omega
      | some x => cases ha
  · obtain ⟨b, off, hD, rfl, hr⟩ := h6 (by omega)
    rw [if_neg (by omega)]
    refine ⟨b, off + F, hD, by rw [Option.map_some, Addr.add_mid], fun j v hv => ?_⟩
    rw [vals_drop, List.getElem?_drop] at hv
    rw [Nat.add_assoc]
    exact hr (F + j) v hv
set_option maxRecDepth 100000 in
set_option maxHeartbeats 400000 in
theorem take_any (g : Nat) (k : Option Nat) (l : List UInt8) (e : Nat) (n : Nat) (w : World) (hR : Rd w g k l e) (hn : n ≤ l.length) :
    Calls Tryd.prog 39 #[.pointer (some ⟨g, 0, none⟩), .int .i64 (n : Int)] w fun x w' => ∃ a c, x = .returned (.slice a n c) ∧ Bs (fun b => k = some b) w' a n c (l.take n) ∧ Reads g k w (l.drop n) e w' := by
  obtain ⟨a, c, hg, h0, h1, f0, f1, hB, hk⟩ := hR.facts
  have hc1 : l.length ≤ c := hB.2.2.1
  have hc2 : c ≤ 9223372036854775807 := hB.2.2.2.1
  have fin : ∀ (a' : Option Addr) (c' : Nat), Bs (fun b => k = some b) w a' (l.length - n) c' (l.drop n) → Bs (fun b => k = some b) (w.setCell ⟨g, 0, none⟩ (.slice a' (l.length - n) c')) a n c (l.take n) ∧ Reads g k w (l.drop n) e (w.setCell ⟨g, 0, none⟩ (.slice a' (l.length - n) c')) := by
    intro a' c' hs
    have K := (Kept.refl (fun j => j = g) w).setCell (p := ⟨g, 0, none⟩) (fun _ => rfl) (.slice a' (l.length - n) c')
    refine ⟨(hB.upto n hn).kept K (fun b _ hb e => hk (by rw [hb, e])), ⟨a', c', ?_, ?_, hk⟩, K⟩
    · rw [heap_setCell_same w g 0 _ _ _ hg, List.length_drop]
      rfl
    · rw [List.length_drop]
      exact hs.kept K (fun b _ hb e => hk (by rw [hb, e]))
  have Bf := hB.from n hn
  have HF := Lib.hid fin
  have HB := Lib.hid Bf
  clear hg hB hk hR fin Bf
  by_cases hcn : c = n
  · have hb := HB.out
    rw [if_pos hcn] at hb
    subst hcn
    rw [Nat.sub_self] at hb
    have HB2 := Lib.hid hb
    clear hb HB
    go_enter Tryd.func39, Tryd.ntmps39
    go_wp2
    go_ret
    have h := HF.out _ _ HB2.out
    rw [show l.length - c = 0 by omega] at h
    exact ⟨a, _, rfl, h⟩
  · have hb := HB.out
    rw [if_neg hcn] at hb
    have HB2 := Lib.hid hb
    clear hb HB
    go_enter Tryd.func39, Tryd.ntmps39
    go_wp2
    go_ret
    exact ⟨a, _, rfl, HF.out _ _ HB2.out⟩
end Go.Proofs.YthffegfcgmhppaaDoor
namespace Go.Proofs.YthffegfcgmhppaaDoor
open Go.RowKit
set_option linter.unusedSimpArgs false
set_option linter.unusedVariables false
theorem Reads.trans {g : Nat} {k : Option Nat} {w w1 w2 : World} {l1 l2 : List UInt8} {e1 e2 : Nat} (h : Reads g k w l1 e1 w1) (h2 : Reads g k w1 l2 e2 w2) : Reads g k w l2 e2 w2 := ⟨h2.1, h.2.trans h2.2 (fun _ _ h => h)⟩
set_option maxRecDepth 100000 in
set_option maxHeartbeats 400000 in
theorem ruint_any (g : Nat) (k : Option Nat) (l : List UInt8) (e : Nat) (w : World) (hR : Rd w g k l e) (hl : l.length ≤ 100000000000000) :
    Calls Tryd.prog 54 #[.pointer (some ⟨g, 0, none⟩)] w fun x w' => x = .returned (.int .u64 ((rUint ⟨l, e⟩).1 : Int)) ∧ Reads g k w (rUint ⟨l, e⟩).2.l (rUint ⟨l, e⟩).2.e w' := by
  obtain ⟨a, c, hg, h0, h1, f0, f1, hB, hk⟩ := hR.facts
  have HB := Lib.hid hB
  have HR := Lib.hid hR
  clear hg hB hk hR
  by_cases he : e = 0
  · subst he
    rw [rUint_ok ⟨l, 0⟩ rfl]
    have hsz := fnum_size l 0 0
    obtain ⟨V, hV⟩ : ∃ V, V = (fnum l 0 0).1 := ⟨_, rfl⟩
    obtain ⟨K, hK⟩ : ∃ K, K = (fnum l 0 0).2.1 := ⟨_, rfl⟩
    obtain ⟨E, hE⟩ : ∃ E, E = (fnum l 0 0).2.2 := ⟨_, rfl⟩
    have hC := firstNumber_any _ a l.length c l w HB.out hl
    rw [← hV, ← hK, ← hE] at hC
    rw [← hK] at hsz
    simp only [← hV, ← hK, ← hE]
    have HC := Lib.hid hC
    have hsz2 : K ≤ l.length := by omega
    clear hC hV hK hE HB hsz
    go_enter Tryd.func54, Tryd.ntmps54
    go_wp2_with (first
      | (go_at_call 39; refine (take_any g k l _ K _ H2.out.1 hsz2).mono ?_; rintro e w3 ⟨a3, c3, rfl, -, h3⟩; have H3 := Lib.hid h3; clear h3)
      | (go_at_call 38; refine (fail_any g k l 0 E _ _ HR.out rfl).mono ?_; rintro e w2 ⟨rfl, h2⟩; have H2 := Lib.hid h2; clear h2)
      | (go_at_call 63; refine HC.out.mono ?_; rintro e w1 ⟨rfl, rfl⟩))
    go_ret
    exact ⟨rfl, H2.out.trans H3.out⟩
  · have he2 : ((e : Int) == 0) = false := by rw [beq_eq_false_iff_ne]; omega
    have he3 : ((e : Int) != 0) = true := by rw [bne_iff_ne]; omega
    rw [rUint_err ⟨l, e⟩ he]
    go_enter Tryd.func54, Tryd.ntmps54
    go_wp2
    go_ret
    exact ⟨rfl, HR.out, Kept.refl _ _⟩
theorem retB (b : Bool) {x y : Bool} (h : x = y) : Ending.returned (.bool x) = .returned (.bool y) := by rw [h]
end Go.Proofs.YthffegfcgmhppaaDoor
namespace Go.Proofs.YthffegfcgmhppaaDoor
open Go.RowKit
set_option linter.unusedSimpArgs false
set_option linter.unusedVariables false
set_option maxRecDepth 100000 in
set_option maxHeartbeats 400000 in
theorem rlen_any (g : Nat) (k : Option Nat) (l : List UInt8) (e : Nat) (most : Int) (w : World) (hR : Rd w g k l e) (hl : l.length ≤ 100000000000000) (h1 : -9223372036854775808 ≤ most) (h2 : most ≤ 9223372036854775807) :
    Calls Tryd.prog 36 #[.pointer (some ⟨g, 0, none⟩), .int .i64 most] w fun x w' => x = .returned (.int .u64 ((rLen ⟨l, e⟩ most).1 : Int)) ∧ Reads g k w (rLen ⟨l, e⟩ most).2.l (rLen ⟨l, e⟩ most).2.e w' := by
  have hC := ruint_any g k l e w hR hl
  unfold rLen
  have hv := rUint_val ⟨l, e⟩
  generalize rUint ⟨l, e⟩ = R at *
  obtain ⟨V, S⟩ := R
  simp only at hC hv ⊢
  have HC := Lib.hid hC
  clear hC hR
  by_cases hm : most < 0 ∨ most < (V : Int)
  · rw [if_pos hm]
    by_cases hm0 : most < 0
    · go_enter Tryd.func36, Tryd.ntmps36
      go_wp2_with (first
        | (go_at_call 54; refine HC.out.mono ?_; rintro e w1 ⟨rfl, h1⟩; have H1 := Lib.hid h1; clear h1)
        | (go_at_call 38; refine (fail_any g k _ _ 2 _ _ H1.out.1 rfl).mono ?_; rintro e w2 ⟨rfl, h2⟩; have H2 := Lib.hid h2; clear h2))
      go_ret
      exact ⟨rfl, H1.out.trans H2.out⟩
    · have hm1 : most < (V : Int) := by omega
      go_enter Tryd.func36, Tryd.ntmps36
      go_wp2_with (first
        | (go_at_call 54; refine HC.out.mono ?_; rintro e w1 ⟨rfl, h1⟩; have H1 := Lib.hid h1; clear h1)
        | (go_at_call 38; refine (fail_any g k _ _ 2 _ _ H1.out.1 rfl).mono ?_; rintro e w2 ⟨rfl, h2⟩; have H2 := Lib.hid h2; clear h2))
      go_ret
      exact ⟨rfl, H1.out.trans H2.out⟩
  · rw [if_neg hm]
    have hm0 : ¬ most < 0 := by omega
    have hm1 : ¬ most < (V : Int) := by omega
    clear hm
    go_enter Tryd.func36, Tryd.ntmps36
    go_wp2_with (first
      | (go_at_call 54; refine HC.out.mono ?_; rintro e w1 ⟨rfl, h1⟩; have H1 := Lib.hid h1; clear h1))
    go_ret
    exact ⟨rfl, H1.out⟩
end Go.Proofs.YthffegfcgmhppaaDoor
namespace Go.Proofs.YthffegfcgmhppaaDoor
open Go.RowKit
set_option linter.unusedSimpArgs false
set_option linter.unusedVariables false
/-- where the loop of Ints stands -/
def AtI (g : Nat) (k : Option Nat) (w : World) (L : Nat) (R : List Int × RS) (m : Nat) (v : Value) (wr : World) : Prop :=
  ∃ acc s, rIntsGo m acc s = R ∧ Reads g k w s.l s.e wr ∧ FreshI w v acc wr ∧ acc.length + s.l.length ≤ L
theorem FreshI.kept {S : Nat → Prop} {w w1 w2 : World} {v : Value} {l : List Int} (h : FreshI w v l w1) (hk : Kept S w1 w2) (hs : ∀ j, w.heap.size ≤ j → ¬ S j) : FreshI w v l w2 := by
  obtain ⟨kk, ho, hf⟩ := h
  exact ⟨kk, ho.kept hk (fun j hj => hs j (hf j hj)), hf⟩
end Go.Proofs.YthffegfcgmhppaaDoor
namespace Go.Proofs.YthffegfcgmhppaaDoor
open Go.RowKit
set_option linter.unusedSimpArgs false
set_option linter.unusedVariables false
/-- a slice of bytes of one's own -/
def baccO (v : Value) (l : List UInt8) : Obj := ⟨fun B w => ∃ k, Own w 5 1 k v l.length (vals l) ∧ ∀ j, k = some j → B j, fun {B S w w'} h hk hs => by
  obtain ⟨k, h1, h2⟩ := h
  exact ⟨k, h1.kept hk (fun j hj => hs j (h1.lt j hj) (h2 j hj)), h2⟩⟩
theorem Lv.bacc0 {w0 w : World} {L : List Obj} (h : Lv w0 w L) : Lv w0 w (baccO (.slice none 0 0) [] :: L) :=
  h.cons (Below.refl _ _) (B := fun _ => False) ⟨none, Own.nil _ _ _, (fun _ h => by cases h)⟩ (fun _ h => h.elim)
theorem Lv.baccBytes {w0 w : World} {L : List Obj} (h : Lv w0 w L) {i : Nat} {v : Value} {l : List UInt8} (hi : L[i]? = some (baccO v l)) : Lv w0 w (L.set i (bytesO v l)) := by
  refine h.weaken hi (fun B hB => ?_)
  obtain ⟨k, h1, h2⟩ := hB
  obtain ⟨a, c, hv, hs⟩ := h1.sl
  exact ⟨a, c, hv, rfl, hs.dom (fun b hb => h2 b hb)⟩
theorem wpList_bacc {w0 w : World} {L : List Obj} (h : Lv w0 w L) {i : Nat} {v : Value} {l : List UInt8} (hi : L[i]? = some (baccO v l)) {ops : Array Oper} {rest : List Oper} {o : Oper} {a : Act} {Q : Exit → Act → World → Prop} (hgd : o.guard = none) (s x : Operand)
    (ho : o.op = .call { callee := .builtin .append, args := #[s, x], argTypes := #[34, 34] }) (hs : a.eval s = v) (us : List UInt8) (hx : Src Tryd.prog 1 34 (a.eval x) us.length (vals us) w) (hb : l.length + us.length ≤ 1000000)
    (K : ∀ v' w', Lv w0 w' (L.set i (baccO v' (l ++ us))) → wpList Tryd.prog ops Q rest (a.put o.dst v') w') : wpList Tryd.prog ops Q (o :: rest) a w := by
  obtain ⟨i0, hi0, hz0, hz1, hz2⟩ := info_parts info5
  obtain ⟨B, ⟨k, h1, h2⟩, hlt, _, hset⟩ := h.get hi
  refine wpList_append_any w hgd s x _ _ ho 5 i0 _ 1 1 Tryd.underlying34 hi0 hz0 hz1 hz2 rfl k v l.length (vals l) hs h1 us.length (vals us) hx (by unfold maxLen; omega) (by omega) ?_
  intro k' v' w' ho' hf' hK' hn'
  refine K v' w' (hset w' _ (fun j => k' = some j) ⟨k', ?_, fun _ h => h⟩ (hK'.mono (fun j _ hj => h2 j hj)) (fun j hj => (hf' j hj).imp (fun e => h2 j e) id) (fun j hj => ho'.lt j hj))
  rw [List.length_append, vals_app]
  exact ho'
theorem run_mk64 (W : World) : (Instr.makeSlice 34 (.int .i64 64) (.int .i64 64)).run Tryd.prog W = .ok (.slice (some ⟨W.heap.size, 0, none⟩) 64 64) (W.alloc (.cells Z64 5)) := by kernel_rfl
theorem Z64_vals : Z64 = (vals zeroB).toArray := by simp [Z64, zeroB, vals]
theorem Wr.new (w : World) : Wr (w.alloc (.cells #[.slice none 0 0] 66)) w.heap.size none [] := ⟨_, heap_new rfl, Own.nil _ _ _, by simp⟩
/-- some bytes, filled up with zeros -/
def padB (l : List UInt8) : List UInt8 := l ++ zeroB.drop l.length
theorem zeroB_len : zeroB.length = 64 := by simp [zeroB]
theorem padB_len (l : List UInt8) (h : l.length ≤ 64) : (padB l).length = 64 := by
  unfold padB; rw [List.length_append, List.length_drop, zeroB_len]; omega
theorem splice_pad (l : List UInt8) : splice (vals zeroB) 0 (vals l) = vals (padB l) := by
  unfold splice padB
  rw [vals_app, List.take_zero, List.nil_append, Nat.zero_add, vals_len, vals_drop]
/-- what is written to the sectors -/
def blkB (b : List UInt8) (i : Nat) : List UInt8 := padB ((b.drop (i * 64)).take 64)
theorem blkB_len (b : List UInt8) (i : Nat) : (blkB b i).length = 64 := padB_len _ (by rw [List.length_take]; omega)
theorem blkB_get (b : List UInt8) (i j : Nat) (hj : j < 64) : (blkB b i)[j]? = if i * 64 + j < b.length then b[i * 64 + j]? else some 0 := by
  have hl : ((b.drop (i * 64)).take 64).length = min 64 (b.length - i * 64) := by rw [List.length_take, List.length_drop]
  unfold blkB padB
  by_cases h : i * 64 + j < b.length
  · rw [if_pos h, List.getElem?_append_left (by rw [hl]; omega), List.getElem?_take, if_pos hj, List.getElem?_drop]
  · rw [if_neg h, List.getElem?_append_right (by rw [hl]; omega), List.getElem?_drop]
    unfold zeroB
    rw [List.getElem?_replicate, if_pos (by rw [hl]; omega)]
theorem blkB_far (b : List UInt8) (i : Nat) (h : b.length ≤ i * 64) : blkB b i = zeroB := by
  unfold blkB
  rw [List.drop_of_length_le h]
  rfl
def allB (b : List UInt8) (n : Nat) : List UInt8 := ((List.range n).map (blkB b)).flatten
theorem allB_succ (b : List UInt8) (n : Nat) : allB b (n + 1) = allB b n ++ blkB b n := by simp [allB, List.range_succ]
theorem allB_len (b : List UInt8) (n : Nat) : (allB b n).length = 64 * n := by
  induction n with
  | zero => rfl
  | succ n ih => rw [allB_succ, List.length_append, ih, blkB_len]; omega
theorem allB_get (b : List UInt8) (n : Nat) : ∀ j, j < 64 * n → (allB b n)[j]? = if j < b.length then b[j]? else some 0 := by
  induction n with
  | zero => intro j hj; omega
  | succ n ih =>
    intro j hj
    rw [allB_succ]
    by_cases h : j < 64 * n
    · rw [List.getElem?_append_left (by rw [allB_len]; exact h), ih j h]
    · rw [List.getElem?_append_right (by rw [allB_len]; omega), allB_len, blkB_get b n (j - 64 * n) (by omega), show n * 64 + (j - 64 * n) = j by omega]
theorem allB_take (b : List UInt8) (n : Nat) (h : b.length ≤ 64 * n) : (allB b n).take b.length = b := by
  apply List.ext_getElem?
  intro j
  rw [List.getElem?_take]
  by_cases hj : j < b.length
  · rw [if_pos hj, allB_get b n j (by omega), if_pos hj]
  · rw [if_neg hj, List.getElem?_eq_none (by omega)]
/-- the disk when the first i sectors have been written -/
def wr0 (b : List UInt8) : Nat → DM
  | 0 => DM.new 16
  | i + 1 => (wr0 b i).write i (blkB b i)
theorem wr0_fuse (b : List UInt8) (i : Nat) : (wr0 b i).fuse = 0 := by
  induction i with
  | zero => rfl
  | succ i ih => exact (write_fuse ih).trans ih
theorem wr0_on (b : List UInt8) (i : Nat) : (wr0 b i).on = true := by
  induction i with
  | zero => rfl
  | succ i ih => exact (write_on (wr0_fuse b i)).trans ih
theorem wr0_len (b : List UInt8) (i : Nat) : (wr0 b i).S.length = 16 := by
  induction i with
  | zero => simp [wr0, DM.new]
  | succ i ih => exact (write_len _ _ _).trans ih
theorem wr0_ok (b : List UInt8) (i : Nat) : (wr0 b i).Ok i := by
  induction i with
  | zero => exact DM.new_ok (by omega) (by omega)
  | succ i ih => exact DM.write_ok ih (blkB_len b i)
theorem write_get (d : DM) (k : Nat) (l : List UInt8) (j : Nat) : (d.write k l).S[j]? = if k = j then d.S[j]?.map (· ++ [l]) else d.S[j]? := by
  unfold DM.write
  rw [DM.burn_S]
  simp only [List.getElem?_modify]
  split <;> simp
theorem wr0_get (b : List UInt8) (i k : Nat) (hk : k < 16) : (wr0 b i).S[k]? = some (if k < i then [zeroB, blkB b k] else [zeroB]) := by
  induction i with
  | zero =>
    show (List.replicate 16 [zeroB])[k]? = _
    rw [List.getElem?_replicate, if_pos hk, if_neg (by omega)]
  | succ i ih =>
    show ((wr0 b i).write i (blkB b i)).S[k]? = _
    rw [write_get, ih]
    by_cases e : i = k
    · subst e; simp
    · rw [if_neg e]
      by_cases h : k < i
      · rw [if_pos h, if_pos (by omega)]
      · rw [if_neg h, if_neg (by omega)]
/-- the first eight sectors have the blocks, flushed -/
def Has8 (b : List UInt8) (d : DM) : Prop := ∀ k, k < 8 → d.S[k]? = some [blkB b k]
theorem has8_flush (b : List UInt8) (i : Nat) (h : b.length ≤ i * 64) : Has8 b (wr0 b i).flush := by
  intro k hk
  unfold DM.flush
  rw [DM.burn_S]
  simp only [List.getElem?_map, wr0_get b i k (by omega), Option.map_some]
  by_cases hi : k < i
  · rw [if_pos hi]; rfl
  · rw [if_neg hi, blkB_far b k (Nat.le_trans h (Nat.mul_le_mul_right _ (by omega)))]; rfl
theorem Has8.write {b : List UInt8} {d : DM} (h : Has8 b d) {k : Nat} (hk : 8 ≤ k) (l : List UInt8) : Has8 b (d.write k l) := by
  intro j hj
  rw [write_get, if_neg (by omega)]
  exact h j hj
theorem setFuse_S (d : DM) (n : Int) : (d.setFuse n).S = d.S := by unfold DM.setFuse; split <;> rfl
theorem Has8.restart {b : List UInt8} {d : DM} (h : Has8 b d) (ts : List TM) (k : Nat) (hk : k < 8) (h2 : k < (d.restart ts).S.length) : lastB ((d.restart ts).S[k]'h2) = blkB b k := by
  have hd : k < d.S.length := by rw [restart_len] at h2; exact h2
  have e : d.S[k] = [blkB b k] := Option.some.inj ((List.getElem?_eq_getElem hd).symm.trans (h k hk))
  rw [restart_get d ts k hd h2, e]
  cases firstOf ts k with
  | none => rfl
  | some t => simp [surv]
theorem encL_pos (z : List Int) : 0 < (encL z).length := by
  unfold encL
  have := encU_len_pos z.length
  rw [List.length_append]; omega
theorem encL_le (z : List Int) (h : Ok64 z) (hz : z.length ≤ 30) : (encL z).length ≤ 310 := by
  unfold encL
  have h1 := encU_len10 z.length (by omega)
  have h2 := encIs_len z h
  rw [List.length_append]; omega
theorem rUint_enc (n : Nat) (r : List UInt8) (h : n < 18446744073709551616) : rUint ⟨encU n ++ r, 0⟩ = (n, ⟨r, 0⟩) := by
  rw [rUint_ok _ rfl]
  have := fnum_enc n r 0 0 (by simpa using h) (by omega) (by omega)
  simp only [this, Nat.zero_add, Nat.pow_zero, Nat.mul_one, List.drop_left]
theorem rInt_enc (n : Int) (r : List UInt8) (h1 : -9223372036854775808 ≤ n) (h2 : n ≤ 9223372036854775807) : rInt ⟨encI n ++ r, 0⟩ = (n, ⟨r, 0⟩) := by
  unfold rInt encI
  rw [rUint_enc _ _ (zig_lt n h1 h2)]
  simp only [zag_zig]
theorem rLen_enc (n : Nat) (r : List UInt8) (most : Int) (h : n < 18446744073709551616) (hm : (n : Int) ≤ most) : rLen ⟨encU n ++ r, 0⟩ most = (n, ⟨r, 0⟩) := by
  unfold rLen
  rw [rUint_enc n r h, if_neg (by simp only; omega)]
theorem rIntsGo_enc (l : List Int) : ∀ (acc : List Int) (r : List UInt8), Ok64 l → rIntsGo l.length acc ⟨l.flatMap encI ++ r, 0⟩ = (acc ++ l, ⟨r, 0⟩) := by
  induction l with
  | nil => intro acc r _; simp [rIntsGo]
  | cons x t ih =>
    intro acc r h
    have hx := h x (by simp)
    have ht : Ok64 t := fun y hy => h y (by simp [hy])
    rw [List.flatMap_cons, List.length_cons, rIntsGo, List.append_assoc, rInt_enc x _ hx.1 hx.2, if_pos rfl, ih _ _ ht]
    simp
theorem rInts_enc (l : List Int) (r : List UInt8) (most : Int) (h : Ok64 l) (hl : l.length < 18446744073709551616) (hm : (l.length : Int) ≤ most) : rInts ⟨encL l ++ r, 0⟩ most = (l, ⟨r, 0⟩) := by
  unfold rInts encL
  rw [List.append_assoc, rLen_enc _ _ most hl hm]
  simpa using rIntsGo_enc l [] r h
end Go.Proofs.YthffegfcgmhppaaDoor
namespace Go.Proofs.YthffegfcgmhppaaDoor
open Go.ChangeShapes Go.WideShapes Go.ChangeAt Go.RowKit
set_option linter.unusedSimpArgs false
set_option linter.unusedVariables false
section
variable {H : Type} {enc : TypeId × Value → H} {W : World} {base : Nat} {held : Bool}
set_option maxRecDepth 100000 in
theorem open_is {base0 : Nat} {v : Value} {d : DataW H} {p : List MemPlace} (hval : Value.okWide Tryd.prog W .any base0 24 v) (h : DataW.Trod enc Tryd.prog W base (fun _ => true) held 24 v d p) :
    ∃ a n c l, v = .slice a n c ∧ Is (Old W) W a n c l ∧ Ok64 l := by
  obtain ⟨a1, n1, c1, rfl⟩ := okWide_slice Tryd.underlying24 hval
  obtain ⟨fuel, hf⟩ := h
  obtain ⟨a, n, c, l, hcs, h1, h2⟩ := ints_of_trod hf
  simp [Value.cells] at hcs
  obtain ⟨rfl, rfl, rfl⟩ := hcs
  exact ⟨_, _, _, l, rfl, h1, h2⟩
end
end Go.Proofs.YthffegfcgmhppaaDoor
namespace Go.Proofs.YthffegfcgmhppaaDoor
open Go.RowKit
set_option linter.unusedSimpArgs false
set_option linter.unusedVariables false
set_option maxRecDepth 100000 in
set_option maxHeartbeats 400000 in
theorem putText_any (g : Nat) (k : Option Nat) (l : List UInt8) (s : ByteArray) (w : World) (hW : Wr w g k l) (hl : l.length ≤ 1000000000000) (hs : s.size ≤ 100000000000000) :
    Calls Tryd.prog 46 #[.pointer (some ⟨g, 0, none⟩), .string s] w fun e w' => e = .returned (.tuple #[]) ∧ Wrote g k w (l ++ s.data.toList) w' := by
  obtain ⟨i0, hi, hz0, hz1, hz2⟩ := info_parts info5
  obtain ⟨v, hg, hO, hk⟩ := hW
  have h0 : w.cell? ⟨g, 0, none⟩ = some v := by rw [cell_of_row w g 0 _ _ _ hg]; rfl
  have HG := Lib.hid hg
  have HO := Lib.hid hO
  have HK := Lib.hid hk
  clear hg hO hk
  go_enter Tryd.func46, Tryd.ntmps46
  go_wp2_with (at_builtin; refine wpList_append_any _ rfl (.tmp 8) (.tmp 9) 34 9 rfl 5 i0 (.int .u8 0) 1 1 Tryd.underlying34 hi hz0 hz1 hz2 rfl k v l.length (vals l) rfl HO.out s.size (byteCells s) (Src.ofString _ Tryd.underlying9 s) (by unfold maxLen; omega) (by omega) ?_)
  intro k' v' w' ho hf hK hn
  obtain ⟨a, c, rfl, -⟩ := ho.sl
  have hg' := hK.heap HG.out HK.out
  have c0 : w'.cell? ⟨g, 0, none⟩ = some v := by rw [cell_of_row w' g 0 _ _ _ hg']; rfl
  have f0 : w'.frozen? ⟨g, 0, none⟩ = false := frozen_of_row w' g 0 _ _ hg'
  have R : Wrote g k w (l ++ s.data.toList) (w'.setCell ⟨g, 0, none⟩ (.slice a (l.length + s.size) c)) := by
    have hg2 := HG.out
    have hl2 := heap_lt hg2
    refine ⟨k', ⟨_, one_set hg', ?_, ?_⟩, hf, (hK.mono (fun _ _ h => .inr h)).setCell (fun _ => .inl rfl) _⟩
    · rw [vals_app, List.length_append, Array.length_toList]
      rw [vals_str] at ho
      exact ho.kept ((Kept.refl (fun j => j = g) w').setCell (fun _ => rfl) _) (fun j hj e => by
        subst e
        rcases hf _ hj with h | h
        · exact HK.out h
        · omega)
    · intro e
      rcases hf _ e with h | h
      · exact HK.out h
      · omega
  have HR := Lib.hid R
  clear R hg' hn hK hf ho h0
  go_wp2
  go_end0
  exact ⟨rfl, HR.out⟩
set_option maxRecDepth 100000 in
set_option maxHeartbeats 400000 in
theorem wtext_any (g : Nat) (k : Option Nat) (l : List UInt8) (s : ByteArray) (w : World) (hW : Wr w g k l) (hl : l.length ≤ 400000000000) (hs : s.size ≤ 100000000000000) :
    Calls Tryd.prog 24 #[.pointer (some ⟨g, 0, none⟩), .string s] w fun e w' => e = .returned (.tuple #[]) ∧ Wrote g k w (l ++ encT s.data.toList) w' := by
  have HW := Lib.hid hW
  have HL := Lib.hid (encU_len10 s.size (by omega))
  clear hW
  go_enter Tryd.func24, Tryd.ntmps24
  go_wp2_with (first
    | (go_at_call 46; refine (putText_any g _ _ s _ W1.out (by have := HL.out; simp; omega) hs).mono ?_; rintro e w2 ⟨rfl, hw2⟩; have H2 := Lib.hid hw2; clear hw2)
    | (go_at_call 45; refine (wuint_any g k l s.size _ _ HW.out (by omega) (by omega) (by first | rfl | omega | (simp only [IntKind.wrap_u64]; omega))).mono ?_; rintro e w1 ⟨rfl, k1, hw1, hl1⟩; have W1 := Lib.hid hw1; have L1 := Lib.hid hl1; clear hw1 hl1))
  go_end0
  refine ⟨rfl, ?_⟩
  have h := H2.out.after L1.out
  rw [List.append_assoc] at h
  exact h
set_option maxRecDepth 100000 in
set_option maxHeartbeats 400000 in
theorem rtext_any (g : Nat) (k : Option Nat) (l : List UInt8) (e : Nat) (most : Int) (w : World) (hR : Rd w g k l e) (hl : l.length ≤ 100000000000000) (h1 : -9223372036854775808 ≤ most) (h2 : most ≤ 9223372036854775807) :
    Calls Tryd.prog 18 #[.pointer (some ⟨g, 0, none⟩), .int .i64 most] w fun x w' => x = .returned (.string ⟨(rText ⟨l, e⟩ most).1.toArray⟩) ∧ Reads g k w (rText ⟨l, e⟩ most).2.l (rText ⟨l, e⟩ most).2.e w' := by
  have hC := rlen_any g k l e most w hR hl h1 h2
  unfold rText
  have hv : (rLen ⟨l, e⟩ most).1 < 18446744073709551616 := by
    unfold rLen
    split
    · show 0 < 18446744073709551616
      omega
    · exact rUint_val _
  have hll := rLen_len ⟨l, e⟩ most
  generalize rLen ⟨l, e⟩ most = R at *
  obtain ⟨V, S, E⟩ := R
  simp only at hC hv hll ⊢
  have HC := Lib.hid hC
  clear hC hR
  by_cases hm : S.length < V
  · rw [if_pos hm]
    go_enter Tryd.func18, Tryd.ntmps18
    go_wp2_with (first
      | (go_at_call 36; refine HC.out.mono ?_; rintro e w1 ⟨rfl, h1⟩; have H1 := Lib.hid h1; clear h1)
      | (go_at_call 37; refine (left_any g k _ _ _ H1.out.1).mono ?_; rintro e w2 ⟨rfl, rfl⟩)
      | (go_at_call 38; refine (fail_any g k _ _ 6 _ _ H1.out.1 rfl).mono ?_; rintro e w2 ⟨rfl, h2⟩; have H2 := Lib.hid h2; clear h2))
    go_ret
    exact ⟨rfl, H1.out.trans H2.out⟩
  · rw [if_neg hm]
    go_enter Tryd.func18, Tryd.ntmps18
    go_wp2_with (first
      | (go_at_call 36; refine HC.out.mono ?_; rintro e w1 ⟨rfl, h1⟩; have H1 := Lib.hid h1; clear h1)
      | (go_at_call 37; refine (left_any g k _ _ _ H1.out.1).mono ?_; rintro e w2 ⟨rfl, rfl⟩)
      | (go_at_call 39; refine (take_any g k S E V _ H1.out.1 (by omega)).mono ?_; rintro e w3 ⟨a3, c3, rfl, hb3, h3⟩; have r3 := run_str hb3; have H3 := Lib.hid h3; clear h3 hb3))
    go_ret
    exact ⟨rfl, H1.out.trans H3.out⟩
theorem rText_enc (s r : List UInt8) (most : Int) (h : s.length < 18446744073709551616) (hm : (s.length : Int) ≤ most) : rText ⟨encT s ++ r, 0⟩ most = (s, ⟨r, 0⟩) := by
  unfold rText encT
  rw [List.append_assoc, rLen_enc _ _ most h hm, if_neg (by simp only [List.length_append]; omega)]
  simp only [List.take_left, List.drop_left]
end Go.Proofs.YthffegfcgmhppaaDoor
namespace Go.Proofs.YthffegfcgmhppaaDoor.Dg
set_option maxRecDepth 100000
open Go.RowKit

/-- a word as the model's integer -/
def wi (x : BitVec 32) : Int := (x.toNat : Int)
theorem wi_nonneg (x : BitVec 32) : 0 ≤ wi x := by unfold wi; omega
theorem wi_lt (x : BitVec 32) : wi x < 4294967296 := by unfold wi; have := x.isLt; omega
theorem ofInt_wi (x : BitVec 32) : BitVec.ofInt 32 (wi x) = x := by
  unfold wi; apply BitVec.eq_of_toNat_eq; simp
theorem wrap_ofInt (n : Int) : IntKind.u32.wrap n = wi (BitVec.ofInt 32 n) := by
  rw [IntKind.wrap_u32]; unfold wi; simp [BitVec.toNat_ofInt]; omega
theorem wrap_toNat (x : BitVec 32) : IntKind.u32.wrap (x.toNat : Int) = wi x := by
  rw [IntKind.wrap_u32]; unfold wi; have := x.isLt; omega
theorem wi_xor (a b : BitVec 32) : bits .xor .u32 (wi a) (wi b) = wi (a ^^^ b) := by
  show IntKind.u32.wrap ((BitVec.ofInt 32 (wi a) ^^^ BitVec.ofInt 32 (wi b)).toNat : Int) = _
  rw [ofInt_wi, ofInt_wi, wrap_toNat]
theorem wi_and (a b : BitVec 32) : bits .and .u32 (wi a) (wi b) = wi (a &&& b) := by
  show IntKind.u32.wrap ((BitVec.ofInt 32 (wi a) &&& BitVec.ofInt 32 (wi b)).toNat : Int) = _
  rw [ofInt_wi, ofInt_wi, wrap_toNat]
theorem wi_or (a b : BitVec 32) : bits .or .u32 (wi a) (wi b) = wi (a ||| b) := by
  show IntKind.u32.wrap ((BitVec.ofInt 32 (wi a) ||| BitVec.ofInt 32 (wi b)).toNat : Int) = _
  rw [ofInt_wi, ofInt_wi, wrap_toNat]
theorem wi_add (a b : BitVec 32) : IntKind.u32.wrap (wi a + wi b) = wi (a + b) := by
  rw [wrap_ofInt, BitVec.ofInt_add, ofInt_wi, ofInt_wi]
theorem wi_shl (a : BitVec 32) (n : Nat) : IntKind.u32.wrap (wi a * 2 ^ n) = wi (a <<< n) := by
  rw [IntKind.wrap_u32]; unfold wi; rw [BitVec.toNat_shiftLeft, Nat.shiftLeft_eq]; simp
theorem wi_shr (a : BitVec 32) (n : Nat) : wi a / 2 ^ n = wi (a >>> n) := by
  unfold wi; rw [BitVec.toNat_ushiftRight, Nat.shiftRight_eq_div_pow]; simp
theorem wi_inj {a b : BitVec 32} (h : wi a = wi b) : a = b := by
  unfold wi at h; apply BitVec.eq_of_toNat_eq; omega
theorem wi_eq (a b : BitVec 32) : (wi a == wi b) = (a == b) := by
  rw [Bool.eq_iff_iff]; simp; exact ⟨wi_inj, fun h => by rw [h]⟩

theorem wi_addm (a b : BitVec 32) : (wi a + wi b) % 4294967296 = wi (a + b) := by
  rw [← IntKind.wrap_u32, wi_add]
theorem wi_shlm (a : BitVec 32) (n : Nat) : (wi a * 2 ^ n) % 4294967296 = wi (a <<< n) := by
  rw [← IntKind.wrap_u32, wi_shl]

/-- rotation to the right by n -/
def rotr (x : BitVec 32) (n : Nat) : BitVec 32 := x >>> n ||| x <<< (32 - n)
theorem mask31 (n : Nat) (h0 : 0 < n) (h1 : n < 32) : bits .and .u64 (IntKind.u64.wrap (-(n : Int))) 31 = ((32 - n : Nat) : Int) := by
  have : ∀ n : Fin 32, 0 < n.val → bits .and .u64 (IntKind.u64.wrap (-(n.val : Int))) 31 = ((32 - n.val : Nat) : Int) := by decide +kernel
  exact this ⟨n, h1⟩ h0

/-- a byte of a list, a word of a list -/
def byteAt (b : List UInt8) (i : Nat) : UInt8 := b.getD i 0
def wAt (l : List (BitVec 32)) (i : Nat) : BitVec 32 := l.getD i 0
/-- a byte as the model's integer -/
def bi (x : UInt8) : Int := (x.toNat : Int)
theorem bi_nonneg (x : UInt8) : 0 ≤ bi x := by unfold bi; omega
theorem bi_lt (x : UInt8) : bi x < 256 := by unfold bi; have := x.toNat_lt; omega
/-- the cells of an array or a row of bytes, of words -/
def bcells (l : List UInt8) : Array Value := (l.map fun x => Value.int .u8 (bi x)).toArray
def wcells (l : List (BitVec 32)) : Array Value := (l.map fun x => Value.int .u32 (wi x)).toArray
theorem bcells_size (l : List UInt8) : (bcells l).size = l.length := by simp [bcells]
theorem wcells_size (l : List (BitVec 32)) : (wcells l).size = l.length := by simp [wcells]
theorem bcells_get (l : List UInt8) (i : Nat) (h : i < l.length) : (bcells l)[i]? = some (.int .u8 (bi l[i])) := by simp [bcells, h]
theorem wcells_get (l : List (BitVec 32)) (i : Nat) (h : i < l.length) : (wcells l)[i]? = some (.int .u32 (wi l[i])) := by simp [wcells, h]
theorem wcells_set (l : List (BitVec 32)) (i : Nat) (x : BitVec 32) : (wcells l).setIfInBounds i (.int .u32 (wi x)) = wcells (l.set i x) := by
  simp [wcells, List.map_set]
theorem bcells_set (l : List UInt8) (i : Nat) (x : UInt8) : (bcells l).setIfInBounds i (.int .u8 (bi x)) = bcells (l.set i x) := by
  simp [bcells, List.map_set]
theorem wcells_one (l : List (BitVec 32)) : (wcells l).all (·.oneCell') = true := by
  simp [wcells, Value.oneCell']
theorem bcells_one (l : List UInt8) : (bcells l).all (·.oneCell') = true := by
  simp [bcells, Value.oneCell']

/-- a byte as a word -/
def byteW (x : UInt8) : BitVec 32 := BitVec.ofNat 32 x.toNat
/-- the big-endian word of four bytes -/
def be32 (a b c d : UInt8) : BitVec 32 := byteW a <<< 24 ||| byteW b <<< 16 ||| byteW c <<< 8 ||| byteW d
def wordAt (b : List UInt8) (i : Nat) : BitVec 32 := be32 (byteAt b (4 * i)) (byteAt b (4 * i + 1)) (byteAt b (4 * i + 2)) (byteAt b (4 * i + 3))
/-- the words of a block -/
def wordsOf (b : List UInt8) : List (BitVec 32) := (List.range 16).map (wordAt b)
/-- the first k of n words of a function, the others zero -/
def firstW (f : Nat → BitVec 32) (n k : Nat) : List (BitVec 32) := (List.range n).map fun i => if i < k then f i else 0
theorem firstW_len (f : Nat → BitVec 32) (n k : Nat) : (firstW f n k).length = n := by simp [firstW]
theorem firstW_set (f : Nat → BitVec 32) (n k : Nat) : (firstW f n k).set k (f k) = firstW f n (k + 1) := by
  apply List.ext_getElem?
  intro i
  simp only [firstW, List.getElem?_set, List.getElem?_map, List.getElem?_range, List.length_map, List.length_range]
  by_cases h : k = i
  · subst h
    by_cases h2 : k < n <;> simp [h2]
  · simp only [h, if_false]
    by_cases h2 : i < n
    · have : (i < k + 1) = (i < k) := by apply propext; omega
      simp [h2, this]
    · simp [h2]
theorem firstW_zero (f : Nat → BitVec 32) (n : Nat) : firstW f n 0 = List.replicate n 0 := by
  simp [firstW, List.map_const']
theorem firstW_all (f : Nat → BitVec 32) (n : Nat) : firstW f n n = (List.range n).map f := by
  apply List.map_congr_left
  intro i hi
  have := List.mem_range.1 hi
  simp [this]

theorem heap_alloc_if (w : World) (o : Obj) (i : Nat) : (w.alloc o).heap[i]? = if i = w.heap.size then some o else w.heap[i]? := by
  show (w.heap.push o)[i]? = _
  rw [Array.getElem?_push]
theorem size_alloc1 (w : World) (o : Obj) : (w.alloc o).heap.size = w.heap.size + 1 := by
  show (w.heap.push o).size = _
  simp
theorem heap_new {w : World} {o : Obj} {g : Nat} (h : g = w.heap.size) : (w.alloc o).heap[g]? = some o := by
  rw [heap_alloc_if, if_pos h]
theorem heap_old {w : World} {o o' : Obj} {g : Nat} (h : w.heap[g]? = some o) : (w.alloc o').heap[g]? = some o := by
  have hl : g < w.heap.size := by
    by_cases hl : g < w.heap.size
    · exact hl
    · rw [Array.getElem?_eq_none (by omega)] at h; cases h
  rw [heap_alloc_if, if_neg (by omega), h]
theorem heap_lt {w : World} {o : Obj} {g : Nat} (h : w.heap[g]? = some o) : g < w.heap.size := by
  by_cases hl : g < w.heap.size
  · exact hl
  · rw [Array.getElem?_eq_none (by omega)] at h; cases h
theorem cell_bytes {w : World} {g : Nat} {l : List UInt8} {t : TypeId} {fr : Nat × Nat} (h : w.heap[g]? = some (.cells (bcells l) t fr)) (i : Nat) (hi : i < l.length) :
    w.cell? ⟨g, i, none⟩ = some (.int .u8 (bi (byteAt l i))) := by
  rw [cell_of_row w g i _ t fr h, bcells_get l i hi]; simp [byteAt, hi]
theorem cell_words {w : World} {g : Nat} {l : List (BitVec 32)} {t : TypeId} {fr : Nat × Nat} (h : w.heap[g]? = some (.cells (wcells l) t fr)) (i : Nat) (hi : i < l.length) :
    w.cell? ⟨g, i, none⟩ = some (.int .u32 (wi (wAt l i))) := by
  rw [cell_of_row w g i _ t fr h, wcells_get l i hi]; simp [wAt, hi]

theorem Below_setRow {B : Nat} {a w : World} (h : Below B a w) {g : Nat} (hg : B ≤ g) (cs : Array Value) : Below B a (w.setRow g cs) :=
  ⟨h.os, h.tape, h.output, by simp; exact h.size, fun b hb => (setRow_other w g b cs (by omega)).trans (h.block b hb)⟩
theorem size8w : (Tryd.prog.info? 93).map (·.size) = some 8 := by kernel_rfl
theorem size16w : (Tryd.prog.info? 117).map (·.size) = some 16 := by kernel_rfl
theorem size64w : (Tryd.prog.info? 119).map (·.size) = some 64 := by kernel_rfl
theorem size64b : (Tryd.prog.info? 75).map (·.size) = some 64 := by kernel_rfl
theorem size32b : (Tryd.prog.info? 51).map (·.size) = some 32 := by kernel_rfl
/-- the word that the schedule has at place t, of those before it -/
def nextW (l : List (BitVec 32)) (t : Nat) : BitVec 32 :=
  wAt l (t - 16) + (rotr (wAt l (t - 15)) 7 ^^^ rotr (wAt l (t - 15)) 18 ^^^ wAt l (t - 15) >>> 3) + wAt l (t - 7) + (rotr (wAt l (t - 2)) 17 ^^^ rotr (wAt l (t - 2)) 19 ^^^ wAt l (t - 2) >>> 10)
/-- the schedule's first 16 + k words -/
def schedTo (ws : List (BitVec 32)) : Nat → List (BitVec 32)
  | 0 => ws
  | k + 1 => schedTo ws k ++ [nextW (schedTo ws k) (16 + k)]
theorem schedTo_len (ws : List (BitVec 32)) (h : ws.length = 16) (k : Nat) : (schedTo ws k).length = 16 + k := by
  induction k with
  | zero => exact h
  | succ k ih => simp [schedTo, ih]; omega
/-- the same in an array of 64 -/
def schedPad (ws : List (BitVec 32)) (k : Nat) : List (BitVec 32) := schedTo ws k ++ List.replicate (48 - k) 0
theorem schedPad_len (ws : List (BitVec 32)) (h : ws.length = 16) (k : Nat) (hk : k ≤ 48) : (schedPad ws k).length = 64 := by
  simp [schedPad, schedTo_len ws h]; omega
theorem schedPad_at (ws : List (BitVec 32)) (h : ws.length = 16) (k i : Nat) (hi : i < 16 + k) : wAt (schedPad ws k) i = wAt (schedTo ws k) i := by
  unfold wAt schedPad
  rw [List.getD_eq_getElem?_getD, List.getD_eq_getElem?_getD, List.getElem?_append_left (by rw [schedTo_len ws h]; exact hi)]
theorem schedPad_next (ws : List (BitVec 32)) (h : ws.length = 16) (k : Nat) (hk : k < 48) (v : BitVec 32) (hv : v = nextW (schedTo ws k) (16 + k)) :
    (schedPad ws k).set (16 + k) v = schedPad ws (k + 1) := by
  subst hv
  unfold schedPad
  have hl := schedTo_len ws h k
  rw [List.set_append_right _ _ (by omega), show 16 + k - (schedTo ws k).length = 0 by omega]
  rw [show 48 - k = (48 - (k + 1)) + 1 by omega, List.replicate_succ, List.set_cons_zero]
  simp [schedTo]
/-- W0 to W63 -/
def sched (ws : List (BitVec 32)) : List (BitVec 32) := schedTo ws 48
theorem sched_len (ws : List (BitVec 32)) (h : ws.length = 16) : (sched ws).length = 64 := by
  unfold sched; rw [schedTo_len ws h]
theorem schedPad_all (ws : List (BitVec 32)) : schedPad ws 48 = sched ws := by simp [schedPad, sched]
theorem zeros64 : (#[.int .u32 0, .int .u32 0, .int .u32 0, .int .u32 0, .int .u32 0, .int .u32 0, .int .u32 0, .int .u32 0, .int .u32 0, .int .u32 0, .int .u32 0, .int .u32 0, .int .u32 0, .int .u32 0, .int .u32 0, .int .u32 0, .int .u32 0, .int .u32 0, .int .u32 0, .int .u32 0, .int .u32 0, .int .u32 0, .int .u32 0, .int .u32 0, .int .u32 0, .int .u32 0, .int .u32 0, .int .u32 0, .int .u32 0, .int .u32 0, .int .u32 0, .int .u32 0, .int .u32 0, .int .u32 0, .int .u32 0, .int .u32 0, .int .u32 0, .int .u32 0, .int .u32 0, .int .u32 0, .int .u32 0, .int .u32 0, .int .u32 0, .int .u32 0, .int .u32 0, .int .u32 0, .int .u32 0, .int .u32 0, .int .u32 0, .int .u32 0, .int .u32 0, .int .u32 0, .int .u32 0, .int .u32 0, .int .u32 0, .int .u32 0, .int .u32 0, .int .u32 0, .int .u32 0, .int .u32 0, .int .u32 0, .int .u32 0, .int .u32 0, .int .u32 0] : Array Value) = wcells (List.replicate 64 0) := by
  simp [wcells, wi, List.replicate]
/-- K0 to K63, H0 to H7 -/
def K64 : List (BitVec 32) := [1116352408, 1899447441, 3049323471, 3921009573, 961987163, 1508970993, 2453635748, 2870763221, 3624381080, 310598401, 607225278, 1426881987, 1925078388, 2162078206, 2614888103, 3248222580, 3835390401, 4022224774, 264347078, 604807628, 770255983, 1249150122, 1555081692, 1996064986, 2554220882, 2821834349, 2952996808, 3210313671, 3336571891, 3584528711, 113926993, 338241895, 666307205, 773529912, 1294757372, 1396182291, 1695183700, 1986661051, 2177026350, 2456956037, 2730485921, 2820302411, 3259730800, 3345764771, 3516065817, 3600352804, 4094571909, 275423344, 430227734, 506948616, 659060556, 883997877, 958139571, 1322822218, 1537002063, 1747873779, 1955562222, 2024104815, 2227730452, 2361852424, 2428436474, 2756734187, 3204031479, 3329325298]
def H8 : List (BitVec 32) := [1779033703, 3144134277, 1013904242, 2773480762, 1359893119, 2600822924, 528734635, 1541459225]
/-- the eight words of a round -/
structure V8 where
  a : BitVec 32
  b : BitVec 32
  c : BitVec 32
  d : BitVec 32
  e : BitVec 32
  f : BitVec 32
  g : BitVec 32
  h : BitVec 32
def V8.list (v : V8) : List (BitVec 32) := [v.a, v.b, v.c, v.d, v.e, v.f, v.g, v.h]
def V8.of (l : List (BitVec 32)) : V8 := ⟨wAt l 0, wAt l 1, wAt l 2, wAt l 3, wAt l 4, wAt l 5, wAt l 6, wAt l 7⟩
def t1Of (v : V8) (K W : BitVec 32) : BitVec 32 := v.h + (rotr v.e 6 ^^^ rotr v.e 11 ^^^ rotr v.e 25) + (v.e &&& v.f ^^^ ~~~v.e &&& v.g) + K + W
def t2Of (v : V8) : BitVec 32 := (rotr v.a 2 ^^^ rotr v.a 13 ^^^ rotr v.a 22) + (v.a &&& v.b ^^^ v.a &&& v.c ^^^ v.b &&& v.c)
def step8 (v : V8) (K W : BitVec 32) : V8 := ⟨t1Of v K W + t2Of v, v.a, v.b, v.c, v.d + t1Of v K W, v.e, v.f, v.g⟩
def runTo (v : V8) (ws : List (BitVec 32)) : Nat → V8
  | 0 => v
  | t + 1 => step8 (runTo v ws t) (wAt K64 t) (wAt ws t)
/-- the chaining values after a block of sixteen words -/
def mixW (hs ws : List (BitVec 32)) : List (BitVec 32) := List.zipWith (· + ·) hs (runTo (V8.of hs) (sched ws) 64).list
theorem zeros8 : (#[.int .u32 0, .int .u32 0, .int .u32 0, .int .u32 0, .int .u32 0, .int .u32 0, .int .u32 0, .int .u32 0] : Array Value) = wcells (List.replicate 8 0) := by
  simp [wcells, wi, List.replicate]
/-- the program's tables, where the program keeps them -/
def Tabs (w : World) : Prop := (∀ i, i < 64 → w.cell? ⟨1, i, none⟩ = some (.int .u32 (wi (wAt K64 i)))) ∧ (∀ i, i < 8 → w.cell? ⟨0, i, none⟩ = some (.int .u32 (wi (wAt H8 i)))) ∧ 2 ≤ w.heap.size
theorem Tabs.below {w w' : World} (h : Tabs w) {B : Nat} (hb : Below B w w') (hB : 2 ≤ B) : Tabs w' :=
  ⟨fun i hi => (hb.cell (p := ⟨1, i, none⟩) (by simp; omega)).trans (h.1 i hi), fun i hi => (hb.cell (p := ⟨0, i, none⟩) (by simp; omega)).trans (h.2.1 i hi), by have := hb.size; have := h.2.2; omega⟩
/-- the first j sums, the others as they were -/
def addTo (hs vs : List (BitVec 32)) (j : Nat) : List (BitVec 32) := (List.zipWith (· + ·) hs vs).take j ++ hs.drop j
theorem addTo_len (hs vs : List (BitVec 32)) (h : hs.length = 8) (h2 : vs.length = 8) (j : Nat) (hj : j ≤ 8) : (addTo hs vs j).length = 8 := by
  simp [addTo, h, h2]; omega
theorem addTo_at (hs vs : List (BitVec 32)) (h : hs.length = 8) (h2 : vs.length = 8) (j : Nat) (hj : j < 8) : wAt (addTo hs vs j) j = wAt hs j := by
  unfold wAt addTo
  rw [List.getD_eq_getElem?_getD, List.getD_eq_getElem?_getD, List.getElem?_append_right (by simp [h, h2]; omega)]
  simp [h, h2]
  rw [show j + (j - min j 8) = j by omega]
theorem addTo_set (hs vs : List (BitVec 32)) (h : hs.length = 8) (h2 : vs.length = 8) (j : Nat) (hj : j < 8) :
    (addTo hs vs j).set j (wAt hs j + wAt vs j) = addTo hs vs (j + 1) := by
  have hl : ((List.zipWith (· + ·) hs vs).take j).length = j := by simp [h, h2]; omega
  unfold addTo
  rw [List.set_append_right _ _ (by omega), hl, Nat.sub_self, List.take_succ_eq_append_getElem (by simp [h, h2]; omega), List.drop_eq_getElem_cons (by omega : j < hs.length), List.set_cons_zero]
  simp [wAt, h, h2, hj]
theorem addTo_zero (hs vs : List (BitVec 32)) : addTo hs vs 0 = hs := by simp [addTo]
theorem addTo_all (hs vs : List (BitVec 32)) (h : hs.length = 8) (h2 : vs.length = 8) : addTo hs vs 8 = List.zipWith (· + ·) hs vs := by
  simp [addTo, h, h2, List.take_of_length_le, List.drop_of_length_le]
/-- the low byte of a word -/
def low8 (x : BitVec 32) : UInt8 := UInt8.ofNat x.toNat
theorem wrap8_wi (x : BitVec 32) : IntKind.u8.wrap (wi x) = bi (low8 x) := by
  rw [IntKind.wrap_u8]; unfold bi wi low8; simp
theorem mod8_wi (x : BitVec 32) : wi x % (256 : Int) = bi (low8 x) := (IntKind.wrap_u8 _).symm.trans (wrap8_wi x)
attribute [go_sem] wrap8_wi mod8_wi
/-- byte i of the chaining values -/
def joinAt (hs : List (BitVec 32)) (i : Nat) : UInt8 := low8 (wAt hs (i / 4) >>> (24 - i % 4 * 8))
def joinB (hs : List (BitVec 32)) : List UInt8 := (List.range 32).map (joinAt hs)
theorem joinB_len (hs : List (BitVec 32)) : (joinB hs).length = 32 := by simp [joinB]
def firstB (f : Nat → UInt8) (n k : Nat) : List UInt8 := (List.range n).map fun i => if i < k then f i else 0
theorem firstB_len (f : Nat → UInt8) (n k : Nat) : (firstB f n k).length = n := by simp [firstB]
theorem firstB_set (f : Nat → UInt8) (n k : Nat) : (firstB f n k).set k (f k) = firstB f n (k + 1) := by
  apply List.ext_getElem?
  intro i
  simp only [firstB, List.getElem?_set, List.getElem?_map, List.getElem?_range, List.length_map, List.length_range]
  by_cases h : k = i
  · subst h
    by_cases h2 : k < n <;> simp [h2]
  · simp only [h, if_false]
    by_cases h2 : i < n
    · have : (i < k + 1) = (i < k) := by apply propext; omega
      simp [h2, this]
    · simp [h2]
theorem firstB_zero (f : Nat → UInt8) (n : Nat) : firstB f n 0 = List.replicate n 0 := by
  simp [firstB, List.map_const']
theorem firstB_all (f : Nat → UInt8) (n : Nat) : firstB f n n = (List.range n).map f := by
  apply List.map_congr_left
  intro i hi
  have := List.mem_range.1 hi
  simp [this]
theorem zeros32 : (#[.int .u8 0, .int .u8 0, .int .u8 0, .int .u8 0, .int .u8 0, .int .u8 0, .int .u8 0, .int .u8 0, .int .u8 0, .int .u8 0, .int .u8 0, .int .u8 0, .int .u8 0, .int .u8 0, .int .u8 0, .int .u8 0, .int .u8 0, .int .u8 0, .int .u8 0, .int .u8 0, .int .u8 0, .int .u8 0, .int .u8 0, .int .u8 0, .int .u8 0, .int .u8 0, .int .u8 0, .int .u8 0, .int .u8 0, .int .u8 0, .int .u8 0, .int .u8 0] : Array Value) = bcells (List.replicate 32 0) := by
  simp [bcells, bi, List.replicate]
/-- how the walk writes operations on words -/
theorem wrap_bi (x : UInt8) : IntKind.u32.wrap (bi x) = wi (byteW x) := by
  rw [IntKind.wrap_u32]; unfold bi wi byteW; have := x.toNat_lt; simp; omega
theorem shl_lit (a : BitVec 32) (n : Nat) (c : Int) (h : c = 2 ^ n) : IntKind.u32.wrap (wi a * c) = wi (a <<< n) := by rw [h, wi_shl]
theorem shr_lit (a : BitVec 32) (n : Nat) (c : Int) (h : c = 2 ^ n) : wi a / c = wi (a >>> n) := by rw [h, wi_shr]
theorem shl24 (a : BitVec 32) : IntKind.u32.wrap (wi a * (16777216 : Int)) = wi (a <<< 24) := shl_lit a 24 _ (by decide)
theorem shl16 (a : BitVec 32) : IntKind.u32.wrap (wi a * (65536 : Int)) = wi (a <<< 16) := shl_lit a 16 _ (by decide)
theorem shl8 (a : BitVec 32) : IntKind.u32.wrap (wi a * (256 : Int)) = wi (a <<< 8) := shl_lit a 8 _ (by decide)
theorem shr3 (a : BitVec 32) : wi a / (8 : Int) = wi (a >>> 3) := shr_lit a 3 _ (by decide)
theorem shr10 (a : BitVec 32) : wi a / (1024 : Int) = wi (a >>> 10) := shr_lit a 10 _ (by decide)
theorem shr8 (a : BitVec 32) : wi a / (256 : Int) = wi (a >>> 8) := shr_lit a 8 _ (by decide)
theorem shr16 (a : BitVec 32) : wi a / (65536 : Int) = wi (a >>> 16) := shr_lit a 16 _ (by decide)
theorem shr24 (a : BitVec 32) : wi a / (16777216 : Int) = wi (a >>> 24) := shr_lit a 24 _ (by decide)
theorem shl24m (a : BitVec 32) : (wi a * (16777216 : Int)) % (4294967296 : Int) = wi (a <<< 24) := (IntKind.wrap_u32 _).symm.trans (shl24 a)
theorem shl16m (a : BitVec 32) : (wi a * (65536 : Int)) % (4294967296 : Int) = wi (a <<< 16) := (IntKind.wrap_u32 _).symm.trans (shl16 a)
theorem shl8m (a : BitVec 32) : (wi a * (256 : Int)) % (4294967296 : Int) = wi (a <<< 8) := (IntKind.wrap_u32 _).symm.trans (shl8 a)
theorem wi_addm2 (a b : BitVec 32) : (wi a + wi b) % (4294967296 : Int) = wi (a + b) := (IntKind.wrap_u32 _).symm.trans (wi_add a b)
theorem wi_addm3 (a b c : BitVec 32) : (wi a + wi b + wi c) % (4294967296 : Int) = wi (a + b + c) := by
  rw [← wi_addm2, ← wi_addm2, Int.emod_add_emod]
theorem wi_addm4 (a b c d : BitVec 32) : (wi a + wi b + wi c + wi d) % (4294967296 : Int) = wi (a + b + c + d) := by
  rw [← wi_addm2, ← wi_addm3, Int.emod_add_emod]
theorem wi_addm5 (a b c d e : BitVec 32) : (wi a + wi b + wi c + wi d + wi e) % (4294967296 : Int) = wi (a + b + c + d + e) := by
  rw [← wi_addm2, ← wi_addm4, Int.emod_add_emod]
theorem wi_not (a : BitVec 32) : bits .xor .u32 (if IntKind.u32.signed = true then -1 else IntKind.u32.max) (wi a) = wi (~~~a) := by
  have h : (if IntKind.u32.signed = true then -1 else IntKind.u32.max) = wi (BitVec.allOnes 32) := by decide
  rw [h, wi_xor, BitVec.allOnes_xor]
attribute [go_sem] wi_not
attribute [go_sem] wi_addm2 wi_addm3 wi_addm4 wi_addm5
attribute [go_sem] wrap_bi shl24 shl16 shl8 shl24m shl16m shl8m shr3 shr10 shr8 shr16 shr24 wi_or wi_and wi_xor wi_add
/-- a sum that does not wrap -/
theorem i64_id (n : Int) (h0 : -9223372036854775808 ≤ n) (h1 : n ≤ 9223372036854775807) : IntKind.i64.wrap n = n := by
  rw [IntKind.wrap_i64]; omega
end Go.Proofs.YthffegfcgmhppaaDoor.Dg
namespace Go.Proofs.YthffegfcgmhppaaDoor.Dg
set_option maxRecDepth 100000
open Go.RowKit
theorem ret_u32 {a b : Int} (h : a = b) : Ending.returned (.int .u32 a) = .returned (.int .u32 b) := by rw [h]
theorem rotl_end (x : BitVec 32) (n : Nat) :
    bits .or .u32 (wi x * 2 ^ (32 - n) % 4294967296) (wi x / 2 ^ n) = wi (rotr x n) := by
  rw [wi_shlm, wi_shr, wi_or]
  unfold rotr
  rw [BitVec.or_comm]
set_option maxHeartbeats 400000 in
theorem rl_any (x : BitVec 32) (n : Nat) (w : World) (h0 : 0 < n) (h1 : n < 32) :
    Calls Tryd.prog 69 #[.int .u32 (wi x), .int .i64 (-(n : Int))] w fun e w' => e = .returned (.int .u32 (wi (rotr x n))) ∧ w = w' := by
  have hm := mask31 n h0 h1
  have hs : IntKind.u64.wrap (32 - ((32 - n : Nat) : Int)) = (n : Int) := by rw [IntKind.wrap_u64]; omega
  have hx := wi_nonneg x
  have hx2 := wi_lt x
  go_enter Tryd.func69, Tryd.ntmps69
  go_wp2
  go_ret
  exact ⟨ret_u32 (rotl_end x n), rfl⟩
set_option maxHeartbeats 400000 in
theorem rot_any (x : BitVec 32) (k : Int) (w : World) (h0 : 0 < k) (h1 : k < 32) :
    Calls Tryd.prog 68 #[.int .u32 (wi x), .int .i64 k] w fun e w' => e = .returned (.int .u32 (wi (rotr x k.toNat))) ∧ w = w' := by
  obtain ⟨n, rfl⟩ := Int.eq_ofNat_of_zero_le (Int.le_of_lt h0)
  rw [Int.toNat_natCast]
  go_enter Tryd.func68, Tryd.ntmps68
  go_wp2_with (go_at_call 69; refine (rl_any _ _ _ (by omega) (by omega)).mono ?_; rintro e w' ⟨rfl, rfl⟩)
  go_ret
  exact ⟨rfl, rfl⟩
theorem refrot_end (x : BitVec 32) (n : Nat) :
    bits .or .u32 (wi x / 2 ^ n) (wi x * 2 ^ (32 - n) % 4294967296) = wi (rotr x n) := by
  rw [wi_shlm, wi_shr, wi_or]
  rfl
theorem rot_still (x : BitVec 32) (k : Int) (w : World) (h0 : 0 < k) (h1 : k < 32) :
    Calls Tryd.prog 68 #[.int .u32 (wi x), .int .i64 k] w fun e w' => e = .returned (.int .u32 (wi (rotr x k.toNat))) ∧ w' = w :=
  (rot_any x k w h0 h1).mono fun _ _ h => ⟨h.1, h.2.symm⟩
end Go.Proofs.YthffegfcgmhppaaDoor.Dg
namespace Go.Proofs.YthffegfcgmhppaaDoor.Dg
set_option maxRecDepth 100000
open Go.RowKit
theorem zeros16 : (#[.int .u32 0, .int .u32 0, .int .u32 0, .int .u32 0, .int .u32 0, .int .u32 0, .int .u32 0, .int .u32 0, .int .u32 0, .int .u32 0, .int .u32 0, .int .u32 0, .int .u32 0, .int .u32 0, .int .u32 0, .int .u32 0] : Array Value) = wcells (List.replicate 16 0) := by
  simp [wcells, wi, List.replicate]
set_option maxHeartbeats 400000 in
theorem split_any (b : List UInt8) (w : World) (hb : b.length = 64) :
    Calls Tryd.prog 65 #[.agg (bcells b)] w fun e w' => e = .returned (.agg (wcells (wordsOf b))) ∧ Below w.heap.size w w' := by
  go_enter Tryd.func65, Tryd.ntmps65
  go_wp2
  rw [zeros16]
  go_loopw [4, 5] (fun _ i wr => ∃ k : Nat, k ≤ 16 ∧ i = .int .i64 k ∧ wr.heap[w.heap.size]? = some (.cells (bcells b) 75 (0, 0)) ∧
      wr.heap[w.heap.size + 1]? = some (.cells (wcells (List.replicate 16 0)) 117 (0, 0)) ∧ wr.heap[w.heap.size + 2]? = some (.cells (wcells (firstW (wordAt b) 16 k)) 117 (0, 0)) ∧ Below w.heap.size w wr)
    (fun _ i _ => 16 - (intOf i).toNat)
  case atStart =>
    refine ⟨0, by omega, rfl, ?_, ?_, ?_, ?_⟩
    · exact heap_old (heap_old (heap_new rfl))
    · exact heap_old (heap_new (by simp only [size_alloc1]))
    · rw [firstW_zero]; exact heap_new (by simp only [size_alloc1])
    · exact (((Below.refl _ _).alloc (Nat.le_refl _) _).alloc (by simp) _).alloc (by simp; omega) _
  case round =>
    obtain ⟨k, hk, rfl, hB0, hB1, hB2, hbel⟩ := hrel
    by_cases hlt : k < 16
    · have c0 := cell_bytes hB0 (4 * k) (by omega)
      have c1 := cell_bytes hB0 (4 * k + 1) (by omega)
      have c2 := cell_bytes hB0 (4 * k + 2) (by omega)
      have c3 := cell_bytes hB0 (4 * k + 3) (by omega)
      have c4 := cell_words hB2 k (by rw [firstW_len]; omega)
      have f4 := frozen_of_row wr (w.heap.size + 2) k _ _ hB2
      have HB2 := Lib.hid hB2
      have HB1 := Lib.hid hB1
      have HB0 := Lib.hid hB0
      have HB := Lib.hid hbel
      have Hb := Lib.hid hb
      clear hB2 hB1 hB0 hbel hb
      go_wp2
      have e0 : IntKind.i64.wrap (4 * (k : Int)) = 4 * (k : Int) := i64_id _ (by omega) (by omega)
      have e1 : IntKind.i64.wrap (4 * (k : Int) + 1) = 4 * (k : Int) + 1 := i64_id _ (by omega) (by omega)
      have e2 : IntKind.i64.wrap (4 * (k : Int) + 2) = 4 * (k : Int) + 2 := i64_id _ (by omega) (by omega)
      have e3 : IntKind.i64.wrap (4 * (k : Int) + 3) = 4 * (k : Int) + 3 := i64_id _ (by omega) (by omega)
      have n0 : (4 * (k : Int)).toNat = 4 * k := by omega
      have n1 : (4 * (k : Int) + 1).toNat = 4 * k + 1 := by omega
      have n2 : (4 * (k : Int) + 2).toNat = 4 * k + 2 := by omega
      have n3 : (4 * (k : Int) + 3).toNat = 4 * k + 3 := by omega
      have p0 : 0 ≤ 4 * (k : Int) := by omega
      have p1 : 0 ≤ 4 * (k : Int) + 1 := by omega
      have p2 : 0 ≤ 4 * (k : Int) + 2 := by omega
      have p3 : 0 ≤ 4 * (k : Int) + 3 := by omega
      have q0 : 4 * (k : Int) < 64 := by omega
      have q1 : 4 * (k : Int) + 1 < 64 := by omega
      have q2 : 4 * (k : Int) + 2 < 64 := by omega
      have q3 : 4 * (k : Int) + 3 < 64 := by omega
      go_still_tail 31, (by kernel_rfl)
      change wpList _ _ _ _ _ wr.drew
      go_wp2
      go_roundw
      case rel =>
        refine ⟨k + 1, by omega, by go_num, ?_, ?_, ?_, ?_⟩
        · exact (heap_setCell_other _ _ _ _ (by simp only; omega)).trans HB0.out
        · exact (heap_setCell_other _ _ _ _ (by simp only; omega)).trans HB1.out
        · rw [heap_drew]
          refine (heap_setCell_same _ _ _ _ _ _ HB2.out).trans ?_
          rw [wcells_set, ← firstW_set]; rfl
        · exact ((HB.out).setCell (by simp only; omega) _).drew
      case measure => simp [intOf]; omega
    · obtain rfl : k = 16 := by omega
      have HB := Lib.hid hbel
      clear hbel
      go_wp2_with (first | (refine wpList_load_row rfl 117 _ rfl (w.heap.size + 2) rfl 117 _ (0, 0) _ hB2 Tryd.underlying117 rfl (by rw [wcells_size, firstW_len]; exact size16w) ?_) | (refine wpList_store_row rfl 117 _ _ rfl (w.heap.size + 1) _ rfl rfl 117 _ hB1 (by rw [wcells_size, firstW_len]; exact size16w) (by simp only [wcells_size, firstW_len, List.length_replicate]) (wcells_one _) ?_))
      refine bodyPost_ret (v := .agg (wcells (firstW (wordAt b) 16 16))) ?_ rfl ⟨by rw [firstW_all]; rfl, Below_setRow HB.out (by omega) _⟩
      exact results_cell_row rfl _ _ (w.heap.size + 1) 117 _ (0, 0) _ rfl (setRow_heap _ _ _ _ _ _ hB1) Tryd.underlying117 rfl (by rw [wcells_size, firstW_len]; exact size16w)
end Go.Proofs.YthffegfcgmhppaaDoor.Dg
namespace Go.Proofs.YthffegfcgmhppaaDoor.Dg
set_option maxRecDepth 100000
open Go.RowKit
theorem size30 : (Tryd.prog.info? 92).map (·.size) = some 1 := by kernel_rfl
set_option maxHeartbeats 400000 in
theorem sched_any (ws : List (BitVec 32)) (w : World) (hb : ws.length = 16) :
    Calls Tryd.prog 67 #[.agg (wcells ws)] w fun e w' => e = .returned (.agg (wcells (sched ws))) ∧ Below w.heap.size w w' := by
  go_enter Tryd.func67, Tryd.ntmps67
  go_wp2
  rw [zeros64]
  have h0 : (((w.alloc (.cells (wcells ws) 117)).alloc (.cells (wcells (List.replicate 64 0)) 119)).alloc (.cells (wcells (List.replicate 64 0)) 119)).heap[w.heap.size]? = some (.cells (wcells ws) 117 (0, 0)) := heap_old (heap_old (heap_new rfl))
  have h1 : (((w.alloc (.cells (wcells ws) 117)).alloc (.cells (wcells (List.replicate 64 0)) 119)).alloc (.cells (wcells (List.replicate 64 0)) 119)).heap[w.heap.size + 1]? = some (.cells (wcells (List.replicate 64 0)) 119 (0, 0)) := heap_old (heap_new (by simp only [size_alloc1]))
  have h2 : (((w.alloc (.cells (wcells ws) 117)).alloc (.cells (wcells (List.replicate 64 0)) 119)).alloc (.cells (wcells (List.replicate 64 0)) 119)).heap[w.heap.size + 2]? = some (.cells (wcells (List.replicate 64 0)) 119 (0, 0)) := heap_new (by simp only [size_alloc1])
  have hbel : Below w.heap.size w (((w.alloc (.cells (wcells ws) 117)).alloc (.cells (wcells (List.replicate 64 0)) 119)).alloc (.cells (wcells (List.replicate 64 0)) 119)) := (((Below.refl _ _).alloc (Nat.le_refl _) _).alloc (by simp) _).alloc (by simp; omega) _
  generalize (((w.alloc (.cells (wcells ws) 117)).alloc (.cells (wcells (List.replicate 64 0)) 119)).alloc (.cells (wcells (List.replicate 64 0)) 119)) = w1 at *
  have H0 := Lib.hid h0
  have H1 := Lib.hid h1
  have H2 := Lib.hid h2
  have HB := Lib.hid hbel
  have Hl := Lib.hid hb
  clear h0 h1 h2 hbel hb
  go_still_tail 2, (by kernel_rfl)
  change wpList _ _ _ _ _ w1.drew
  refine wpList_copy_own rfl _ _ 122 122 rfl 92 Tryd.underlying122 size30 (w.heap.size + 2) 0 64 64 ⟨w.heap.size, 0, none⟩ 16 16 rfl rfl _ _ H2.out (wcells ws).toList ?_ ?_ ?_ ?_ ?_
  · simp [wcells_size, Hl.out]
  · intro j v hv
    have : j < 16 := by
      have := (List.getElem?_eq_some_iff.1 hv).1; simpa [wcells_size, Hl.out] using this
    rw [show (⟨w.heap.size, 0, none⟩ : Addr).add j = ⟨w.heap.size, j, none⟩ by unfold Addr.add; split <;> simp_all]
    exact (cell_of_row w1 _ j _ _ _ H0.out).trans (by simpa using hv)
  · simp [wcells_size, Hl.out]
  · intro v hv; exact (Array.all_eq_true_iff_forall_mem.1 (wcells_one ws)) v (by simpa using hv)
  have e2 : ((wcells (List.replicate 64 0)).toList.take 0 ++ ((wcells ws).toList ++ (wcells (List.replicate 64 0)).toList.drop (0 + (wcells ws).toList.length))).toArray = wcells (schedPad ws 0) := by
    simp [wcells, schedPad, schedTo, Hl.out]
  rw [e2]
  have h0 : (w1.drew.setRow (w.heap.size + 2) (wcells (schedPad ws 0))).heap[w.heap.size]? = some (.cells (wcells ws) 117 (0, 0)) := (setRow_other _ _ _ _ (by omega)).trans H0.out
  have h1 : (w1.drew.setRow (w.heap.size + 2) (wcells (schedPad ws 0))).heap[w.heap.size + 1]? = some (.cells (wcells (List.replicate 64 0)) 119 (0, 0)) := (setRow_other _ _ _ _ (by omega)).trans H1.out
  have h2 : (w1.drew.setRow (w.heap.size + 2) (wcells (schedPad ws 0))).heap[w.heap.size + 2]? = some (.cells (wcells (schedPad ws 0)) 119 (0, 0)) := setRow_heap _ _ _ _ _ _ H2.out
  have hbel : Below w.heap.size w (w1.drew.setRow (w.heap.size + 2) (wcells (schedPad ws 0))) := Below_setRow HB.out.drew (by omega) _
  generalize w1.drew.setRow (w.heap.size + 2) (wcells (schedPad ws 0)) = w2 at *
  clear H0 H1 H2 HB e2
  have H0 := Lib.hid h0
  have H1 := Lib.hid h1
  have H2 := Lib.hid h2
  have HB := Lib.hid hbel
  clear h0 h1 h2 hbel
  go_wp2
  go_loopw [4, 5, 6] (fun i _ _ wr => ∃ k : Nat, k ≤ 48 ∧ i = .int .i64 (16 + k : Nat) ∧ 
      wr.heap[w.heap.size + 1]? = some (.cells (wcells (List.replicate 64 0)) 119 (0, 0)) ∧ wr.heap[w.heap.size + 2]? = some (.cells (wcells (schedPad ws k)) 119 (0, 0)) ∧ Below w.heap.size w wr)
    (fun i _ _ _ => 64 - (intOf i).toNat)
  case atStart => exact ⟨0, by omega, rfl, H1.out, H2.out, HB.out⟩
  case round =>
    clear H1 H2 HB
    obtain ⟨k, hk, rfl, hB1, hB2, hbel⟩ := hrel
    have hp := schedPad_len ws Hl.out k hk
    by_cases hlt : k < 48
    · have c15 := cell_words hB2 (16 + k - 15) (by rw [hp]; omega)
      have c2 := cell_words hB2 (16 + k - 2) (by rw [hp]; omega)
      rw [schedPad_at ws Hl.out k _ (by omega)] at c15 c2
      have HB2 := Lib.hid hB2
      have HB1 := Lib.hid hB1
      have HB := Lib.hid hbel
      have Hp := Lib.hid hp
      clear hB2 hB1 hbel hp
      generalize ht : 16 + k = t at *
      have Ht := Lib.hid ht
      have ht0 : 16 ≤ t := by omega
      have ht1 : t < 64 := by omega
      clear ht
      have e15 : IntKind.i64.wrap ((t : Int) - 15) = (t : Int) - 15 := i64_id _ (by omega) (by omega)
      have e2 : IntKind.i64.wrap ((t : Int) - 2) = (t : Int) - 2 := i64_id _ (by omega) (by omega)
      have e16 : IntKind.i64.wrap ((t : Int) - 16) = (t : Int) - 16 := i64_id _ (by omega) (by omega)
      have e7 : IntKind.i64.wrap ((t : Int) - 7) = (t : Int) - 7 := i64_id _ (by omega) (by omega)
      have n15 : ((t : Int) - 15).toNat = t - 15 := by omega
      have n2 : ((t : Int) - 2).toNat = t - 2 := by omega
      have n16 : ((t : Int) - 16).toNat = t - 16 := by omega
      have n7 : ((t : Int) - 7).toNat = t - 7 := by omega
      have p15 : 15 ≤ (t : Int) := by omega
      have p2 : 2 ≤ (t : Int) := by omega
      have p16 : 16 ≤ (t : Int) := by omega
      have p7 : 7 ≤ (t : Int) := by omega
      have q15 : (t : Int) - 15 < 64 := by omega
      have q2 : (t : Int) - 2 < 64 := by omega
      have q16 : (t : Int) - 16 < 64 := by omega
      have q7 : (t : Int) - 7 < 64 := by omega
      go_wp2
      go_quiet (fail)
      go_wp2
      have HB2d : Hid ((wr.drewN nq).heap[w.heap.size + 2]? = some (.cells (wcells (schedPad ws k)) 119 (0, 0))) := Lib.hid HB2.out
      have HB1d : Hid ((wr.drewN nq).heap[w.heap.size + 1]? = some (.cells (wcells (List.replicate 64 0)) 119 (0, 0))) := Lib.hid HB1.out
      have HBd : Hid (Below w.heap.size w (wr.drewN nq)) := Lib.hid (below_drewN HB.out _)
      clear HB2 HB1 HB c15 c2
      generalize wr.drewN nq = wd at *
      have c16 := cell_words HB2d.out (t - 16) (by rw [Hp.out]; omega)
      have c7 := cell_words HB2d.out (t - 7) (by rw [Hp.out]; omega)
      have c0 := cell_words HB2d.out t (by rw [Hp.out]; omega)
      have f0 := frozen_of_row wd (w.heap.size + 2) t _ _ HB2d.out
      rw [schedPad_at ws Hl.out k _ (by have := Ht.out; omega)] at c16 c7
      go_still_tail 29, (by kernel_rfl)
      still_call (rot_still _ _ _ (by decide) (by decide))
      repeat still_step
      still_call (rot_still _ _ _ (by decide) (by decide))
      repeat still_step
      still_call (rot_still _ _ _ (by decide) (by decide))
      repeat still_step
      still_call (rot_still _ _ _ (by decide) (by decide))
      repeat still_step
      refine wpStill_nil ?_
      change wpList _ _ _ _ _ wd.drew
      go_wp2
      go_roundw
      case rel =>
        refine ⟨k + 1, by omega, by have := Ht.out; simp only [Value.int.injEq, true_and]; omega, ?_, ?_, ?_⟩
        · exact (heap_setCell_other _ _ _ _ (by simp only; omega)).trans HB1d.out
        · rw [heap_drew]
          refine (heap_setCell_same _ _ _ _ _ _ HB2d.out).trans ?_
          rw [wcells_set]
          have := Ht.out
          subst this
          exact congrArg (fun l => some (Obj.cells (wcells l) 119 (0, 0))) (schedPad_next ws Hl.out k (by omega) _ rfl)
        · exact ((HBd.out).setCell (by simp only; omega) _).drew
      case measure => simp [intOf]; omega
    · obtain rfl : k = 48 := by omega
      have HB := Lib.hid hbel
      clear hbel
      go_wp2_with (first | (refine wpList_load_row rfl 119 _ rfl (w.heap.size + 2) rfl 119 _ (0, 0) _ hB2 Tryd.underlying119 rfl (by rw [wcells_size, hp]; exact size64w) ?_) | (refine wpList_store_row rfl 119 _ _ rfl (w.heap.size + 1) _ rfl rfl 119 _ hB1 (by rw [wcells_size, hp]; exact size64w) (by simp only [wcells_size, hp, List.length_replicate]) (wcells_one _) ?_))
      refine bodyPost_ret (v := .agg (wcells (schedPad ws 48))) ?_ rfl ⟨by rw [schedPad_all], Below_setRow HB.out (by omega) _⟩
      exact results_cell_row rfl _ _ (w.heap.size + 1) 119 _ (0, 0) _ rfl (setRow_heap _ _ _ _ _ _ hB1) Tryd.underlying119 rfl (by rw [wcells_size, hp]; exact size64w)
end Go.Proofs.YthffegfcgmhppaaDoor.Dg
namespace Go.Proofs.YthffegfcgmhppaaDoor.Dg
set_option maxRecDepth 100000
open Go.RowKit
theorem info30 : (Tryd.prog.info? 92).map (fun i => (i.zero, i.size, i.bytes)) = some (some (.int .u32 0), 1, 4) := by kernel_rfl
theorem agg30 (w : World) : (isAgg 92).run Tryd.prog w = .ok false w := by kernel_rfl
theorem idx_words (t n : Nat) (h : Tryd.prog.underlying t = some (.array n 92)) (vs : List (BitVec 32)) (j : Nat) (hj : j < n) (hl : vs.length = n) (w : World) :
    (Instr.index t (.agg (wcells vs)) (.int .i64 (j : Int))).run Tryd.prog w = .ok (.int .u32 (wi (wAt vs j))) w := by
  have hg := wcells_get vs j (by omega)
  have hz : (sizeOf 92).run Tryd.prog w = .ok 1 w := by kernel_rfl
  have hw : vs[j]'(by omega) = wAt vs j := by simp [wAt, show j < vs.length by omega]
  rw [hw] at hg
  simp [Instr.index, run_underlying h, asIntOf, part, hj, Sem.run_bind, hz, agg30, Result.andThen, hg, go_sem]
theorem cells8 (v : V8) : (#[.int .u32 (wi v.a), .int .u32 (wi v.b), .int .u32 (wi v.c), .int .u32 (wi v.d), .int .u32 (wi v.e), .int .u32 (wi v.f), .int .u32 (wi v.g), .int .u32 (wi v.h)] : Array Value) = wcells v.list := rfl
set_option maxRecDepth 100000 in
set_option maxHeartbeats 1000000 in
theorem mix_any (hs ws : List (BitVec 32)) (w : World) (hT : Tabs w) (hh : hs.length = 8) (hb : ws.length = 16) :
    Calls Tryd.prog 64 #[.agg (wcells hs), .agg (wcells ws)] w fun e w' => e = .returned (.agg (wcells (mixW hs ws))) ∧ Below w.heap.size w w' := by
  have HT := Lib.hid hT
  have Hl := Lib.hid hb
  have Hh := Lib.hid hh
  have hz := hT.2.2
  clear hT hb hh
  go_enter Tryd.func64, Tryd.ntmps64
  go_upto_region 1 with (fail)
  rw [zeros8]
  have h0 : (((w.alloc (.cells (wcells hs) 93)).alloc (.cells (wcells ws) 117)).alloc (.cells (wcells (List.replicate 8 0)) 93)).heap[w.heap.size]? = some (.cells (wcells hs) 93 (0, 0)) := heap_old (heap_old (heap_new rfl))
  have h1 : (((w.alloc (.cells (wcells hs) 93)).alloc (.cells (wcells ws) 117)).alloc (.cells (wcells (List.replicate 8 0)) 93)).heap[w.heap.size + 1]? = some (.cells (wcells ws) 117 (0, 0)) := heap_old (heap_new (by simp only [size_alloc1]))
  have h2 : (((w.alloc (.cells (wcells hs) 93)).alloc (.cells (wcells ws) 117)).alloc (.cells (wcells (List.replicate 8 0)) 93)).heap[w.heap.size + 2]? = some (.cells (wcells (List.replicate 8 0)) 93 (0, 0)) := heap_new (by simp only [size_alloc1])
  have hs3 : (((w.alloc (.cells (wcells hs) 93)).alloc (.cells (wcells ws) 117)).alloc (.cells (wcells (List.replicate 8 0)) 93)).heap.size = w.heap.size + 3 := by simp only [size_alloc1]
  have hbel : Below w.heap.size w (((w.alloc (.cells (wcells hs) 93)).alloc (.cells (wcells ws) 117)).alloc (.cells (wcells (List.replicate 8 0)) 93)) := (((Below.refl _ _).alloc (Nat.le_refl _) _).alloc (by simp) _).alloc (by simp; omega) _
  generalize (((w.alloc (.cells (wcells hs) 93)).alloc (.cells (wcells ws) 117)).alloc (.cells (wcells (List.replicate 8 0)) 93)) = w3 at *
  have H0 := Lib.hid h0
  have H1 := Lib.hid h1
  have H2 := Lib.hid h2
  have HB := Lib.hid hbel
  have Hs := Lib.hid hs3
  clear h0 h1 h2 hbel hs3
  go_wp2_with (first | (refine wpList_load_row rfl 117 (.tmp 3) rfl (w.heap.size + 1) rfl 117 _ (0, 0) _ H1.out Tryd.underlying117 rfl (by rw [wcells_size, Hl.out]; exact size16w) ?_) | (go_at_call 67; refine (sched_any _ _ Hl.out).mono ?_; rintro e w1 ⟨rfl, hb1⟩; have HB1 := Lib.hid hb1; clear hb1) | (refine wpList_store_row rfl 119 (.tmp 5) (.tmp 20) rfl _ _ rfl rfl 119 _ (heap_new rfl) (by rw [wcells_size, sched_len _ Hl.out]; exact size64w) (by rw [wcells_size, sched_len _ Hl.out]; rfl) (wcells_one _) ?_))
  rw [World.setRow_alloc_new]
  have hz1 : w.heap.size + 3 ≤ w1.heap.size := by have := HB1.out.size; have := Hs.out; omega
  have g0 : (w1.alloc (.cells (wcells (sched ws)) 119)).heap[w.heap.size]? = some (.cells (wcells hs) 93 (0, 0)) := heap_old ((HB1.out.block _ (by have := Hs.out; omega)).trans H0.out)
  have g2 : (w1.alloc (.cells (wcells (sched ws)) 119)).heap[w.heap.size + 2]? = some (.cells (wcells (List.replicate 8 0)) 93 (0, 0)) := heap_old ((HB1.out.block _ (by have := Hs.out; omega)).trans H2.out)
  have g3 : (w1.alloc (.cells (wcells (sched ws)) 119)).heap[w1.heap.size]? = some (.cells (wcells (sched ws)) 119 (0, 0)) := heap_new rfl
  have gb : Below w.heap.size w (w1.alloc (.cells (wcells (sched ws)) 119)) := (HB.out.trans (HB1.out.mono (by have := Hs.out; omega))).alloc (by omega) _
  have gT : Tabs (w1.alloc (.cells (wcells (sched ws)) 119)) := HT.out.below gb hz
  generalize w1.alloc (.cells (wcells (sched ws)) 119) = wm at *
  clear H0 H1 H2 HB1 HB
  have c0 := cell_words g0 0 (by rw [Hh.out]; omega)
  have c1 := cell_words g0 1 (by rw [Hh.out]; omega)
  have c2 := cell_words g0 2 (by rw [Hh.out]; omega)
  have c3 := cell_words g0 3 (by rw [Hh.out]; omega)
  have c4 := cell_words g0 4 (by rw [Hh.out]; omega)
  have c5 := cell_words g0 5 (by rw [Hh.out]; omega)
  have c6 := cell_words g0 6 (by rw [Hh.out]; omega)
  have c7 := cell_words g0 7 (by rw [Hh.out]; omega)
  have G0 := Lib.hid g0
  have G2 := Lib.hid g2
  have G3 := Lib.hid g3
  have GB := Lib.hid gb
  have GT := Lib.hid gT
  clear g0 g2 g3 gb gT
  go_quiet (fail)
  go_wp2
  obtain ⟨Wb, hWb⟩ : ∃ Wb, Wb = w1.heap.size := ⟨_, rfl⟩
  rw [← hWb] at G3 hz1 ⊢
  have HWb := Lib.hid hWb
  clear hWb
  go_loopw [6, 7, 8, 9, 10, 11, 12, 13, 37] (fun a b c d e f g h i wr => ∃ k : Nat, k ≤ 64 ∧ i = .int .i64 k ∧ 
      a = .int .u32 (wi (runTo (V8.of hs) (sched ws) k).a) ∧ b = .int .u32 (wi (runTo (V8.of hs) (sched ws) k).b) ∧ c = .int .u32 (wi (runTo (V8.of hs) (sched ws) k).c) ∧ d = .int .u32 (wi (runTo (V8.of hs) (sched ws) k).d) ∧ 
      e = .int .u32 (wi (runTo (V8.of hs) (sched ws) k).e) ∧ f = .int .u32 (wi (runTo (V8.of hs) (sched ws) k).f) ∧ g = .int .u32 (wi (runTo (V8.of hs) (sched ws) k).g) ∧ h = .int .u32 (wi (runTo (V8.of hs) (sched ws) k).h) ∧ 
      wr.heap[w.heap.size]? = some (.cells (wcells hs) 93 (0, 0)) ∧ wr.heap[w.heap.size + 2]? = some (.cells (wcells (List.replicate 8 0)) 93 (0, 0)) ∧
      wr.heap[Wb]? = some (.cells (wcells (sched ws)) 119 (0, 0)) ∧ Below w.heap.size w wr ∧ Tabs wr)
    (fun _ _ _ _ _ _ _ _ i _ => 64 - (intOf i).toNat)
  case atStart => exact ⟨0, by omega, rfl, rfl, rfl, rfl, rfl, rfl, rfl, rfl, rfl, G0.out, G2.out, G3.out, below_drewN GB.out _, GT.out⟩
  case round =>
    clear G0 G2 G3 GB GT c0 c1 c2 c3 c4 c5 c6 c7
    obtain ⟨k, hk, rfl, rfl, rfl, rfl, rfl, rfl, rfl, rfl, rfl, g0, g2, g3, gb, gT⟩ := hrel
    by_cases hlt : k < 64
    · have cW := cell_words g3 k (by rw [sched_len _ Hl.out]; omega)
      have cK := gT.1 k hlt
      have G0 := Lib.hid g0
      have G2 := Lib.hid g2
      have G3 := Lib.hid g3
      have GB := Lib.hid gb
      have GT := Lib.hid gT
      clear g0 g2 g3 gb gT
      generalize hv : runTo (V8.of hs) (sched ws) k = v at *
      have Hv := Lib.hid hv
      clear hv
      go_wp2
      go_quiet ((go_at_call 68; exact Calls.quiet_of_same (rot_still _ _ _ (by decide) (by decide))))
      go_wp2_with (go_at_call 68; refine (rot_any _ _ _ (by decide) (by decide)).mono ?_; rintro e w' ⟨rfl, rfl⟩)
      go_roundw
      case rel => 
        refine ⟨k + 1, by omega, by go_num, ?_, ?_, ?_, ?_, ?_, ?_, ?_, ?_, G0.out, G2.out, G3.out, below_drewN GB.out _, GT.out⟩
        all_goals
          simp only [runTo]
          rw [Hv.out]
          rfl
      case measure => simp [intOf]; omega
    · obtain rfl : k = 64 := by omega
      have G0 := Lib.hid g0
      have G2 := Lib.hid g2
      have G3 := Lib.hid g3
      have GB := Lib.hid gb
      have GT := Lib.hid gT
      clear g0 g2 g3 gb gT
      generalize hv : runTo (V8.of hs) (sched ws) 64 = v at *
      have Hv := Lib.hid hv
      clear hv
      go_wp2
      rw [cells8]
      obtain ⟨vs, hvs⟩ : ∃ vs, vs = v.list := ⟨_, rfl⟩
      rw [← hvs]
      have Hvl : Hid (vs.length = 8) := Lib.hid (by rw [hvs]; rfl)
      have Hvs := Lib.hid hvs
      clear hvs G3 GT
      go_loopw [17, 18, 109] (fun _ _ i wx => ∃ j : Nat, j ≤ 8 ∧ i = .int .i64 j ∧ wx.heap[w.heap.size]? = some (.cells (wcells (addTo hs vs j)) 93 (0, 0)) ∧
          wx.heap[w.heap.size + 2]? = some (.cells (wcells (List.replicate 8 0)) 93 (0, 0)) ∧ Below w.heap.size w wx)
        (fun _ _ i _ => 8 - (intOf i).toNat)
      case atStart => exact ⟨0, by omega, rfl, by rw [addTo_zero]; exact G0.out, G2.out, GB.out⟩
      case round =>
        clear G0 G2 GB
        obtain ⟨j, hj, rfl, g0, g2, gb⟩ := hrel
        have gl := addTo_len hs vs Hh.out Hvl.out j hj
        by_cases hlj : j < 8
        · have hix := idx_words 93 8 Tryd.underlying93 vs j hlj Hvl.out
          have c0 := cell_words g0 j (by rw [gl]; omega)
          have f0 := frozen_of_row wr w.heap.size j _ _ g0
          rw [addTo_at hs vs Hh.out Hvl.out j hlj] at c0
          have G0 := Lib.hid g0
          have G2 := Lib.hid g2
          have GB := Lib.hid gb
          have Gl := Lib.hid gl
          clear g0 g2 gb gl
          go_wp2
          go_roundw
          case rel =>
            refine ⟨j + 1, by omega, by go_num, ?_, (heap_setCell_other _ _ _ _ (by simp only; omega)).trans G2.out, (GB.out).setCell (by simp only; omega) _⟩
            refine (heap_setCell_same _ _ _ _ _ _ G0.out).trans ?_
            rw [wcells_set]
            exact congrArg (fun l => some (Obj.cells (wcells l) 93 (0, 0))) (addTo_set hs vs Hh.out Hvl.out j hlj)
          case measure => simp [intOf]; omega
        · obtain rfl : j = 8 := by omega
          have GB := Lib.hid gb
          clear gb
          go_wp2_with (first | (refine wpList_load_row rfl 93 (.tmp 2) rfl w.heap.size rfl 93 _ (0, 0) _ g0 Tryd.underlying93 rfl (by rw [wcells_size, gl]; exact size8w) ?_) | (refine wpList_store_row rfl 93 (.tmp 4) (.tmp 120) rfl (w.heap.size + 2) _ rfl rfl 93 _ g2 (by rw [wcells_size, gl]; exact size8w) (by simp only [wcells_size, gl, List.length_replicate]) (wcells_one _) ?_))
          refine bodyPost_ret (v := .agg (wcells (addTo hs vs 8))) ?_ rfl ⟨by rw [addTo_all _ _ Hh.out Hvl.out, Hvs.out, ← Hv.out]; rfl, Below_setRow GB.out (by omega) _⟩
          exact results_cell_row rfl _ _ (w.heap.size + 2) 93 _ (0, 0) _ rfl (setRow_heap _ _ _ _ _ _ g2) Tryd.underlying93 rfl (by rw [wcells_size, gl]; exact size8w)
end Go.Proofs.YthffegfcgmhppaaDoor.Dg
namespace Go.Proofs.YthffegfcgmhppaaDoor.Dg
set_option maxRecDepth 100000
open Go.RowKit
theorem join_at (hs : List (BitVec 32)) (k : Nat) : joinAt hs (4 * k) = low8 (wAt hs k >>> 24) ∧ joinAt hs (4 * k + 1) = low8 (wAt hs k >>> 16) ∧
    joinAt hs (4 * k + 2) = low8 (wAt hs k >>> 8) ∧ joinAt hs (4 * k + 3) = low8 (wAt hs k) := by
  unfold joinAt
  refine ⟨?_, ?_, ?_, ?_⟩
  · rw [show 4 * k / 4 = k by omega, show 4 * k % 4 = 0 by omega]
  · rw [show (4 * k + 1) / 4 = k by omega, show (4 * k + 1) % 4 = 1 by omega]
  · rw [show (4 * k + 2) / 4 = k by omega, show (4 * k + 2) % 4 = 2 by omega]
  · rw [show (4 * k + 3) / 4 = k by omega, show (4 * k + 3) % 4 = 3 by omega]; simp
theorem join_set (hs : List (BitVec 32)) (k : Nat) :
    (((((bcells (firstB (joinAt hs) 32 (4 * k))).setIfInBounds (4 * k) (.int .u8 (bi (low8 (wAt hs k >>> 24))))).setIfInBounds (4 * k + 1) (.int .u8 (bi (low8 (wAt hs k >>> 16))))).setIfInBounds (4 * k + 2) (.int .u8 (bi (low8 (wAt hs k >>> 8))))).setIfInBounds (4 * k + 3) (.int .u8 (bi (low8 (wAt hs k))))) =
      bcells (firstB (joinAt hs) 32 (4 * (k + 1))) := by
  obtain ⟨e0, e1, e2, e3⟩ := join_at hs k
  rw [← e0, ← e1, ← e2, ← e3, bcells_set, firstB_set, bcells_set, firstB_set, bcells_set, firstB_set, bcells_set, firstB_set]
  rfl
set_option maxHeartbeats 400000 in
theorem join_any (hs : List (BitVec 32)) (w : World) (hh : hs.length = 8) :
    Calls Tryd.prog 55 #[.agg (wcells hs)] w fun e w' => e = .returned (.agg (bcells (joinB hs))) ∧ Below w.heap.size w w' := by
  have Hh := Lib.hid hh
  clear hh
  go_enter Tryd.func55, Tryd.ntmps55
  go_upto_region 2 with (fail)
  rw [zeros32]
  have h0 : (((w.alloc (.cells (wcells hs) 93)).alloc (.cells (bcells (List.replicate 32 0)) 51)).alloc (.cells (bcells (List.replicate 32 0)) 51)).heap[w.heap.size]? = some (.cells (wcells hs) 93 (0, 0)) := heap_old (heap_old (heap_new rfl))
  have h1 : (((w.alloc (.cells (wcells hs) 93)).alloc (.cells (bcells (List.replicate 32 0)) 51)).alloc (.cells (bcells (List.replicate 32 0)) 51)).heap[w.heap.size + 1]? = some (.cells (bcells (List.replicate 32 0)) 51 (0, 0)) := heap_old (heap_new (by simp only [size_alloc1]))
  have h2 : (((w.alloc (.cells (wcells hs) 93)).alloc (.cells (bcells (List.replicate 32 0)) 51)).alloc (.cells (bcells (List.replicate 32 0)) 51)).heap[w.heap.size + 2]? = some (.cells (bcells (List.replicate 32 0)) 51 (0, 0)) := heap_new (by simp only [size_alloc1])
  have hbel : Below w.heap.size w (((w.alloc (.cells (wcells hs) 93)).alloc (.cells (bcells (List.replicate 32 0)) 51)).alloc (.cells (bcells (List.replicate 32 0)) 51)) := (((Below.refl _ _).alloc (Nat.le_refl _) _).alloc (by simp) _).alloc (by simp; omega) _
  generalize (((w.alloc (.cells (wcells hs) 93)).alloc (.cells (bcells (List.replicate 32 0)) 51)).alloc (.cells (bcells (List.replicate 32 0)) 51)) = w3 at *
  have H0 := Lib.hid h0
  have H1 := Lib.hid h1
  have H2 := Lib.hid h2
  have HB := Lib.hid hbel
  clear h0 h1 h2 hbel
  go_wp2_with (refine wpList_load_row rfl 93 (.tmp 1) rfl w.heap.size rfl 93 _ (0, 0) _ H0.out Tryd.underlying93 rfl (by rw [wcells_size, Hh.out]; exact size8w) ?_)
  go_loopw [4, 5, 7] (fun _ _ i wr => ∃ k : Nat, k ≤ 8 ∧ i = .int .i64 k ∧ 
      wr.heap[w.heap.size + 1]? = some (.cells (bcells (List.replicate 32 0)) 51 (0, 0)) ∧ wr.heap[w.heap.size + 2]? = some (.cells (bcells (firstB (joinAt hs) 32 (4 * k))) 51 (0, 0)) ∧ Below w.heap.size w wr)
    (fun _ _ i _ => 8 - (intOf i).toNat)
  case atStart => exact ⟨0, by omega, rfl, H1.out, by rw [firstB_zero]; exact H2.out, HB.out⟩
  case round =>
    clear H0 H1 H2 HB
    obtain ⟨k, hk, rfl, h1, h2, hb⟩ := hrel
    by_cases hlt : k < 8
    · have hix := idx_words 93 8 Tryd.underlying93 hs k hlt Hh.out
      have c0 := cell_bytes h2 (4 * k) (by rw [firstB_len]; omega)
      have c1 := cell_bytes h2 (4 * k + 1) (by rw [firstB_len]; omega)
      have c2 := cell_bytes h2 (4 * k + 2) (by rw [firstB_len]; omega)
      have c3 := cell_bytes h2 (4 * k + 3) (by rw [firstB_len]; omega)
      have f0 := frozen_of_row wr (w.heap.size + 2) (4 * k) _ _ h2
      have f1 := frozen_of_row wr (w.heap.size + 2) (4 * k + 1) _ _ h2
      have f2 := frozen_of_row wr (w.heap.size + 2) (4 * k + 2) _ _ h2
      have f3 := frozen_of_row wr (w.heap.size + 2) (4 * k + 3) _ _ h2
      have H1 := Lib.hid h1
      have H2 := Lib.hid h2
      have HB := Lib.hid hb
      clear h1 h2 hb
      have n0 : (4 * (k : Int)).toNat = 4 * k := by omega
      have n1 : (4 * (k : Int) + 1).toNat = 4 * k + 1 := by omega
      have n2 : (4 * (k : Int) + 2).toNat = 4 * k + 2 := by omega
      have n3 : (4 * (k : Int) + 3).toNat = 4 * k + 3 := by omega
      go_wp2
      go_roundw
      case rel =>
        refine ⟨k + 1, by omega, by go_num, ?_, ?_, ?_⟩
        · exact (heap_setCell_other _ _ _ _ (by simp only; omega)).trans ((heap_setCell_other _ _ _ _ (by simp only; omega)).trans ((heap_setCell_other _ _ _ _ (by simp only; omega)).trans ((heap_setCell_other _ _ _ _ (by simp only; omega)).trans H1.out)))
        · rw [← join_set]
          exact heap_setCell_same _ _ _ _ _ _ (heap_setCell_same _ _ _ _ _ _ (heap_setCell_same _ _ _ _ _ _ (heap_setCell_same _ _ _ _ _ _ H2.out)))
        · exact ((((HB.out).setCell (by simp only; omega) _).setCell (by simp only; omega) _).setCell (by simp only; omega) _).setCell (by simp only; omega) _
      case measure => simp [intOf]; omega
    · obtain rfl : k = 8 := by omega
      have HB := Lib.hid hb
      clear hb
      go_wp2_with (first | (refine wpList_load_row rfl 51 (.tmp 3) rfl (w.heap.size + 2) rfl 51 _ (0, 0) _ h2 Tryd.underlying51 rfl (by rw [bcells_size, firstB_len]; exact size32b) ?_) | (refine wpList_store_row rfl 51 (.tmp 2) (.tmp 38) rfl (w.heap.size + 1) _ rfl rfl 51 _ h1 (by rw [bcells_size, firstB_len]; exact size32b) (by simp only [bcells_size, firstB_len, List.length_replicate]) (bcells_one _) ?_))
      refine bodyPost_ret (v := .agg (bcells (firstB (joinAt hs) 32 (4 * 8)))) ?_ rfl ⟨by rw [firstB_all]; rfl, Below_setRow HB.out (by omega) _⟩
      exact results_cell_row rfl _ _ (w.heap.size + 1) 51 _ (0, 0) _ rfl (setRow_heap _ _ _ _ _ _ h1) Tryd.underlying51 rfl (by rw [bcells_size, firstB_len]; exact size32b)
def padI (n r : Int) : Int := (64 + r - n % 64) % 64
theorem padI_bd (n r : Int) : 0 ≤ padI n r ∧ padI n r < 64 := by unfold padI; omega
set_option maxHeartbeats 400000 in
/-- how many bytes must follow -/
theorem padTo_any (n r : Int) (w : World) (h0 : 0 ≤ n) (h1 : n < 4611686018427387904) (h2 : 0 ≤ r) (h3 : r < 64) :
    Calls Tryd.prog 57 #[.int .i64 n, .int .i64 r] w fun e w' => e = .returned (.int .i64 (padI n r)) ∧ w = w' := by
  go_enter Tryd.func57, Tryd.ntmps57
  go_wp2
  go_ret
  exact ⟨rfl, rfl⟩
/-- bytes as values -/
def vals (l : List UInt8) : List Value := l.map fun x => Value.int .u8 (bi x)
theorem vals_len (l : List UInt8) : (vals l).length = l.length := by simp [vals]
theorem vals_app (l m : List UInt8) : vals (l ++ m) = vals l ++ vals m := by simp [vals]
theorem vals_one (l : List UInt8) : ∀ u ∈ vals l, u.oneCell' = true := by simp [vals, Value.oneCell']
theorem vals_arr (l : List UInt8) : (vals l).toArray = bcells l := rfl
theorem vals_get (l : List UInt8) (j : Nat) (u : Value) (h : (vals l)[j]? = some u) : j < l.length ∧ u = .int .u8 (bi (byteAt l j)) := by
  have hl : j < l.length := by have := (List.getElem?_eq_some_iff.1 h).1; simpa [vals] using this
  refine ⟨hl, ?_⟩
  simp [vals, hl] at h
  simp [byteAt, hl, ← h]
theorem info5 : (Tryd.prog.info? 5).map (fun i => (i.zero, i.size, i.bytes)) = some (some (.int .u8 0), 1, 1) := by kernel_rfl
/-- the eight bytes of a number, the most significant one first -/
def be8 (x : Nat) : List UInt8 := (List.range 8).map fun j => UInt8.ofNat (x / 2 ^ (56 - 8 * j))
def padB (n : Nat) : List UInt8 := 128 :: List.replicate (padI (n + 1) 56).toNat 0 ++ be8 (8 * n)
theorem be8_take (x j : Nat) (h : j < 8) : (be8 x).take (j + 1) = (be8 x).take j ++ [UInt8.ofNat (x / 2 ^ (56 - 8 * j))] := by
  rw [List.take_succ_eq_append_getElem (by simp [be8]; omega)]
  simp [be8]
theorem low_nat (X t : Nat) : vals [UInt8.ofNat (X / 2 ^ t)] = [.int .u8 ((X : Int) / 2 ^ t % 256)] := by
  simp [vals, bi]
def Z72 : Array Value := bcells (List.replicate 72 0)
theorem Z72_0 : Z72[0]? = some (.int .u8 0) := by kernel_rfl
theorem Z72_made : madeCells (Value.int .u8 0).cells 72 = Z72 := by kernel_rfl
theorem Z72_size : (Z72.setIfInBounds 0 (.int .u8 128)).size = 72 := by kernel_rfl
theorem Z72_take (q : Nat) (h : q < 64) : (Z72.setIfInBounds 0 (.int .u8 128)).toList.take (q + 1) = vals (128 :: List.replicate q 0) := by
  have e : Z72.setIfInBounds 0 (.int .u8 128) = bcells (128 :: List.replicate 71 0) := by
    show (bcells (List.replicate 72 0)).setIfInBounds 0 (.int .u8 (bi 128)) = _
    rw [bcells_set]; rfl
  rw [e]
  show ((128 :: List.replicate 71 0).map fun x => Value.int .u8 (bi x)).take (q + 1) = _
  rw [List.map_cons, List.take_succ_cons, List.map_replicate, List.take_replicate, show min q 71 = q by omega]
  unfold vals
  rw [List.map_cons, List.map_replicate]
set_option maxRecDepth 100000 in
set_option maxHeartbeats 400000 in
/-- what follows n bytes -/
theorem padding_any (n : Int) (w : World) (h0 : 0 ≤ n) (h1 : n < 1152921504606846976) :
    Calls Tryd.prog 56 #[.int .i64 n] w fun e w' => ∃ v, e = .returned v ∧ w'.ownsRow w.heap.size 5 1 v (padB n.toNat).length (vals (padB n.toNat)) ∧ Below w.heap.size w w' := by
  obtain ⟨i0, hi, hz0, hz1, hz2⟩ := info_parts info5
  obtain ⟨p0, p1⟩ := padI_bd (n + 1) 56
  obtain ⟨m, rfl⟩ := Int.eq_ofNat_of_zero_le h0
  rw [Int.toNat_natCast]
  obtain ⟨q, hq⟩ := Int.eq_ofNat_of_zero_le p0
  rw [hq] at p0 p1
  have Hq := Lib.hid hq
  clear hq
  have q1 : q < 64 := by omega
  have hmk : ∀ w' : World, (Instr.makeSlice 34 (.int .i64 (1 + (q : Int))) (.int .i64 72)).run Tryd.prog w' = .ok (.slice (some ⟨w'.heap.size, 0, none⟩) (q + 1) 72) (w'.alloc (.cells Z72 5)) := fun w' => by
    rw [run_make w' 34 5 i0 _ Tryd.underlying34 hi hz0 .i64 .i64 (1 + (q : Int)) 72 (by omega) (by omega) (by omega) (by omega), hz1, ← Z72_made, show (1 + (q : Int)).toNat = q + 1 by omega]
    rfl
  have hz := Z72_0
  go_enter Tryd.func56, Tryd.ntmps56
  go_wp2_with (go_at_call 57; refine (padTo_any _ _ _ (by omega) (by omega) (by omega) (by omega)).mono ?_; rw [Hq.out]; rintro e w' ⟨rfl, rfl⟩)
  clear hmk hz
  have own : (w.alloc (.cells (Z72.setIfInBounds 0 (.int .u8 128)) 5)).ownsRow w.heap.size 5 1 (.slice (some ⟨w.heap.size, 0, none⟩) (q + 1) 72) (q + 1) (vals (128 :: List.replicate q 0)) :=
    ⟨by simp [vals], .inr ⟨w.heap.size, 72, _, rfl, Nat.le_refl _, heap_new rfl, by omega, by decide, by rw [Z72_size], by rw [Nat.mul_one, Z72_take q q1]⟩⟩
  have bel : Below w.heap.size w (w.alloc (.cells (Z72.setIfInBounds 0 (.int .u8 128)) 5)) := (Below.refl _ _).alloc (Nat.le_refl _) _
  generalize w.alloc (.cells (Z72.setIfInBounds 0 (.int .u8 128)) 5) = w4 at *
  obtain ⟨X, hX⟩ : ∃ X : Nat, X = 8 * m := ⟨_, rfl⟩
  have hX2 : 8 * (m : Int) = (X : Int) := by omega
  rw [hX2]
  have HX := Lib.hid hX
  have hX3 : X < 9223372036854775808 := by omega
  clear hX hX2
  go_loopw [3, 5] (fun v s wr => ∃ (j : Nat) (sh : Int), j ≤ 8 ∧ 8 * (j : Int) + sh = 56 ∧ v = .slice (some ⟨w.heap.size, 0, none⟩) (q + 1 + j) 72 ∧ s = .int .i64 sh ∧
      wr.ownsRow w.heap.size 5 1 (.slice (some ⟨w.heap.size, 0, none⟩) (q + 1 + j) 72) (q + 1 + j) (vals (128 :: List.replicate q 0) ++ vals ((be8 X).take j)) ∧ Below w.heap.size w wr)
    (fun _ s _ => (intOf s + 8).toNat)
  case atStart => exact ⟨0, 56, by omega, by omega, rfl, rfl, by simpa [vals] using own, bel⟩
  case round =>
    clear own bel
    obtain ⟨j, sh, hj, hsh, rfl, rfl, hown, hb⟩ := hrel
    have Hown := Lib.hid hown
    have HB := Lib.hid hb
    clear hown hb
    have Hi := Lib.hid (And.intro hi (And.intro hz0 (And.intro hz1 hz2)))
    clear hi hz0 hz1 hz2 h0
    have s2 : sh ≤ 56 := by omega
    by_cases hlt : j < 8
    · have s1 : 0 ≤ sh := by omega
      have Hsh := Lib.hid hsh
      clear hsh
      obtain ⟨t, rfl⟩ := Int.eq_ofNat_of_zero_le s1
      have e1 : min t 64 = t := by omega
      clear h1 p0 hX3
      have hs0 := Hi.out.2.2.1
      have HS := Lib.hid hs0
      clear hs0
      go_wp2_with (at_builtin; refine wpList_append_fits _ rfl (.tmp 20) (.tmp 25) 34 rfl w.heap.size 5 i0 1 Tryd.underlying34 Hi.out.1 HS.out w.heap.size (q + 1 + j) 72 _ rfl (Hown.out.alloc _) ⟨wr.heap.size, 0, none⟩ 1 1 [.int .u8 ((X : Int) / 2 ^ t % 256)] rfl rfl (cell_one_new _ _ _) (by simp [Value.oneCell']) (by omega) ?_)
      intro w5 hown5 hgrow
      have R : w5.ownsRow w.heap.size 5 1 (.slice (some ⟨w.heap.size, 0, none⟩) (q + 1 + (j + 1)) 72) (q + 1 + (j + 1)) (vals (128 :: List.replicate q 0) ++ vals ((be8 X).take (j + 1))) := by
        rw [be8_take X j hlt, vals_app, low_nat X (56 - 8 * j), show 56 - 8 * j = t by have := Hsh.out; omega]
        exact hown5
      have B5 : Below w.heap.size w w5 := (HB.out.alloc HB.out.size _).grown hgrow (by simp; have := HB.out.size; omega) (fun r hr => by cases hr; exact Nat.le_refl _)
      clear hgrow hown5
      have HR := Lib.hid R
      have HB5 := Lib.hid B5
      clear R B5
      go_wp2
      go_roundw
      case rel => exact ⟨j + 1, (t : Int) - 8, by omega, by have := Hsh.out; omega, rfl, rfl, HR.out, HB5.out⟩
      case measure => have := Hsh.out; simp [intOf]; omega
    · obtain rfl : j = 8 := by omega
      obtain rfl : sh = -8 := by omega
      go_wp2
      go_ret
      refine ⟨_, rfl, ?_, HB.out⟩
      have := Hown.out
      rw [← vals_app, show (be8 X).take 8 = be8 X from List.take_of_length_le (by simp [be8])] at this
      unfold padB
      rw [Hq.out, Int.toNat_natCast, ← HX.out]
      simpa [be8] using this
end Go.Proofs.YthffegfcgmhppaaDoor.Dg
namespace Go.Proofs.YthffegfcgmhppaaDoor.Dg
set_option maxRecDepth 100000
open Go.RowKit
/-- a slice that reads as bytes -/
def Bs (w : World) (a : Option Addr) (n c : Nat) (l : List UInt8) : Prop :=
  l.length = n ∧ n ≤ c ∧ c ≤ maxLen ∧ (a = none → c = 0) ∧ (0 < n → ∃ b off, a = some ⟨b, off, none⟩ ∧ ∀ i, i < n → w.cell? ⟨b, off + i, none⟩ = some (.int .u8 (bi (byteAt l i))))
theorem Bs.below {w w' : World} {a : Option Addr} {n c : Nat} {l : List UInt8} (h : Bs w a n c l) (hb : Below w.heap.size w w') : Bs w' a n c l := by
  obtain ⟨h1, h2, h3, h4, h5⟩ := h
  refine ⟨h1, h2, h3, h4, fun hn => ?_⟩
  obtain ⟨b, off, ha, hc⟩ := h5 hn
  have hbl : b < w.heap.size := block_lt_of_cell (hc 0 hn)
  exact ⟨b, off, ha, fun i hi => (hb.cell (p := ⟨b, off + i, none⟩) hbl).trans (hc i hi)⟩
theorem Bs.drewN {w : World} {a : Option Addr} {n c : Nat} {l : List UInt8} (h : Bs w a n c l) (k : Nat) : Bs (w.drewN k) a n c l := h
theorem Bs.alloc {w : World} {a : Option Addr} {n c : Nat} {l : List UInt8} (h : Bs w a n c l) (o : Obj) : Bs (w.alloc o) a n c l :=
  h.below ((Below.refl _ _).alloc (Nat.le_refl _) _)
/-- the nil slice, an empty slice -/
theorem Bs_empty (w : World) (a : Option Addr) (c : Nat) (hc : c ≤ maxLen) (ha : a = none → c = 0) : Bs w a 0 c [] :=
  ⟨rfl, Nat.zero_le _, hc, ha, fun h => absurd h (by omega)⟩
theorem byteAt_lt (l : List UInt8) (i : Nat) (h : i < l.length) : byteAt l i = l[i] := by simp [byteAt, h]
theorem byteAt_take (l : List UInt8) (k i : Nat) (h : i < k) : byteAt (l.take k) i = byteAt l i := by
  simp only [byteAt, List.getD_eq_getElem?_getD, List.getElem?_take, if_pos h]
theorem byteAt_drop (l : List UInt8) (k i : Nat) : byteAt (l.drop k) i = byteAt l (k + i) := by
  simp only [byteAt, List.getD_eq_getElem?_getD, List.getElem?_drop]
/-- what a row of the call's own reads as -/
theorem Bs_of_own {w : World} {base : Nat} {v : Value} {l : List UInt8} (h : w.ownsRow base 5 1 v l.length (vals l)) :
    ∃ a c, v = .slice a l.length c ∧ Bs w a l.length c l := by
  obtain ⟨_, ⟨rfl, hn⟩ | ⟨g, cap, cur, rfl, hb, hg, hnc, hcm, hcs, htk⟩⟩ := h
  · have : l = [] := List.eq_nil_of_length_eq_zero hn
    subst this
    exact ⟨none, 0, rfl, Bs_empty _ _ _ (Nat.zero_le _) (fun _ => rfl)⟩
  · refine ⟨some ⟨g, 0, none⟩, cap, rfl, rfl, hnc, hcm, fun h => (by cases h), fun _ => ⟨g, 0, rfl, fun i hi => ?_⟩⟩
    rw [Nat.zero_add, cell_of_row w g i cur _ _ hg]
    have h1 : (cur.toList.take (l.length * 1))[i]? = (vals l)[i]? := by rw [htk]
    rw [List.getElem?_take, if_pos (by omega)] at h1
    rw [← Array.getElem?_toList, h1]
    simp [vals, byteAt, hi]
/-- append of a slice of bytes onto a row of the call's own -/
theorem append_bs {w : World} {ops : Array Oper} {rest : List Oper} {o : Oper} {act : Act} {Q : Exit → Act → World → Prop} (hgd : o.guard = none) (s x : Operand)
    (ho : o.op = .call { callee := .builtin .append, args := #[s, x], argTypes := #[34, 34] }) (base : Nat)
    (v : Value) (n : Nat) (xs : List Value) (hs : act.eval s = v) (hown : w.ownsRow base 5 1 v n xs)
    (a : Option Addr) (m c : Nat) (l : List UInt8) (hx : act.eval x = .slice a m c) (hB : Bs w a m c l) (hn : n + m ≤ 140737488355328) (hbase : base ≤ w.heap.size)
    (h : ∀ v' w', w'.ownsRow base 5 1 v' (n + m) (xs ++ vals l) → w.grownBy w' v.ownBlock → wpList Tryd.prog ops Q rest (act.put o.dst v') w') :
    wpList Tryd.prog ops Q (o :: rest) act w := by
  obtain ⟨i0, hi, hz0, hz1, hz2⟩ := info_parts info5
  obtain ⟨h1, h2, h3, h4, h5⟩ := hB
  cases a with
  | none =>
    have hc := h4 rfl
    subst hc
    have hm : m = 0 := by omega
    subst hm
    have hl : l = [] := List.eq_nil_of_length_eq_zero h1
    subst hl
    refine wpList_append_own_none hgd s x 34 ho base 5 i0 1 Tryd.underlying34 hi v n xs hs hown hx (h v w ?_ (World.grownBy.refl _ _))
    simpa [vals] using hown
  | some ad =>
    refine wpList_append_own w hgd s x 34 ho base 5 i0 (.int .u8 0) 1 1 Tryd.underlying34 hi hz0 hz1 hz2 rfl (by decide) v n xs hs hown ad m c (vals l) hx (by rw [vals_len, h1]; omega) ?_ (vals_one l) (by unfold maxLen; omega) (by omega) hbase (fun v' w' a1 a2 _ => h v' w' a1 a2)
    intro j u hu
    obtain ⟨hj, rfl⟩ := vals_get l j u hu
    obtain ⟨b, off, hab, hc⟩ := h5 (by omega)
    cases hab
    rw [show (⟨b, off, none⟩ : Addr).add j = ⟨b, off + j, none⟩ by unfold Addr.add; split <;> simp_all]
    exact hc j (by omega)
theorem own_below {B : Nat} {a w w' : World} {v : Value} {n : Nat} {xs : List Value} (h : Below B a w) (hown : w.ownsRow B 5 1 v n xs) (hg : w.grownBy w' v.ownBlock) (hB : B ≤ w.heap.size) : Below B a w' :=
  h.grown hg hB (fun k hk => (hown.lt k hk).1)
/-- append of n zero bytes onto the nil slice -/
theorem append_zeros {w : World} {ops : Array Oper} {rest : List Oper} {o : Oper} {act : Act} {Q : Exit → Act → World → Prop} (hgd : o.guard = none) (s x : Operand)
    (ho : o.op = .call { callee := .builtin .append, args := #[s, x], argTypes := #[34, 3] }) (n : Nat) (h0 : 0 < n) (hn : n ≤ 140737488355328)
    (hs : act.eval s = .slice none 0 0) (hx : act.eval x = .int .i64 n)
    (hh : ∀ (G : Nat) (cs : Array Value), n ≤ G → G ≤ maxLen → cs.size = G → wpList Tryd.prog ops Q rest (act.put o.dst (.slice (some ⟨w.heap.size, 0, none⟩) n G)) (w.drew.alloc (.cells cs 5))) :
    wpList Tryd.prog ops Q (o :: rest) act w := by
  obtain ⟨i0, hi, hz0, hz1, hz2⟩ := info_parts info5
  have h := Lib.run_append_grow_zeros (P := Tryd.prog) w 34 3 o.type 5 i0 (.int .u8 0) .i64 .i64 Tryd.underlying34 Tryd.underlying3 hi hz0 none 0 0 [] (run_firstCells_none w.drew i0.size 0 0 0) n h0 (by omega) (by omega) (by omega) (by rw [hz2]; omega)
    (by rw [hz2]; exact growslice_fits (by omega) (by omega))
  rw [Nat.zero_add] at h
  have hG := grownCap_ge w n 0 5
  have hG2 := grownCap_le_maxLen w n 0 5 (by unfold maxLen; omega)
  refine wpList_plain hgd fun K hK => ?_
  unfold Oper.wp
  simp only [execOp, ho, resolve, invoke, builtin, hs, hx, List.map_cons, List.map_nil, List.map_toArray, Sem.run_bind, Sem.run_pure, Result.andThen_ok, h]
  refine hK _ _ (hh _ _ hG hG2 ?_)
  simp only [Array.size_append, size_zeroCells, List.size_toArray, List.length_nil, Value.cells]
  simp
  omega
set_option maxRecDepth 100000 in
set_option maxHeartbeats 400000 in
/-- slices.Grow of the nil slice -/
theorem grow_any (n : Nat) (w : World) (hn : n ≤ 140737488355328) :
    Calls Tryd.prog 66 #[.slice none 0 0, .int .i64 n] w fun e w' => ∃ v, e = .returned v ∧ w'.ownsRow w.heap.size 5 1 v 0 [] ∧ Below w.heap.size w w' := by
  by_cases h0 : n = 0
  · subst h0
    go_enter Tryd.func66, Tryd.ntmps66
    go_wp2
    go_ret
    exact ⟨_, rfl, World.ownsRow_nil _ _ _ _, Below.refl _ _⟩
  · have n1 : ¬ ((n : Int) < 0) := by omega
    have n2 : (0 : Int) < (n : Int) := by omega
    have n3 : 0 < n := by omega
    go_enter Tryd.func66, Tryd.ntmps66
    go_wp2_with (at_builtin; refine append_zeros rfl (.tmp 20) (.tmp 21) rfl n n3 hn rfl rfl ?_)
    intro G cs hG hG2 hcs
    have hm : G ≤ 9223372036854775807 := hG2
    have Hcs := Lib.hid hcs
    clear hcs
    go_wp2
    go_ret
    refine ⟨_, rfl, ⟨rfl, .inr ⟨w.heap.size, G, cs, rfl, Nat.le_refl _, ?_, Nat.zero_le _, hG2, by rw [Hcs.out, Nat.mul_one], rfl⟩⟩, ?_⟩
    · exact heap_new rfl
    · exact ((Below.refl _ _).alloc (Nat.le_refl _) _).drew
end Go.Proofs.YthffegfcgmhppaaDoor.Dg
namespace Go.Proofs.YthffegfcgmhppaaDoor.Dg
set_option maxRecDepth 100000
open Go.RowKit
/-- a piece: a slice value and the bytes that it reads as -/
structure Pc where
  a : Option Addr
  n : Nat
  c : Nat
  l : List UInt8
def Pc.val (p : Pc) : Value := .slice p.a p.n p.c
def joined (ps : List Pc) : List UInt8 := ps.flatMap Pc.l
def Pcs (w : World) (S : Nat) (ps : List Pc) : Prop := (∀ i (h : i < ps.length), w.cell? ⟨S, i, none⟩ = some ps[i].val) ∧ ∀ p ∈ ps, Bs w p.a p.n p.c p.l
theorem Pcs.below {w w' : World} {S : Nat} {ps : List Pc} (h : Pcs w S ps) (hS : S < w.heap.size) (hb : Below w.heap.size w w') : Pcs w' S ps :=
  ⟨fun i hi => (hb.cell (p := ⟨S, i, none⟩) hS).trans (h.1 i hi), fun p hp => (h.2 p hp).below hb⟩
theorem joined_take (ps : List Pc) (k : Nat) (h : k < ps.length) : joined (ps.take (k + 1)) = joined (ps.take k) ++ ps[k].l := by
  unfold joined
  rw [List.take_succ_eq_append_getElem h, List.flatMap_append]
  simp
theorem joined_len_le (ps : List Pc) (k : Nat) : (joined (ps.take k)).length ≤ (joined ps).length := by
  unfold joined
  rw [← List.take_append_drop k ps, List.flatMap_append]
  simp
set_option maxRecDepth 100000 in
set_option maxHeartbeats 400000 in
theorem concat_any (ps : List Pc) (S : Nat) (w : World) (hP : Pcs w S ps) (hS : S < w.heap.size) (hk : ps.length ≤ 1000000) (hn : (joined ps).length ≤ 140737488355328) :
    Calls Tryd.prog 59 #[.slice (some ⟨S, 0, none⟩) ps.length ps.length] w fun e w' => ∃ a c, e = .returned (.slice a (joined ps).length c) ∧ Bs w' a (joined ps).length c (joined ps) ∧ Below w.heap.size w w' := by
  obtain ⟨K, hK⟩ : ∃ K, K = ps.length := ⟨_, rfl⟩
  rw [← hK] at hk ⊢
  have HK := Lib.hid hK
  clear hK
  go_enter Tryd.func59, Tryd.ntmps59
  go_wp2
  go_loop [3, 5, 11] (fun s _ i => ∃ k : Nat, k ≤ K ∧ i = .int .i64 k ∧ s = .int .i64 ((joined (ps.take k)).length : Nat)) (fun _ _ i => K - (intOf i).toNat)
  case atStart => exact ⟨0, Nat.zero_le _, rfl, rfl⟩
  case round =>
    obtain ⟨k, hk2, rfl, rfl⟩ := hrel
    by_cases hlt : k < K
    · have hkl : k < ps.length := by have := HK.out; omega
      have hc : w.cell? ⟨S, k, none⟩ = some (.slice ps[k].a ps[k].n ps[k].c) := hP.1 k hkl
      have hl : ps[k].l.length = ps[k].n := (hP.2 _ (List.getElem_mem hkl)).1
      have hj := joined_take ps k hkl
      have hb := joined_len_le ps (k + 1)
      have hlen : (joined (ps.take k)).length + ps[k].n = (joined (ps.take (k + 1))).length := by rw [hj, List.length_append, hl]
      generalize ps[k] = p at *
      generalize (joined (ps.take k)).length = A at *
      generalize hA2 : (joined (ps.take (k + 1))).length = A2 at *
      have hA3 : A + p.n ≤ 140737488355328 := by omega
      have HA2 := Lib.hid hA2
      have HL := Lib.hid hlen
      have HP := Lib.hid hP
      clear hA2 hlen hj hl hb hP hn
      go_wp2
      go_round
      case rel => exact ⟨k + 1, by omega, by go_num, by rw [HA2.out, ← HL.out]; go_num⟩
      case measure => simp [intOf]; omega
    · obtain rfl : k = K := by omega
      have e1 : joined (ps.take k) = joined ps := by rw [HK.out, List.take_length]
      have HP := Lib.hid hP
      have hn2 := hn
      obtain ⟨N, hN⟩ : ∃ N, N = (joined ps).length := ⟨_, rfl⟩
      rw [e1, ← hN]
      rw [← hN] at hn
      have HN := Lib.hid hN
      clear e1 hP hN hn2
      go_wp2_with (go_at_call 66; refine (grow_any _ _ hn).mono ?_; rintro e w1 ⟨v, rfl, hown, hb1⟩)
      have Hown := Lib.hid hown
      have HB := Lib.hid hb1
      clear hown hb1
      go_loopw [6, 8, 27] (fun v _ i wr => ∃ j : Nat, j ≤ k ∧ i = .int .i64 j ∧ wr.ownsRow w.heap.size 5 1 v (joined (ps.take j)).length (vals (joined (ps.take j))) ∧ Below w.heap.size w wr) (fun _ _ i _ => k - (intOf i).toNat)
      case atStart => exact ⟨0, Nat.zero_le _, rfl, Hown.out, HB.out⟩
      case round =>
        clear Hown HB
        obtain ⟨j, hj, rfl, hown, hb⟩ := hrel
        have Hown := Lib.hid hown
        have HB := Lib.hid hb
        clear hown hb
        by_cases hlj : j < k
        · have hkl : j < ps.length := by have := HK.out; omega
          have hc : wr.cell? ⟨S, j, none⟩ = some (.slice ps[j].a ps[j].n ps[j].c) := (HB.out.cell (p := ⟨S, j, none⟩) hS).trans (HP.out.1 j hkl)
          have hBs : Bs wr ps[j].a ps[j].n ps[j].c ps[j].l := (HP.out.2 _ (List.getElem_mem hkl)).below HB.out
          have hjj := joined_take ps j hkl
          have hbd := joined_len_le ps (j + 1)
          have hlen : (joined (ps.take j)).length + ps[j].n = (joined (ps.take (j + 1))).length := by rw [hjj, List.length_append, hBs.1]
          have hlow : (joined (ps.take j)).length + ps[j].n ≤ 140737488355328 := by have := HN.out; omega
          generalize ps[j] = p at *
          have HBs := Lib.hid hBs
          have Hjj := Lib.hid hjj
          have Hlen := Lib.hid hlen
          have Hlow := Lib.hid hlow
          clear hBs hjj hlen hbd hlow
          go_wp2_with (at_builtin; refine append_bs rfl (.tmp 31) (.tmp 32) rfl w.heap.size _ _ _ rfl Hown.out p.a p.n p.c p.l rfl HBs.out Hlow.out HB.out.size ?_)
          intro v' w5 hown5 hgrow
          have R : w5.ownsRow w.heap.size 5 1 v' (joined (ps.take (j + 1))).length (vals (joined (ps.take (j + 1)))) := by
            rw [Hjj.out, vals_app, List.length_append, HBs.out.1]; exact hown5
          have B5 := own_below HB.out Hown.out hgrow HB.out.size
          have HR := Lib.hid R
          have HB5 := Lib.hid B5
          clear R B5 hown5 hgrow hc
          go_wp2
          go_roundw
          case rel => exact ⟨j + 1, by omega, by go_num, HR.out, HB5.out⟩
          case measure => simp [intOf]; omega
        · obtain rfl : j = k := by omega
          have e1 : joined (ps.take j) = joined ps := by rw [HK.out, List.take_length]
          have R := Hown.out
          rw [e1] at R
          obtain ⟨a, c, rfl, hBs⟩ := Bs_of_own R
          have HBs := Lib.hid hBs
          clear hBs R e1 Hown
          go_wp2
          go_ret
          exact ⟨a, c, rfl, HBs.out, HB.out⟩
end Go.Proofs.YthffegfcgmhppaaDoor.Dg
namespace Go.Proofs.YthffegfcgmhppaaDoor.Dg
set_option maxRecDepth 100000
open Go.RowKit
/-- the chaining values after k blocks of l -/
def absTo (hs : List (BitVec 32)) (l : List UInt8) : Nat → List (BitVec 32)
  | 0 => hs
  | k + 1 => mixW (absTo hs l k) (wordsOf ((l.drop (64 * k)).take 64))
theorem mixW_len (hs ws : List (BitVec 32)) (h : hs.length = 8) : (mixW hs ws).length = 8 := by simp [mixW, h, V8.list]
theorem absTo_len (hs : List (BitVec 32)) (l : List UInt8) (h : hs.length = 8) (k : Nat) : (absTo hs l k).length = 8 := by
  induction k with
  | zero => exact h
  | succ k ih => exact mixW_len _ _ ih
def absH (hs : List (BitVec 32)) (l : List UInt8) : List (BitVec 32) := absTo hs l (l.length / 64)
def absR (l : List UInt8) : List UInt8 := l.drop (64 * (l.length / 64))
/-- words as values -/
def wvals (l : List (BitVec 32)) : List Value := l.map fun x => Value.int .u32 (wi x)
theorem wvals_arr (l : List (BitVec 32)) : (wvals l).toArray = wcells l := rfl
theorem wvals_len (l : List (BitVec 32)) : (wvals l).length = l.length := by simp [wvals]
theorem wvals_one (l : List (BitVec 32)) : ∀ v ∈ wvals l, v.oneCell' = true := by simp [wvals, Value.oneCell']
theorem range_below {w w' : World} {b o : Nat} {cs : List Value} (h : w.rangeAt b o cs) (hb : Below w.heap.size w w') : w'.rangeAt b o cs := fun j v hv => by
  have hc := h j v hv
  exact (hb.cell (p := ⟨b, o + j, none⟩) (block_lt_of_cell hc)).trans hc
theorem there_below {w w' : World} {b o n : Nat} (h : w.there b o n) (hb : Below w.heap.size w w') : w'.there b o n := fun j hj => by
  obtain ⟨h1, h2⟩ := h j hj
  obtain ⟨v, hv⟩ := Option.isSome_iff_exists.1 h1
  have hl := block_lt_of_cell hv
  exact ⟨by rw [hb.cell (p := ⟨b, o + j, none⟩) hl]; exact h1, by rw [hb.frozen (p := ⟨b, o + j, none⟩) hl]; exact h2⟩
theorem tabs_below {w w' : World} (h : Tabs w) (hb : Below w.heap.size w w') : Tabs w' := h.below hb h.2.2
/-- an array of eight words in a block: that it is there, and what it reads as -/
def Row8 (w : World) (g o : Nat) : Prop := ∃ l : List (BitVec 32), l.length = 8 ∧ w.rangeAt g o (wvals l) ∧ w.there g o 8
def row8 (w : World) (g o : Nat) : List (BitVec 32) := (List.range 8).map fun j => match w.cell? ⟨g, o + j, none⟩ with | some (.int _ n) => BitVec.ofInt 32 n | _ => 0
theorem row8_of {w : World} {g o : Nat} {l : List (BitVec 32)} (hl : l.length = 8) (h : w.rangeAt g o (wvals l)) : row8 w g o = l := by
  apply List.ext_getElem (by simp [row8, hl])
  intro j h1 h2
  have hc : w.cell? ⟨g, o + j, none⟩ = some (.int .u32 (wi l[j])) := h j _ (by simp [wvals, h2])
  simp [row8, hc, ofInt_wi]
theorem row8_len (w : World) (g o : Nat) : (row8 w g o).length = 8 := by simp [row8]
theorem row8_mk {w : World} {g o : Nat} {l : List (BitVec 32)} (hl : l.length = 8) (h : w.rangeAt g o (wvals l)) (ht : w.there g o 8) : Row8 w g o := ⟨l, hl, h, ht⟩
theorem Row8.range {w : World} {g o : Nat} (h : Row8 w g o) : w.rangeAt g o (wvals (row8 w g o)) := by
  obtain ⟨l, hl, h1, h2⟩ := h
  rw [row8_of hl h1]; exact h1
theorem Row8.thr {w : World} {g o : Nat} (h : Row8 w g o) : w.there g o 8 := by obtain ⟨l, hl, h1, h2⟩ := h; exact h2
theorem Row8.below {w w' : World} {g o : Nat} (h : Row8 w g o) (hb : Below w.heap.size w w') : Row8 w' g o ∧ row8 w' g o = row8 w g o := by
  have h1 := range_below h.range hb
  exact ⟨⟨_, row8_len _ _ _, h1, there_below h.thr hb⟩, row8_of (row8_len _ _ _) h1⟩
theorem Row8_drew (w : World) (g o : Nat) : Row8 w.drew g o ↔ Row8 w g o := by constructor <;> exact id
theorem row8_drew (w : World) (g o : Nat) : row8 w.drew g o = row8 w g o := rfl
theorem load8 (w : World) (g o : Nat) (h : Row8 w g o) : (Instr.loadAt 93 (.pointer (some ⟨g, o, none⟩))).run Tryd.prog w = .ok (.agg (wcells (row8 w g o))) w :=
  run_loadAt_mid w g o 93 (wvals (row8 w g o)) _ h.range Tryd.underlying93 rfl (by rw [wvals_len, row8_len]; exact size8w)
theorem store8 (w : World) (g o : Nat) (l : List (BitVec 32)) (hl : l.length = 8) (h : Row8 w g o) : (Instr.storeAt 93 (.pointer (some ⟨g, o, none⟩)) (.agg (wcells l))).run Tryd.prog w = .ok () (w.setCells g o (wvals l)) := by
  have := run_storeAt_mid (P := Tryd.prog) w g o 93 (wcells l) (by rw [wcells_size, hl]; exact h.thr) (by rw [wcells_size, hl]; exact size8w) (wcells_one l)
  exact this
/-- sixty-four bytes in a block -/
def Row64 (w : World) (g o : Nat) : Prop := ∃ l : List UInt8, l.length = 64 ∧ w.rangeAt g o (vals l)
def row64 (w : World) (g o : Nat) : List UInt8 := (List.range 64).map fun j => match w.cell? ⟨g, o + j, none⟩ with | some (.int _ n) => UInt8.ofNat n.toNat | _ => 0
theorem row64_of {w : World} {g o : Nat} {l : List UInt8} (hl : l.length = 64) (h : w.rangeAt g o (vals l)) : row64 w g o = l := by
  apply List.ext_getElem (by simp [row64, hl])
  intro j h1 h2
  have hc : w.cell? ⟨g, o + j, none⟩ = some (.int .u8 (bi l[j])) := h j _ (by simp [vals, h2])
  simp [row64, hc, bi]
theorem row64_len (w : World) (g o : Nat) : (row64 w g o).length = 64 := by simp [row64]
theorem Row64.range {w : World} {g o : Nat} (h : Row64 w g o) : w.rangeAt g o (vals (row64 w g o)) := by
  obtain ⟨l, hl, h1⟩ := h
  rw [row64_of hl h1]; exact h1
theorem Row64_drew (w : World) (g o : Nat) : Row64 w.drew g o ↔ Row64 w g o := by constructor <;> exact id
theorem row64_drew (w : World) (g o : Nat) : row64 w.drew g o = row64 w g o := rfl
theorem load64 (w : World) (g o : Nat) (h : Row64 w g o) : (Instr.loadAt 75 (.pointer (some ⟨g, o, none⟩))).run Tryd.prog w = .ok (.agg (bcells (row64 w g o))) w :=
  run_loadAt_mid w g o 75 (vals (row64 w g o)) _ h.range Tryd.underlying75 rfl (by rw [vals_len, row64_len]; exact size64b)
/-- the operations that load and store such arrays, by names that the walk does not lay open -/
def load8A (v : Value) : Sem Next := do pure (.value (← Instr.loadAt 93 v))
def store8A (v x : Value) : Sem Next := do Instr.storeAt 93 v x; pure .skip
def load64A (v : Value) : Sem Next := do pure (.value (← Instr.loadAt 75 v))
theorem exec_load8 (ρ : Operand → Value) (d : Option Tmp) (x : Operand) (ty : TypeId) (pos : String) (af : Array Edge) (gd : Option (Nat × Bool)) :
    execOp ρ { dst := d, op := .load 93 x, type := ty, pos := pos, after := af, guard := gd } = load8A (ρ x) := rfl
theorem exec_store8 (ρ : Operand → Value) (d : Option Tmp) (x y : Operand) (ty : TypeId) (pos : String) (af : Array Edge) (gd : Option (Nat × Bool)) :
    execOp ρ { dst := d, op := .store 93 x y, type := ty, pos := pos, after := af, guard := gd } = store8A (ρ x) (ρ y) := rfl
theorem exec_load64 (ρ : Operand → Value) (d : Option Tmp) (x : Operand) (ty : TypeId) (pos : String) (af : Array Edge) (gd : Option (Nat × Bool)) :
    execOp ρ { dst := d, op := .load 75 x, type := ty, pos := pos, after := af, guard := gd } = load64A (ρ x) := rfl
theorem run_load8 (w : World) (g o : Nat) (h : Row8 w g o) : (load8A (.pointer (some ⟨g, o, none⟩))).run Tryd.prog w = .ok (.value (.agg (wcells (row8 w g o)))) w := by
  unfold load8A
  simp only [Sem.run_bind, Sem.run_pure, load8 w g o h, Result.andThen_ok]
theorem run_store8 (w : World) (g o : Nat) (l : List (BitVec 32)) (hl : l.length = 8) (h : Row8 w g o) : (store8A (.pointer (some ⟨g, o, none⟩)) (.agg (wcells l))).run Tryd.prog w = .ok .skip (w.setCells g o (wvals l)) := by
  unfold store8A
  simp only [Sem.run_bind, Sem.run_pure, store8 w g o l hl h, Result.andThen_ok]
theorem run_load64 (w : World) (g o : Nat) (h : Row64 w g o) : (load64A (.pointer (some ⟨g, o, none⟩))).run Tryd.prog w = .ok (.value (.agg (bcells (row64 w g o)))) w := by
  unfold load64A
  simp only [Sem.run_bind, Sem.run_pure, load64 w g o h, Result.andThen_ok]
attribute [local go_sem ↓] exec_load8 exec_store8 exec_load64 Go.wp_at_zero Go.wp_at_succ
theorem arrayAt64 (a : Option Addr) (n c : Nat) (w : World) (h : 64 ≤ n) : (Instr.arrayAt 75 (.slice a n c)).run Tryd.prog w = .ok (.pointer a) w := by
  simp [Instr.arrayAt, run_underlying Tryd.underlying75, Sem.run_bind, Result.andThen, show ¬ n < 64 by omega]
attribute [local go_sem] arrayAt64 run_load8 run_store8 run_load64 Row8_drew row8_drew Row64_drew row64_drew
theorem Below_setCells {B : Nat} {a : World} {b : Nat} (hB : B ≤ b) : ∀ (vs : List Value) (o : Nat) (w : World), Below B a w → Below B a (w.setCells b o vs)
  | [], _, _, h => h
  | v :: r, o, w, h => Below_setCells hB r (o + 1) _ (h.setCell hB v)
theorem heap_setCells {b k : Nat} (hk : k ≠ b) : ∀ (vs : List Value) (o : Nat) (w : World), (w.setCells b o vs).heap[k]? = w.heap[k]?
  | [], _, _ => rfl
  | v :: r, o, w => (heap_setCells hk r (o + 1) _).trans (heap_setCell_other _ _ _ _ hk)
theorem abs_step {w0 wr w1 w2 : World} {o : Obj} {new : List (BitVec 32)} (HB : Below w0.heap.size w0 wr) (hb1 : Below wr.drew.heap.size wr.drew w1) (hb2 : Below w1.heap.size w1 w2) (r8 : Row8 w2 w0.heap.size 0) (hl : new.length = 8)
    (H1 : wr.heap[w0.heap.size + 1]? = some o) :
    (w2.setCells w0.heap.size 0 (wvals new)).rangeAt w0.heap.size 0 (wvals new) ∧ (w2.setCells w0.heap.size 0 (wvals new)).there w0.heap.size 0 8 ∧
      (w2.setCells w0.heap.size 0 (wvals new)).heap[w0.heap.size + 1]? = some o ∧ Below w0.heap.size w0 (w2.setCells w0.heap.size 0 (wvals new)) := by
  have s1 : w0.heap.size + 1 < wr.heap.size := heap_lt H1
  have s2 : wr.heap.size ≤ w1.heap.size := hb1.size
  refine ⟨World.rangeAt_setCells_same _ _ _ _ (by rw [wvals_len, hl]; exact r8.thr), World.there_setCells r8.thr _ _ _, ?_, ?_⟩
  · rw [heap_setCells (by omega), hb2.block _ (by omega), hb1.block _ s1]; exact H1
  · exact Below_setCells (Nat.le_refl _) _ _ _ ((HB.drew.trans (hb1.mono (by have := HB.size; exact this))).trans (hb2.mono (by have := HB.size; omega)))
theorem Bs_drop64 {w : World} {b off n c : Nat} {l : List UInt8} (h : Bs w (some ⟨b, off, none⟩) n c l) (hn : 64 ≤ n) (hc : 64 < c) : Bs w (some ⟨b, off + 64, none⟩) (n - 64) (c - 64) (l.drop 64) := by
  obtain ⟨h1, h2, h3, _, h5⟩ := h
  refine ⟨by rw [List.length_drop, h1], by omega, by omega, fun h => (by cases h), fun hp => ⟨b, off + 64, rfl, fun i hi => ?_⟩⟩
  obtain ⟨b', off', hab, hcell⟩ := h5 (by omega)
  cases hab
  rw [byteAt_drop, Nat.add_assoc]
  exact hcell (64 + i) (by omega)
set_option maxRecDepth 100000 in
set_option maxHeartbeats 400000 in
theorem absorb_any (hs : List (BitVec 32)) (a : Option Addr) (n c : Nat) (l : List UInt8) (w : World) (hT : Tabs w) (hh : hs.length = 8) (hB : Bs w a n c l) (hn : n ≤ 281474976710656) :
    Calls Tryd.prog 58 #[.agg (wcells hs), .slice a n c] w fun e w' => ∃ a' c', e = .returned (.tuple #[.agg (wcells (absH hs l)), .slice a' (absR l).length c']) ∧ Bs w' a' (absR l).length c' (absR l) ∧ Below w.heap.size w w' := by
  have HT := Lib.hid hT
  have Hh := Lib.hid hh
  have HBs := Lib.hid hB
  have hz := hT.2.2
  clear hT hh hB
  go_enter Tryd.func58, Tryd.ntmps58
  go_upto_region 1 with (fail)
  rw [zeros8]
  have h0 : ((w.alloc (.cells (wcells hs) 93)).alloc (.cells (wcells (List.replicate 8 0)) 93)).heap[w.heap.size]? = some (.cells (wcells hs) 93 (0, 0)) := heap_old (heap_new rfl)
  have h1 : ((w.alloc (.cells (wcells hs) 93)).alloc (.cells (wcells (List.replicate 8 0)) 93)).heap[w.heap.size + 1]? = some (.cells (wcells (List.replicate 8 0)) 93 (0, 0)) := heap_new (by simp only [size_alloc1])
  have hbel : Below w.heap.size w ((w.alloc (.cells (wcells hs) 93)).alloc (.cells (wcells (List.replicate 8 0)) 93)) := ((Below.refl _ _).alloc (Nat.le_refl _) _).alloc (by simp) _
  generalize ((w.alloc (.cells (wcells hs) 93)).alloc (.cells (wcells (List.replicate 8 0)) 93)) = w3 at *
  have H0 := Lib.hid h0
  have H1 := Lib.hid h1
  have HB := Lib.hid hbel
  clear h0 h1 hbel
  go_wp2
  go_loopw [1] (fun v wr => ∃ (k n' c' : Nat) (a' : Option Addr), v = .slice a' n' c' ∧ n' + 64 * k = n ∧ Bs w a' n' c' (l.drop (64 * k)) ∧
      wr.rangeAt w.heap.size 0 (wvals (absTo hs l k)) ∧ wr.there w.heap.size 0 8 ∧ wr.heap[w.heap.size + 1]? = some (.cells (wcells (List.replicate 8 0)) 93 (0, 0)) ∧ Below w.heap.size w wr)
    (fun v _ => match v with | .slice _ n' _ => n' | _ => 0)
  case atStart =>
    refine ⟨0, n, c, a, rfl, by omega, HBs.out, ?_, ?_, H1.out, HB.out⟩
    · intro j v hv
      have hj : (wvals hs)[j]? = some v := hv
      rw [Nat.zero_add, cell_of_row w3 _ j _ _ _ H0.out, ← wvals_arr, List.getElem?_toArray]
      exact hj
    · intro j hj
      rw [Nat.zero_add]
      exact ⟨by rw [cell_of_row w3 _ j _ _ _ H0.out, wcells_get hs j (by rw [Hh.out]; exact hj)]; rfl, frozen_of_row w3 _ j _ _ H0.out⟩
  case round =>
    clear H0 H1 HB
    have HBn := HBs.out.1
    clear HBs
    obtain ⟨k, n', c', a', rfl, hnk, hBs, hR, hTh, h1, hb⟩ := hrel
    have Hnk := Lib.hid hnk
    have HR := Lib.hid hR
    have HTh := Lib.hid hTh
    have H1 := Lib.hid h1
    have HB := Lib.hid hb
    have Hn := Lib.hid HBn
    by_cases hlt : 64 ≤ n'
    · obtain ⟨b, off, rfl, hc⟩ := hBs.2.2.2.2 (by omega)
      have hcap : c' ≤ 9223372036854775807 := hBs.2.2.1
      have hnc := hBs.2.1
      have hl := hBs.1
      have hrg : wr.rangeAt b off (vals ((l.drop (64 * k)).take 64)) := by
        intro j v hv
        obtain ⟨hj, rfl⟩ := vals_get _ _ _ hv
        rw [List.length_take] at hj
        rw [byteAt_take _ _ _ (by omega)]
        exact (hb.cell (p := ⟨b, off + j, none⟩) (block_lt_of_cell (hc j (by omega)))).trans (hc j (by omega))
      have hbl : ((l.drop (64 * k)).take 64).length = 64 := by rw [List.length_take]; omega
      obtain ⟨blk, hblk⟩ : ∃ blk, blk = (l.drop (64 * k)).take 64 := ⟨_, rfl⟩
      rw [← hblk] at hrg hbl
      have Hblk := Lib.hid hblk
      have hcur : (absTo hs l k).length = 8 := absTo_len hs l Hh.out k
      obtain ⟨cur, hcu⟩ : ∃ cur, cur = absTo hs l k := ⟨_, rfl⟩
      rw [← hcu] at hR hcur
      have Hcu := Lib.hid hcu
      have HBs := Lib.hid hBs
      have Hc := Lib.hid hc
      clear hblk hcu hnk h1 hb HBn hBs hc HR HTh hl
      have hT : Tabs wr := HT.out.below HB.out hz
      have r8 : Row8 wr w.heap.size 0 := row8_mk hcur hR hTh
      have e8 : row8 wr w.heap.size 0 = cur := row8_of hcur hR
      have r64 : Row64 wr b off := ⟨blk, hbl, hrg⟩
      have e64 : row64 wr b off = blk := row64_of hbl hrg
      clear hR hTh hrg
      go_wp2
      have ml : (mixW cur (wordsOf blk)).length = 8 := mixW_len _ _ hcur
      go_region_with (first | (go_at_call 65; refine (split_any blk _ hbl).mono ?_; rintro e w' ⟨rfl, hb1⟩; have r8a := (Row8.below (w := wr.drew) r8 hb1).1; have e8a := (Row8.below (w := wr.drew) r8 hb1).2.trans e8; have ta := tabs_below (w := wr.drew) hT hb1) | (go_at_call 64; refine (mix_any cur (wordsOf blk) _ (by assumption) hcur rfl).mono ?_; rintro e w' ⟨rfl, hb2⟩; have r8b := (Row8.below r8a hb2).1))
      all_goals
        have F := abs_step HB.out hb1 hb2 r8b ml H1.out
        have HF := Lib.hid F
        clear F hb1 hb2 r8a e8a ta r8b hT r8 e8 r64 e64
        generalize World.setCells _ _ _ _ = W5 at *
        have hstep : wvals (absTo hs l (k + 1)) = wvals (mixW cur (wordsOf blk)) := by rw [absTo, ← Hcu.out, ← Hblk.out]
        have Hstep := Lib.hid hstep
        clear hstep
        by_cases hc64 : c' = 64
        · subst hc64
          obtain rfl : n' = 64 := by omega
          go_wp2
          go_roundw
          case rel =>
            refine ⟨k + 1, 0, 0, _, rfl, by have := Hnk.out; omega, ?_, by rw [Hstep.out]; exact HF.out.1, HF.out.2.1, HF.out.2.2.1, HF.out.2.2.2⟩
            rw [List.drop_eq_nil_of_le (by have := Hnk.out; have := Hn.out; omega)]
            exact Bs_empty _ _ _ (Nat.zero_le _) (fun _ => rfl)
          case measure => simp
        · go_wp2
          go_roundw
          case rel =>
            refine ⟨k + 1, n' - 64, c' - 64, _, rfl, by have := Hnk.out; omega, ?_, by rw [Hstep.out]; exact HF.out.1, HF.out.2.1, HF.out.2.2.1, HF.out.2.2.2⟩
            have := Bs_drop64 HBs.out hlt (by omega)
            rw [List.drop_drop] at this
            exact this
          case measure => simp; omega
    · have hk1 : l.length / 64 = k := by have := Hn.out; have := Hnk.out; omega
      have hk2 : n' = (absR l).length := by
        unfold absR; rw [List.length_drop, hk1]; have := Hn.out; have := Hnk.out; omega
      have hcur : (absTo hs l k).length = 8 := absTo_len hs l Hh.out k
      have hrest : Bs w a' n' c' (absR l) := by unfold absR; rw [hk1]; exact hBs
      have hah : absH hs l = absTo hs l k := by unfold absH; rw [hk1]
      rw [← hah] at hR hcur
      have HR := Lib.hid hrest
      have Hk2 := Lib.hid hk2
      have HB := Lib.hid hb
      have r8 : Row8 wr w.heap.size 0 := row8_mk hcur hR hTh
      have e8 : row8 wr w.heap.size 0 = absH hs l := row8_of hcur hR
      have r9 : Row8 wr (w.heap.size + 1) 0 := by
        refine row8_mk (l := List.replicate 8 0) (by simp) ?_ ?_
        · intro j v hv
          rw [Nat.zero_add, cell_of_row wr _ j _ _ _ h1, ← wvals_arr, List.getElem?_toArray]
          exact hv
        · intro j hj
          rw [Nat.zero_add]
          exact ⟨by rw [cell_of_row wr _ j _ _ _ h1, wcells_get _ j (by simpa using hj)]; rfl, frozen_of_row wr _ j _ _ h1⟩
      have R9 := Lib.hid r9
      have Hcur := Lib.hid hcur
      clear hBs hR hTh h1 hb hk1 hk2 hrest hah hnk HBn Hn Hnk H1
      go_wp2
      have hld : (loadVar 93 ⟨w.heap.size + 1, 0, none⟩).run Tryd.prog (wr.setCells (w.heap.size + 1) 0 (wvals (absH hs l))) = .ok (.agg (wcells (absH hs l))) (wr.setCells (w.heap.size + 1) 0 (wvals (absH hs l))) :=
        run_loadVar_mid _ _ _ 93 (wvals (absH hs l)) _ (World.rangeAt_setCells_same _ _ _ _ (by rw [wvals_len, Hcur.out]; exact R9.out.thr)) Tryd.underlying93 rfl (by rw [wvals_len, Hcur.out]; exact size8w)
      have hfin : Below w.heap.size w (wr.setCells (w.heap.size + 1) 0 (wvals (absH hs l))) := Below_setCells (by omega) _ _ _ HB.out
      refine bodyPost_ret (v := .tuple #[.agg (wcells (absH hs l)), .slice a' n' c']) ?_ rfl ⟨a', c', by rw [Hk2.out], by rw [← Hk2.out]; exact HR.out.below hfin, hfin⟩
      rw [results_cell_tmp rfl]
      simp [asAddr, Result.andThen, hld]
end Go.Proofs.YthffegfcgmhppaaDoor.Dg
namespace Go.Proofs.YthffegfcgmhppaaDoor.Dg
set_option maxRecDepth 100000
theorem absTo_app (hs : List (BitVec 32)) (x y : List UInt8) (k : Nat) (h : 64 * k ≤ x.length) : absTo hs (x ++ y) k = absTo hs x k := by
  induction k with
  | zero => rfl
  | succ k ih =>
    rw [absTo, absTo, ih (by omega)]
    congr 2
    rw [List.drop_append_of_le_length (by omega), List.take_append_of_le_length (by rw [List.length_drop]; omega)]
theorem absTo_shift (hs : List (BitVec 32)) (x y : List UInt8) (j : Nat) (hx : x.length = 64 * j) (k : Nat) : absTo hs (x ++ y) (j + k) = absTo (absTo hs x j) y k := by
  induction k with
  | zero => exact absTo_app hs x y j (by omega)
  | succ k ih =>
    rw [← Nat.add_assoc, absTo, absTo, ih]
    congr 2
    rw [show 64 * (j + k) = x.length + 64 * k by omega, List.drop_append]
    rw [List.drop_of_length_le (by omega)]
    simp
theorem absH_app (hs : List (BitVec 32)) (x y : List UInt8) (h : x.length % 64 = 0) : absH hs (x ++ y) = absH (absH hs x) y := by
  unfold absH
  have := absTo_shift hs x y (x.length / 64) (by omega) (y.length / 64)
  rw [List.length_append, show (x.length + y.length) / 64 = x.length / 64 + y.length / 64 by omega]
  exact this
theorem absR_app (x y : List UInt8) (h : x.length % 64 = 0) : absR (x ++ y) = absR y := by
  unfold absR
  rw [List.length_append, show 64 * ((x.length + y.length) / 64) = x.length + 64 * (y.length / 64) by omega, List.drop_append]
  rw [List.drop_of_length_le (by omega)]
  simp
theorem absH_short (hs : List (BitVec 32)) (y : List UInt8) (h : y.length < 64) : absH hs y = hs := by
  unfold absH; rw [show y.length / 64 = 0 by omega]; rfl
theorem absR_short (y : List UInt8) (h : y.length < 64) : absR y = y := by
  unfold absR; rw [show y.length / 64 = 0 by omega]; rfl
theorem absR_full (y : List UInt8) (h : y.length % 64 = 0) : absR y = [] := by
  unfold absR; exact List.drop_eq_nil_of_le (by omega)
theorem absR_len (y : List UInt8) : (absR y).length = y.length % 64 := by
  unfold absR; rw [List.length_drop]; omega
theorem abs_split (hs : List (BitVec 32)) (l : List UInt8) : ∃ F, l = F ++ absR l ∧ F.length % 64 = 0 ∧ absH hs l = absH hs F := by
  refine ⟨l.take (64 * (l.length / 64)), ?_, ?_, ?_⟩
  · unfold absR; rw [List.take_append_drop]
  · rw [List.length_take]; omega
  · have h : (l.take (64 * (l.length / 64))).length = 64 * (l.length / 64) := by rw [List.length_take]; omega
    unfold absH
    rw [h, show 64 * (l.length / 64) / 64 = l.length / 64 by omega]
    have e := absTo_app hs (l.take (64 * (l.length / 64))) (l.drop (64 * (l.length / 64))) (l.length / 64) (by rw [h]; exact Nat.le_refl _)
    rw [List.take_append_drop] at e
    exact e
/-- how many bytes of the further ones complete the tail -/
def fillOf (l m : List UInt8) : Nat := min m.length (padI ((absR l).length : Int) 0).toNat
theorem fillOf_le (l m : List UInt8) : fillOf l m ≤ m.length := Nat.min_le_left _ _
theorem padI_zero (n : Nat) (h : n < 64) : (padI (n : Int) 0).toNat = (64 - n) % 64 := by
  unfold padI; omega
/-- what Write comes to -/
theorem write_spec (l m : List UInt8) :
    absH (absH (absH H8 l) (absR l ++ m.take (fillOf l m))) (m.drop (fillOf l m)) = absH H8 (l ++ m) ∧
      absR (absR l ++ m.take (fillOf l m)) ++ absR (m.drop (fillOf l m)) = absR (l ++ m) := by
  obtain ⟨F, hl, hF, hH⟩ := abs_split H8 l
  have hT : (absR l).length < 64 := by rw [absR_len]; omega
  have hT2 := padI_zero (absR l).length hT
  have hf : fillOf l m = min m.length ((64 - (absR l).length) % 64) := by unfold fillOf; rw [hT2]
  have e1 : absH H8 (l ++ m) = absH (absH H8 l) (absR l ++ m) := by
    conv => lhs; rw [hl, List.append_assoc, absH_app _ _ _ hF]
    rw [hH]
  have e2 : absR (l ++ m) = absR (absR l ++ m) := by
    conv => lhs; rw [hl, List.append_assoc, absR_app _ _ hF]
  rw [e1, e2]
  generalize absR l = T at *
  by_cases hc : m.length < (64 - T.length) % 64
  · have hf2 : fillOf l m = m.length := by rw [hf]; omega
    rw [hf2, List.take_length, List.drop_length]
    rw [absH_short _ [] (by simp), absR_short [] (by simp), List.append_nil]
    exact ⟨rfl, rfl⟩
  · have hf2 : fillOf l m = (64 - T.length) % 64 := by rw [hf]; omega
    have hx : (T ++ m.take (fillOf l m)).length % 64 = 0 := by
      rw [List.length_append, List.length_take, hf2]; omega
    have em : T ++ m = (T ++ m.take (fillOf l m)) ++ m.drop (fillOf l m) := by
      rw [List.append_assoc, List.take_append_drop]
    rw [absR_full _ hx, List.nil_append]
    constructor
    · conv => rhs; rw [em, absH_app _ _ _ hx]
    · conv => rhs; rw [em, absR_app _ _ hx]
end Go.Proofs.YthffegfcgmhppaaDoor.Dg
namespace Go.Proofs.YthffegfcgmhppaaDoor.Dg
set_option maxRecDepth 100000
open Go.RowKit
theorem Bs_from {w3 : World} {a : Option Addr} {n c : Nat} {m : List UInt8} (h : Bs w3 a n c m) (F : Nat) (hF : F ≤ n) :
    Bs w3 (if c = F then a else a.map (fun x => x.add F)) (n - F) (c - F) (m.drop F) := by
  obtain ⟨h1, h2, h3, h4, h5⟩ := h
  have hc : c ≤ 9223372036854775807 := h3
  refine ⟨by rw [List.length_drop, h1], by omega, by unfold maxLen; omega, ?_, fun hp => ?_⟩
  · intro ha
    by_cases hcF : c = F
    · omega
    · rw [if_neg hcF] at ha
      cases a with
      | none => have := h4 rfl; omega
      | some x => cases ha
  · obtain ⟨b, off, hab, hcell⟩ := h5 (by omega)
    subst hab
    rw [if_neg (by omega)]
    refine ⟨b, off + F, ?_, fun i hi => ?_⟩
    · show some (Addr.add ⟨b, off, none⟩ F) = _
      rw [Addr.add_mid]
    · rw [byteAt_drop, Nat.add_assoc]; exact hcell (F + i) (by omega)
def sliceFA (v lo : Value) : Sem Next := do pure (.value (← Instr.sliceAt 34 v (some lo) none none))
theorem exec_sliceF (ρ : Operand → Value) (d : Option Tmp) (x y : Operand) (ty : TypeId) (pos : String) (af : Array Edge) (gd : Option (Nat × Bool)) :
    execOp ρ { dst := d, op := .slice 34 x (some y) none none, type := ty, pos := pos, after := af, guard := gd } = sliceFA (ρ x) (ρ y) := rfl
theorem exec_at_zero {ρ : Operand → Value} {o : Oper} {l : List Oper} {h : 0 < (o :: l).toArray.size} : execOp ρ ((o :: l).toArray[0]'h) = execOp ρ o := rfl
theorem exec_at_succ {ρ : Operand → Value} {o : Oper} {l : List Oper} {n : Nat} {h : n + 1 < (o :: l).toArray.size} : execOp ρ ((o :: l).toArray[n + 1]'h) = execOp ρ (l.toArray[n]'(by simpa using h)) := rfl
theorem run_sliceF {w3 : World} {a : Option Addr} {n c : Nat} {m : List UInt8} (h : Bs w3 a n c m) (F : Nat) (hF : F ≤ n) :
    ∃ a' c', (∀ w, (sliceFA (.slice a n c) (.int .i64 (F : Int))).run Tryd.prog w = .ok (.value (.slice a' (n - F) c')) w) ∧ Bs w3 a' (n - F) c' (m.drop F) := by
  refine ⟨if c = F then a else a.map (fun x => x.add F), c - F, fun w => ?_, Bs_from h F hF⟩
  have h2 := h.2.1
  have hc : c ≤ 9223372036854775807 := h.2.2.1
  have z0 : (0 : Int) ≤ (F : Int) := by omega
  have z1 : (F : Int) ≤ (n : Int) := by omega
  clear h
  unfold sliceFA
  go_simp
end Go.Proofs.YthffegfcgmhppaaDoor.Dg
